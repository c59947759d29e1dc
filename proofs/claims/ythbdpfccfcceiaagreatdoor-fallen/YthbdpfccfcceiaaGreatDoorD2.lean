/-
  The sum of a row of bytes.
-/
import Derived.Test.YthbdpfccfcceiaaGreatDoorY1Y2D1
import Derived.Laws.Bits64
namespace Go.Proofs.YthbdpfccfcceiaaGreatDoor
open Go.RowKit

theorem bxor_u32 (a b : Nat) (ha : a < 4294967296) (hb : b < 4294967296) : bits .xor .u32 (a : Int) (b : Int) = ((a ^^^ b : Nat) : Int) := by
  have hx : a ^^^ b < 2 ^ 32 := Nat.xor_lt_two_pow (by omega) (by omega)
  have h1 : (BitVec.ofInt 32 (a : Int)).toNat = a := by rw [BitVec.ofInt_natCast, BitVec.toNat_ofNat]; exact Nat.mod_eq_of_lt (by omega)
  have h2 : (BitVec.ofInt 32 (b : Int)).toNat = b := by rw [BitVec.ofInt_natCast, BitVec.toNat_ofNat]; exact Nat.mod_eq_of_lt (by omega)
  show IntKind.u32.wrap ((BitVec.ofInt 32 (a : Int) ^^^ BitVec.ofInt 32 (b : Int)).toNat : Int) = _
  rw [BitVec.toNat_xor, h1, h2]
  simp only [IntKind.wrap, IntKind.bits, IntKind.signed]
  simp
  omega
theorem bxor_u8 (a b : Nat) (ha : a < 256) (hb : b < 256) : bits .xor .u8 (a : Int) (b : Int) = ((a ^^^ b : Nat) : Int) := by
  have hx : a ^^^ b < 2 ^ 8 := Nat.xor_lt_two_pow (by omega) (by omega)
  have h1 : (BitVec.ofInt 8 (a : Int)).toNat = a := by rw [BitVec.ofInt_natCast, BitVec.toNat_ofNat]; exact Nat.mod_eq_of_lt (by omega)
  have h2 : (BitVec.ofInt 8 (b : Int)).toNat = b := by rw [BitVec.ofInt_natCast, BitVec.toNat_ofNat]; exact Nat.mod_eq_of_lt (by omega)
  show IntKind.u8.wrap ((BitVec.ofInt 8 (a : Int) ^^^ BitVec.ofInt 8 (b : Int)).toNat : Int) = _
  rw [BitVec.toNat_xor, h1, h2]
  simp only [IntKind.wrap, IntKind.bits, IntKind.signed]
  simp
  omega
theorem bor_u32 (a b : Nat) (ha : a < 4294967296) (hb : b < 4294967296) : bits .or .u32 (a : Int) (b : Int) = ((a ||| b : Nat) : Int) := by
  have hx : a ||| b < 2 ^ 32 := Nat.or_lt_two_pow (by omega) (by omega)
  have h1 : (BitVec.ofInt 32 (a : Int)).toNat = a := by rw [BitVec.ofInt_natCast, BitVec.toNat_ofNat]; exact Nat.mod_eq_of_lt (by omega)
  have h2 : (BitVec.ofInt 32 (b : Int)).toNat = b := by rw [BitVec.ofInt_natCast, BitVec.toNat_ofNat]; exact Nat.mod_eq_of_lt (by omega)
  show IntKind.u32.wrap ((BitVec.ofInt 32 (a : Int) ||| BitVec.ofInt 32 (b : Int)).toNat : Int) = _
  rw [BitVec.toNat_or, h1, h2]
  simp only [IntKind.wrap, IntKind.bits, IntKind.signed]
  simp
  omega

theorem bnot_u32 (a : Nat) (ha : a < 4294967296) : bits .xor .u32 IntKind.u32.max (a : Int) = ((4294967295 - a : Nat) : Int) := by
  have e : 4294967295 ^^^ a = 4294967295 - a := by
    have h1 := BitVec.toNat_not (x := BitVec.ofNat 32 a)
    rw [← BitVec.allOnes_xor, BitVec.toNat_xor, BitVec.toNat_ofNat, Nat.mod_eq_of_lt (show a < 2 ^ 32 by omega)] at h1
    simpa using h1
  rw [← e]
  exact bxor_u32 4294967295 a (by omega) ha

theorem crcB_bytes (bs : List UInt8) : crcB (bs.map UInt8.toNat) < 4294967296 := crcB_lt (fun b hb => by
  obtain ⟨x, _, rfl⟩ := List.mem_map.1 hb
  exact x.toNat_lt)
theorem sumB_lt (bs : List UInt8) : sumB bs < 4294967296 := by unfold sumB; omega

theorem take_snoc8 (bs : List UInt8) (k : Nat) (h : k < bs.length) : bs.take (k + 1) = bs.take k ++ [bs.getD k 0] := by
  rw [List.take_succ_eq_append_getElem h]
  simp [List.getD, List.getElem?_eq_getElem h]

theorem xor_mod (s b : Nat) (hb : b < 256) : s % 256 ^^^ b = (s ^^^ b) % 256 := by
  apply Nat.eq_of_testBit_eq; intro i
  rw [show 256 = 2 ^ 8 from rfl, Nat.testBit_xor, Nat.testBit_mod_two_pow, Nat.testBit_mod_two_pow, Nat.testBit_xor]
  by_cases h : i < 8
  · simp [h]
  · have : b.testBit i = false := Nat.testBit_lt_two_pow (Nat.lt_of_lt_of_le hb (by rw [show 256 = 2 ^ 8 from rfl]; exact Nat.pow_le_pow_right (by omega) (by omega)))
    simp [h, this]

theorem sum_not (bs : List UInt8) : bits .xor .u32 IntKind.u32.max ((sumB bs : Nat) : Int) = ((crcB (bs.map UInt8.toNat) : Nat) : Int) := by
  rw [bnot_u32 _ (sumB_lt bs)]
  have := crcB_bytes bs
  unfold sumB
  congr 1
  omega

theorem sum_nil : ((sumB [] : Nat) : Int) = 0 := by decide

set_option maxRecDepth 20000 in
set_option maxHeartbeats 1000000 in
theorem more_row (g o cap : Nat) (pre bs : List UInt8) (w : World) (hT : Tab w) (hl : bs.length ≤ 1000000000) (hc : ∀ j, j < bs.length → w.cell? ⟨g, o + j, none⟩ = some (b8 (bs.getD j 0))) (n0 : Int) (h0 : n0 = ((sumB pre : Nat) : Int)) :
    Calls Tryz.prog 139 #[.int .u32 n0, .slice (some ⟨g, o, none⟩) bs.length cap] w fun e w' => e = .returned (.int .u32 (sumB (pre ++ bs) : Nat)) ∧ w' = w := by
  have HC : Hid _ := hc
  have e0 : bits .xor .u32 IntKind.u32.max n0 = ((crcB ((pre ++ bs.take 0).map UInt8.toNat) : Nat) : Int) := by rw [h0, sum_not]; simp
  clear hc h0
  generalize hS0 : ((crcB ((pre ++ bs.take 0).map UInt8.toNat) : Nat) : Int) = s0 at e0
  go_enter Tryz.func139, Tryz.ntmps139
  go_wp2
  go_loop [0, 11] (fun s i => ∃ k : Nat, k ≤ bs.length ∧ i = .int .i64 k ∧ s = .int .u32 (crcB ((pre ++ bs.take k).map UInt8.toNat) : Nat)) (fun _ i => bs.length - (intOf i).toNat)
  case atStart => exact ⟨0, Nat.zero_le _, rfl, by rw [hS0]⟩
  case round =>
    obtain ⟨k, hk, rfl, rfl⟩ := hrel
    clear e0 hS0
    have hS0 := crcB_bytes (pre ++ bs.take k)
    by_cases hlt : k < bs.length
    · have hck := HC.out k hlt
      have HT : Hid (crcB ((pre ++ bs.take (k + 1)).map UInt8.toNat) = crcByte (crcB ((pre ++ bs.take k).map UInt8.toNat)) (bs.getD k 0).toNat) := by
        show _ = _
        rw [take_snoc8 bs k hlt, ← List.append_assoc]; simp [crcB]
      generalize crcB ((pre ++ bs.take k).map UInt8.toNat) = S at hS0 HT ⊢
      generalize bs.getD k 0 = B at hck HT
      unfold b8 at hck
      have hB := B.toNat_lt
      generalize B.toNat = b at hck HT hB
      have h1 : bits .xor .u8 ((S : Int) % 256) (b : Int) = (((S ^^^ b) % 256 : Nat) : Int) := by
        rw [← xor_mod S b hB]; exact bxor_u8 (S % 256) b (by omega) hB
      have h2 : bits .xor .u32 ((S : Int) / 256) ((crc8 ((S ^^^ b) % 256) : Nat) : Int) = ((crcByte S b : Nat) : Int) := by
        rw [crcByte_table hB, Nat.xor_comm (crc8 ((S ^^^ b) % 256))]
        exact bxor_u32 (S / 256) (crc8 ((S ^^^ b) % 256)) (by omega) (crc8_lt (by omega))
      have HB : Hid ((S ^^^ b) % 256 < 256) := Nat.mod_lt _ (by omega)
      generalize (S ^^^ b) % 256 = x at h1 h2 HB
      go_wp2_with (go_at_call 188; refine (ofByte_any _ _ hT HB.out).mono ?_; rintro e w' ⟨rfl, rfl⟩)
      go_round
      case rel => exact ⟨k + 1, by omega, by go_num, by rw [HT.out]⟩
      case measure => simp [intOf]; omega
    · have hk' : k = bs.length := by omega
      subst hk'
      have h3 := bnot_u32 _ hS0
      rw [List.take_length] at h3 ⊢
      have HS : Hid (sumB (pre ++ bs) = 4294967295 - crcB ((pre ++ bs).map UInt8.toNat)) := rfl
      generalize crcB ((pre ++ bs).map UInt8.toNat) = S at h3 HS ⊢
      clear hS0
      go_wp2
      go_ret
      exact ⟨by rw [HS.out]; rfl, rfl⟩

set_option maxRecDepth 20000 in
set_option maxHeartbeats 1000000 in
theorem more_nil (p : Option Addr) (cap : Nat) (pre : List UInt8) (w : World) (n0 : Int) (h0 : n0 = ((sumB pre : Nat) : Int)) :
    Calls Tryz.prog 139 #[.int .u32 n0, .slice p 0 cap] w fun e w' => e = .returned (.int .u32 (sumB pre : Nat)) ∧ w' = w := by
  have e0 : bits .xor .u32 IntKind.u32.max n0 = ((crcB (pre.map UInt8.toNat) : Nat) : Int) := by rw [h0, sum_not]
  have e1 := bnot_u32 _ (crcB_bytes pre)
  have HS : Hid (sumB pre = 4294967295 - crcB (pre.map UInt8.toNat)) := rfl
  clear h0
  generalize crcB (pre.map UInt8.toNat) = S at e0 e1 HS
  go_enter Tryz.func139, Tryz.ntmps139
  go_wp2
  go_loop [0, 11] (fun s i => i = .int .i64 0 ∧ s = .int .u32 S) (fun _ _ => 0)
  case atStart => exact ⟨rfl, rfl⟩
  case round =>
    obtain ⟨rfl, rfl⟩ := hrel
    go_wp2
    go_ret
    exact ⟨by rw [HS.out]; rfl, rfl⟩

/-- A row of bytes that may be read. -/
def RdB (w : World) (v : Value) (bs : List UInt8) : Prop := ∃ p cap, v = .slice p bs.length cap ∧ (bs ≠ [] → ∃ g o, p = some ⟨g, o, none⟩ ∧ ∀ j, j < bs.length → w.cell? ⟨g, o + j, none⟩ = some (b8 (bs.getD j 0)))

theorem more_any (v : Value) (pre bs : List UInt8) (w : World) (hT : Tab w) (hl : bs.length ≤ 1000000000) (h : RdB w v bs) (n0 : Int) (h0 : n0 = ((sumB pre : Nat) : Int)) :
    Calls Tryz.prog 139 #[.int .u32 n0, v] w fun e w' => e = .returned (.int .u32 (sumB (pre ++ bs) : Nat)) ∧ w' = w := by
  obtain ⟨p, cap, rfl, h⟩ := h
  by_cases hb : bs = []
  · subst hb
    rw [List.append_nil]
    exact more_nil p cap pre w n0 h0
  · obtain ⟨g, o, rfl, hc⟩ := h hb
    exact more_row g o cap pre bs w hT hl hc n0 h0

set_option maxRecDepth 20000 in
set_option maxHeartbeats 400000 in
theorem of_any (v : Value) (bs : List UInt8) (w : World) (hT : Tab w) (hl : bs.length ≤ 1000000000) (h : RdB w v bs) :
    Calls Tryz.prog 204 #[v] w fun e w' => e = .returned (.int .u32 (sumB bs : Nat)) ∧ w' = w := by
  have HM := hid_of (more_any v [] bs w hT hl h 0 sum_nil.symm)
  clear hT hl h
  go_enter Tryz.func204, Tryz.ntmps204
  go_wp2_with (first
    | (go_at_call 139; refine Calls.mono HM.out ?_; rintro e w1 ⟨rfl, rfl⟩)
    | go_in)
  first
    | exact ⟨rfl, rfl⟩
    | (go_ret; exact ⟨rfl, rfl⟩)

theorem BR.rd {base : Nat} {w : World} {v : Value} {bs : List UInt8} (h : BR base w v bs) : RdB w v bs := by
  rcases h.2 with ⟨rfl, h0⟩ | ⟨g, cap, cur, rfl, _, hg, hn, _, hcs, htk⟩
  · exact ⟨none, 0, by rw [h0], fun e => absurd (List.eq_nil_of_length_eq_zero h0) e⟩
  · refine ⟨_, cap, rfl, fun _ => ⟨g, 0, rfl, fun j hj => ?_⟩⟩
    have : (bs.map b8)[j]? = cur.toList[j]? := by rw [← htk, List.getElem?_take]; simp [hj]
    rw [List.getElem?_map, List.getElem?_eq_getElem hj] at this
    simp only [World.cell?, hg, Nat.zero_add]
    rw [← Array.getElem?_toList, ← this]
    simp [List.getD, List.getElem?_eq_getElem hj]

end Go.Proofs.YthbdpfccfcceiaaGreatDoor
