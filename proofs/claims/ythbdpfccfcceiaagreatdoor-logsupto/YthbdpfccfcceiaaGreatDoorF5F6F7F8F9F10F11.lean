/-
  A number of four bytes, read.
  Texts, keys and versions, read; what is there in the end.
  A version, read.
  A content behind which its sum stands, taken off the front: NewReader, Unseal.
  The opening of a file, taken off: cutOpening.
  What a commit has written, read: readWrites.
  May these be a commit's writes? mayBeWrites.
-/
import Derived.Test.YthbdpfccfcceiaaGreatDoorG10V2T7F4
import Derived.Deep.RegionHeld3
import Derived.Test.YthbdpfccfcceiaaGreatDoorShelf
import Derived.Test.YthbdpfccfcceiaaGreatDoorJ4J5C4
namespace Go.Proofs.YthbdpfccfcceiaaGreatDoor
open Go.RowKit Go.Maps Go.Lib

section
variable {R : Ending → World → Prop}

theorem or_add (a b k K : Nat) (hK : K = 2 ^ k) (h : a < K) : a ||| (b * K) = a + b * K := by
  subst hK
  have h1 := Nat.two_pow_add_eq_or_of_lt h b
  rw [Nat.or_comm, Nat.mul_comm b, ← h1]; omega

theorem u32_id (n : Nat) (h : n < 4294967296) : IntKind.u32.wrap (n : Int) = (n : Int) := by
  simp only [IntKind.wrap, IntKind.bits, IntKind.signed]
  simp
  omega

theorem or4 (a b c d : Nat) (ha : a < 256) (hb : b < 256) (hc : c < 256) (hd : d < 256) :
    bits .or .u32 (bits .or .u32 (bits .or .u32 (IntKind.u32.wrap (a : Int)) (IntKind.u32.wrap (IntKind.u32.wrap (b : Int) * 256))) (IntKind.u32.wrap (IntKind.u32.wrap (c : Int) * 65536))) (IntKind.u32.wrap (IntKind.u32.wrap (d : Int) * 16777216)) = ((a + 256 * b + 65536 * c + 16777216 * d : Nat) : Int) := by
  have e1 : (b : Int) * 256 = ((b * 256 : Nat) : Int) := by omega
  have e2 : (c : Int) * 65536 = ((c * 65536 : Nat) : Int) := by omega
  have e3 : (d : Int) * 16777216 = ((d * 16777216 : Nat) : Int) := by omega
  rw [u32_id a (by omega), u32_id b (by omega), u32_id c (by omega), u32_id d (by omega), e1, e2, e3, u32_id _ (by omega), u32_id _ (by omega), u32_id _ (by omega)]
  rw [bor_u32 _ _ (by omega) (by omega), or_add _ _ 8 256 (by decide) ha, bor_u32 _ _ (by omega) (by omega), or_add _ _ 16 65536 (by decide) (by omega), bor_u32 _ _ (by omega) (by omega), or_add _ _ 24 16777216 (by decide) (by omega)]
  omega

theorem le4_lt (l : List UInt8) : le4 l < 4294967296 := by
  unfold le4
  have h0 := (l.getD 0 0).toNat_lt
  have h1 := (l.getD 1 0).toNat_lt
  have h2 := (l.getD 2 0).toNat_lt
  have h3 := (l.getD 3 0).toNat_lt
  omega

set_option maxRecDepth 20000 in
set_option maxHeartbeats 1000000 in
theorem rfour_any (r : Nat) (s : RS) (v : Value) (g : Nat) (w : World) (h : RdrAt w r s v g) (hl : s.bs.length ≤ 1100000)
    (hR : ∀ w' v', RdrAt w' r s.four.2 v' g → Kp (fun b => b = r) w w' → R (.returned (.int .u32 (s.four.1 : Nat))) w') :
    Calls Tryz.prog 174 #[.pointer (some ⟨r, 0, none⟩)] w R := by
  have H := hid_of h
  have HL := hid_of hl
  have HR := hid_of hR
  have q90 : ∀ (w : World) (a : Option Addr) (n c n' c' : Nat), (binOp .eql 48 (.slice a n c) (.slice none n' c')).run Tryz.prog w = .ok (.bool a.isNone) w := fun w a n c n' c' => Lib.run_eql_slice_nil w _ _ a n c n' c' Tryz.underlying48
  clear h hl hR
  go_enter Tryz.func174, Tryz.ntmps174
  go_wp2_with (first
    | (go_at_call 205; refine take_any r s v g 4 w H.out (by omega) HL.out ?_ ?_)
    | fail)
  · intro e hr
    have HF := hid_of (HR.out _ v (by unfold RS.four; exact hr) (Kp.setCell w _ _ rfl))
    have e1 : s.four.1 = 0 := by simp [RS.four, e]
    rw [e1] at HF
    clear hr
    go_wp2_with fail
    exact HF.out
  · intro l v1 v2 e hlen hr hrd
    have HRD : Hid (RdrAt (w.setCell ⟨r, 0, none⟩ v2) r s.four.2 v2 g) := by unfold RS.four; exact hr
    have HKP : Hid (Kp (fun b => b = r) w (w.setCell ⟨r, 0, none⟩ v2)) := Kp.setCell w _ _ rfl
    have E1 : Hid (s.four.1 = le4 l) := by simp [Hid, RS.four, e]
    obtain ⟨o, cap, rfl, hcap, hc⟩ := hrd
    have hc0 := hc 0 (by omega)
    have hc1 := hc 1 (by omega)
    have hc2 := hc 2 (by omega)
    have hc3 := hc 3 (by omega)
    rw [hlen]
    have E2 : Hid (le4 l = (l.getD 0 0).toNat + 256 * (l.getD 1 0).toNat + 65536 * (l.getD 2 0).toNat + 16777216 * (l.getD 3 0).toNat) := rfl
    generalize l.getD 0 0 = x0 at E2 hc0
    generalize l.getD 1 0 = x1 at E2 hc1
    generalize l.getD 2 0 = x2 at E2 hc2
    generalize l.getD 3 0 = x3 at E2 hc3
    have h0 := x0.toNat_lt
    have h1 := x1.toNat_lt
    have h2 := x2.toNat_lt
    have h3 := x3.toNat_lt
    simp only [b8, Nat.add_zero] at hc0 hc1 hc2 hc3
    clear hr hc
    go_wp2_with fail
    have HOR := hid_of (or4 x0.toNat x1.toNat x2.toNat x3.toNat (by omega) (by omega) (by omega) (by omega))
    generalize hW : w.setCell ⟨r, 0, none⟩ v2 = W at hc0 hc1 hc2 hc3 HRD HKP ⊢
    clear hW
    go_region_held3 (fun w' => w'.cell? ⟨g, o, none⟩ = some (.int .u8 (x0.toNat : Nat)) ∧ w'.cell? ⟨g, o + 1, none⟩ = some (.int .u8 (x1.toNat : Nat)) ∧ w'.cell? ⟨g, o + 2, none⟩ = some (.int .u8 (x2.toNat : Nat)) ∧ w'.cell? ⟨g, o + 3, none⟩ = some (.int .u8 (x3.toNat : Nat))) (go_keep) (fail)
    all_goals
      have hfin := HR.out W.drew v2 (HRD.out.kp (Kp.drew (fun _ => False) W) (fun e => e) (fun e => e)) (HKP.out.trans (Kp.drew _ _) (fun _ _ h => h))
      rw [E1.out, E2.out, ← HOR.out] at hfin
      have HF := hid_of hfin
      clear hfin
      go_wp2_with fail
      exact HF.out

end

end Go.Proofs.YthbdpfccfcceiaaGreatDoor

namespace Go.Proofs.YthbdpfccfcceiaaGreatDoor
open Go.RowKit Go.Maps Go.Lib

def strB (l : List UInt8) : ByteArray := ⟨l.toArray⟩
def RS.key (s : RS) : ByteArray × RS := (strB s.text.1, if isKey (strB s.text.1) = true then s.text.2 else s.text.2.bad)
def RS.ver (s : RS) : (ByteArray × Bool) × RS :=
  if s.one.1 = 0 then ((strB s.one.2.text.1, false), if (strB s.one.2.text.1).size ≤ 20 then s.one.2.text.2 else s.one.2.text.2.bad)
  else if s.one.1 = 1 then ((eb, true), s.one.2)
  else ((eb, false), s.one.2.bad)
def RS.done (s : RS) : Bool := !s.wr && s.bs.isEmpty

section
variable {R : Ending → World → Prop}

theorem RS.one_len (s : RS) : s.one.2.bs.length ≤ s.bs.length := by
  show (s.take 1).2.bs.length ≤ _
  unfold RS.take
  split
  · exact Nat.le_refl _
  · show (s.bs.drop 1).length ≤ _
    rw [List.length_drop]; omega
theorem RS.one_lt (s : RS) : s.one.1 < 256 := by
  unfold RS.one
  split
  · exact UInt8.toNat_lt _
  · omega

theorem conv_nil (w : World) : (convert 48 9 (.slice none 0 0)).run Tryz.prog w = .ok (.string ⟨#[]⟩) w := by
  rw [run_convert_bytes_string (P := Tryz.prog) w 48 9 5 none 0 0 Tryz.underlying48 Tryz.underlying5 Tryz.underlying9]
  rfl

theorem conv_some (w : World) (g o cap : Nat) (l : List UInt8) (hc : ∀ j, j < l.length → w.cell? ⟨g, o + j, none⟩ = some (b8 (l.getD j 0))) : (convert 48 9 (.slice (some ⟨g, o, none⟩) l.length cap)).run Tryz.prog w = .ok (.string (strB l)) w :=
  run_convert_bytes_back (P := Tryz.prog) w 48 9 5 ⟨g, o, none⟩ cap l Tryz.underlying48 Tryz.underlying5 Tryz.underlying9 (fun j hj => by
    rw [addr_add, hc j hj]
    simp [b8, List.getD, hj])

set_option maxRecDepth 20000 in
set_option maxHeartbeats 1000000 in
theorem rtext_any (r : Nat) (s : RS) (v : Value) (g : Nat) (w : World) (h : RdrAt w r s v g) (hl : s.bs.length ≤ 1100000)
    (hR : ∀ w' v', RdrAt w' r s.text.2 v' g → Kp (fun b => b = r) w w' → R (.returned (.string (strB s.text.1))) w') :
    Calls Tryz.prog 260 #[.pointer (some ⟨r, 0, none⟩)] w R := by
  have H := hid_of h
  have HL := hid_of hl
  have HR := hid_of hR
  have HO := hid_of s.one_len
  have HO2 := hid_of s.one_lt
  clear h hl hR
  go_enter Tryz.func260, Tryz.ntmps260
  go_wp2_with (first
    | (go_at_call 206; refine one_any r s v g w H.out HL.out ?_; intro w1 v1 hr1 hk1; have H1 := hid_of hr1; have HK1 := hid_of hk1; clear hr1 hk1)
    | (go_at_call 205; refine take_any r s.one.2 v1 g s.one.1 w1 H1.out (by have := HO2.out; omega) (by have := HO.out; have := HL.out; omega) ?_ ?_)
    | fail)
  · intro e hr
    have HF := hid_of (HR.out _ v1 (by unfold RS.text; exact hr) (HK1.out.trans (Kp.setCell (S := fun b => b = r) _ _ _ rfl) (fun _ _ h => h)))
    have e1 : s.text.1 = [] := by simp [RS.text, e]
    rw [e1] at HF
    have q := conv_nil (w1.setCell ⟨r, 1, none⟩ (.bool true))
    clear hr
    go_wp2_with fail
    exact HF.out
  · intro l v2 v3 e hlen hr hrd
    have HF := hid_of (HR.out _ v3 (by unfold RS.text; exact hr) (HK1.out.trans (Kp.setCell (S := fun b => b = r) _ _ _ rfl) (fun _ _ h => h)))
    have e1 : s.text.1 = l := by simp [RS.text, e]
    rw [e1] at HF
    obtain ⟨o, cap, rfl, hcap, hc⟩ := hrd
    have q := conv_some _ g o cap l hc
    clear hr hc hlen e e1 hcap
    go_wp2_with fail
    exact HF.out

theorem RS.text_len (s : RS) : s.text.2.bs.length ≤ s.bs.length := by
  have h := s.one_len
  show ((s.one).2.take (s.one).1).2.bs.length ≤ _
  unfold RS.take
  split
  · exact h
  · show (s.one.2.bs.drop _).length ≤ _
    rw [List.length_drop]; omega
theorem RS.text_small (s : RS) : s.text.1.length ≤ 255 := by
  have h := s.one_lt
  show ((((s.one).2.take (s.one).1).1).getD []).length ≤ _
  unfold RS.take
  split
  · simp
  · simp; omega
theorem strB_size (l : List UInt8) : (strB l).size = l.length := by simp [strB, ByteArray.size]

set_option maxRecDepth 20000 in
set_option maxHeartbeats 1000000 in
theorem rkey_any (r : Nat) (s : RS) (v : Value) (g : Nat) (w : World) (h : RdrAt w r s v g) (hl : s.bs.length ≤ 1100000)
    (hR : ∀ w' v', RdrAt w' r s.key.2 v' g → Kp (fun b => b = r) w w' → R (.returned (.string s.key.1)) w') :
    Calls Tryz.prog 243 #[.pointer (some ⟨r, 0, none⟩)] w R := by
  have H := hid_of h
  have HL := hid_of hl
  have HS := hid_of s.text_small
  have C : ∀ w1 v1, RdrAt w1 r s.text.2 v1 g → w1.cell? ⟨r, 1, none⟩ = some (.bool s.text.2.wr) ∧ w1.frozen? ⟨r, 1, none⟩ = false := fun w1 v1 hr => ⟨cell_of hr.blk 1, frozen_at hr.blk 1⟩
  have HC := hid_of C
  have HR := hid_of hR
  clear h hl hR C
  by_cases hk : isKey (strB s.text.1) = true
  · have e1 : s.key = (strB s.text.1, s.text.2) := by simp [RS.key, hk]
    rw [e1] at HR
    clear e1
    go_enter Tryz.func243, Tryz.ntmps243
    go_wp2_with (first
      | (go_at_call 260; refine rtext_any r s v g w H.out HL.out ?_; intro w1 v1 hr1 hk1; have HF := hid_of (HR.out w1 v1 hr1 hk1); clear hr1 hk1)
      | (go_at_call 67; refine (isKey_any _ _ (by rw [strB_size]; have := HS.out; unfold maxLen; omega)).mono ?_; rintro e w' ⟨rfl, rfl⟩)
      | fail)
    exact HF.out
  · have hk' : isKey (strB s.text.1) = false := by simpa using hk
    have e1 : s.key = (strB s.text.1, s.text.2.bad) := by simp [RS.key, hk]
    rw [e1] at HR
    clear e1 hk
    go_enter Tryz.func243, Tryz.ntmps243
    go_wp2_with (first
      | (go_at_call 260; refine rtext_any r s v g w H.out HL.out ?_; intro w1 v1 hr1 hk1; obtain ⟨c1, f1⟩ := HC.out w1 v1 hr1; have HF := hid_of (HR.out _ v1 hr1.wrong (hk1.trans (Kp.setCell (S := fun b => b = r) _ _ _ rfl) (fun _ _ h => h))); clear hr1 hk1)
      | (go_at_call 67; refine (isKey_any _ _ (by rw [strB_size]; have := HS.out; unfold maxLen; omega)).mono ?_; rintro e w' ⟨rfl, rfl⟩)
      | fail)
    exact HF.out

set_option maxRecDepth 20000 in
set_option maxHeartbeats 1000000 in
theorem done_any (r : Nat) (s : RS) (v : Value) (g : Nat) (w : World) (h : RdrAt w r s v g) (_hl : s.bs.length ≤ 1100000)
    (hR : R (.returned (.bool s.done)) w) :
    Calls Tryz.prog 192 #[.pointer (some ⟨r, 0, none⟩)] w R := by
  obtain ⟨o, cap, rfl, hcap, hc⟩ := h.rd
  have c0 : w.cell? ⟨r, 0, none⟩ = some (.slice (some ⟨g, o, none⟩) s.bs.length cap) := cell_of h.blk 0
  have c1 : w.cell? ⟨r, 1, none⟩ = some (.bool s.wr) := cell_of h.blk 1
  have HR := hid_of hR
  unfold RS.done at HR
  clear h hR hc
  cases hw : s.wr with
  | true =>
    rw [hw] at c1 HR
    go_enter Tryz.func192, Tryz.ntmps192
    go_wp2_with fail
    exact HR.out
  | false =>
    rw [hw] at c1 HR
    by_cases h0 : s.bs.length = 0
    · have e : s.bs.isEmpty = true := by simpa using h0
      rw [e] at HR
      rw [h0] at c0
      clear h0 e hcap
      go_enter Tryz.func192, Tryz.ntmps192
      go_wp2_with fail
      exact HR.out
    · have e : s.bs.isEmpty = false := by
        cases hb : s.bs with
        | nil => rw [hb] at h0; simp at h0
        | cons a l => rfl
      rw [e] at HR
      have h1 : ((s.bs.length : Int) == 0) = false := by simpa using h0
      generalize s.bs.length = n at c0 h1 hcap h0
      clear e
      go_enter Tryz.func192, Tryz.ntmps192
      go_wp2_with fail
      exact HR.out

end

end Go.Proofs.YthbdpfccfcceiaaGreatDoor

namespace Go.Proofs.YthbdpfccfcceiaaGreatDoor
open Go.RowKit Go.Maps Go.Lib

section
variable {R : Ending → World → Prop}

/-- What a version's cell and a reader are in the end. -/
theorem ver_fin {w w2 : World} {r : Nat} {s : RS} {v : Value} {g : Nat} {x y : Value} (hr : r < w.heap.size) (hg : g < w.heap.size) (H2 : RdrAt w2 r s v g) (HK : Kp (fun b => b = r) (w.alloc (.cells #[.string ⟨#[]⟩, .bool false] 138)) w2) :
    RdrAt ((w2.setCell ⟨w.heap.size, 0, none⟩ x).setCell ⟨w.heap.size, 1, none⟩ y) r s v g ∧ Kp (fun b => b = r) w ((w2.setCell ⟨w.heap.size, 0, none⟩ x).setCell ⟨w.heap.size, 1, none⟩ y) := by
  have k : Kp (fun b => b = w.heap.size) w2 ((w2.setCell ⟨w.heap.size, 0, none⟩ x).setCell ⟨w.heap.size, 1, none⟩ y) := (Kp.setCell (S := fun b => b = w.heap.size) _ _ _ rfl).trans (Kp.setCell (S := fun b => b = w.heap.size) _ _ _ rfl) (fun _ _ h => h)
  exact ⟨H2.kp k (fun e => by omega) (fun e => by omega), ((Kp.alloc _ _ _).trans HK (fun _ _ h => h)).trans k (fun b hb e => by omega)⟩

set_option maxRecDepth 20000 in
set_option maxHeartbeats 1000000 in
theorem ver_any (r : Nat) (s : RS) (v : Value) (g : Nat) (w : World) (h : RdrAt w r s v g) (hl : s.bs.length ≤ 1100000)
    (hR : ∀ w' v', RdrAt w' r s.ver.2 v' g → Kp (fun b => b = r) w w' → R (.returned (.agg #[.string s.ver.1.1, .bool s.ver.1.2])) w') :
    Calls Tryz.prog 244 #[.pointer (some ⟨r, 0, none⟩)] w R := by
  have hr := block_lt h.blk
  have hg := h.lt
  have ha := Kp.alloc (fun _ => False) w (.cells #[.string ⟨#[]⟩, .bool false] 138)
  have H : Hid (RdrAt (w.alloc (.cells #[.string ⟨#[]⟩, .bool false] 138)) r s v g) := h.kp ha (fun e => e) (fun e => e)
  have HA := hid_of ha
  have HL := hid_of hl
  have HRL := hid_of hr
  have HO := hid_of s.one_len
  have HS := hid_of s.one.2.text_small
  have C : ∀ w1 s1 v1, RdrAt w1 r s1 v1 g → w1.cell? ⟨r, 1, none⟩ = some (.bool s1.wr) ∧ w1.frozen? ⟨r, 1, none⟩ = false := fun w1 s1 v1 hr => ⟨cell_of hr.blk 1, frozen_at hr.blk 1⟩
  have HC := hid_of C
  have HR := hid_of hR
  have hb := heap_alloc_new w (.cells #[.string ⟨#[]⟩, .bool false] 138)
  have D : ∀ w1, Kp (fun b => b = r) (w.alloc (.cells #[.string ⟨#[]⟩, .bool false] 138)) w1 → w1.heap[w.heap.size]? = some (.cells #[.string ⟨#[]⟩, .bool false] 138 (0, 0)) := fun w1 hk => (hk.block _ (block_lt hb) (fun e => by omega)).trans hb
  have HD := hid_of D
  have HG := hid_of hg
  have nr : r ≠ w.heap.size := by omega
  have nr' : w.heap.size ≠ r := by omega
  clear h hl hR C ha hr hb D hg
  by_cases q0 : s.one.1 = 0
  · by_cases q1 : (strB s.one.2.text.1).size ≤ 20
    · have e1 : s.ver = ((strB s.one.2.text.1, false), s.one.2.text.2) := by simp [RS.ver, q0, q1]
      rw [e1] at HR
      clear e1
      go_enter Tryz.func244, Tryz.ntmps244
      go_wp2_with (first
        | (go_at_call 206; refine one_any r s v g _ H.out HL.out ?_; intro w1 v1 hr1 hk1; rw [q0]; have H1 := hid_of hr1; have HK1 := hid_of hk1; clear hr1 hk1)
        | (go_at_call 260; refine rtext_any r s.one.2 v1 g w1 H1.out (by have := HO.out; have := HL.out; omega) ?_; intro w2 v2 hr2 hk2; have H2 := hid_of hr2; have HK2 : Hid (Kp (fun b => b = r) (w.alloc (.cells #[.string ⟨#[]⟩, .bool false] 138)) w2) := HK1.out.trans hk2 (fun _ _ h => h); have c0 : w2.cell? ⟨w.heap.size, 0, none⟩ = some (.string ⟨#[]⟩) := cell_of (HD.out w2 HK2.out) 0; have c1 : w2.cell? ⟨w.heap.size, 1, none⟩ = some (.bool false) := cell_of (HD.out w2 HK2.out) 1; have f0 := frozen_at (HD.out w2 HK2.out) 0; have f1 := frozen_at (HD.out w2 HK2.out) 1; obtain ⟨c2, f2⟩ := HC.out w2 _ v2 hr2; clear hr2 hk2)
        | (go_at_call 68; refine (isValue_any _ _ (by rw [strB_size]; have := HS.out; unfold maxLen; omega)).mono ?_; rintro e w' ⟨rfl, rfl⟩)
        | fail)
      refine bodyPost_ret (results_cell_row rfl _ _ w.heap.size 138 #[.string (strB s.one.2.text.1), .bool false] (0, 0) _ rfl ?_ Tryz.underlying138 rfl (by kernel_rfl)) rfl ?_
      · exact heap_set (heap_set (HD.out _ HK2.out) _) _
      have hf := ver_fin (x := .string (strB s.one.2.text.1)) (y := .bool false) HRL.out HG.out H2.out HK2.out
      exact HR.out _ _ hf.1 hf.2
    · have e1 : s.ver = ((strB s.one.2.text.1, false), s.one.2.text.2.bad) := by simp [RS.ver, q0, q1]
      rw [e1] at HR
      clear e1
      go_enter Tryz.func244, Tryz.ntmps244
      go_wp2_with (first
        | (go_at_call 206; refine one_any r s v g _ H.out HL.out ?_; intro w1 v1 hr1 hk1; rw [q0]; have H1 := hid_of hr1; have HK1 := hid_of hk1; clear hr1 hk1)
        | (go_at_call 260; refine rtext_any r s.one.2 v1 g w1 H1.out (by have := HO.out; have := HL.out; omega) ?_; intro w2 v2 hr2 hk2; have H2 := hid_of hr2; have HK2 : Hid (Kp (fun b => b = r) (w.alloc (.cells #[.string ⟨#[]⟩, .bool false] 138)) w2) := HK1.out.trans hk2 (fun _ _ h => h); have c0 : w2.cell? ⟨w.heap.size, 0, none⟩ = some (.string ⟨#[]⟩) := cell_of (HD.out w2 HK2.out) 0; have c1 : w2.cell? ⟨w.heap.size, 1, none⟩ = some (.bool false) := cell_of (HD.out w2 HK2.out) 1; have f0 := frozen_at (HD.out w2 HK2.out) 0; have f1 := frozen_at (HD.out w2 HK2.out) 1; obtain ⟨c2, f2⟩ := HC.out w2 _ v2 hr2; clear hr2 hk2)
        | (go_at_call 68; refine (isValue_any _ _ (by rw [strB_size]; have := HS.out; unfold maxLen; omega)).mono ?_; rintro e w' ⟨rfl, rfl⟩)
        | fail)
      refine bodyPost_ret (results_cell_row rfl _ _ w.heap.size 138 #[.string (strB s.one.2.text.1), .bool false] (0, 0) _ rfl ?_ Tryz.underlying138 rfl (by kernel_rfl)) rfl ?_
      · exact heap_set (heap_set (HD.out _ (HK2.out.trans (Kp.setCell (S := fun b => b = r) _ _ _ rfl) (fun _ _ h => h))) _) _
      have hf := ver_fin (x := .string (strB s.one.2.text.1)) (y := .bool false) HRL.out HG.out H2.out.wrong (HK2.out.trans (Kp.setCell (S := fun b => b = r) _ _ _ rfl) (fun _ _ h => h))
      exact HR.out _ _ hf.1 hf.2
  · by_cases q1 : s.one.1 = 1
    · have e1 : s.ver = ((eb, true), s.one.2) := by simp [RS.ver, q1]
      rw [e1] at HR
      clear e1 q0
      go_enter Tryz.func244, Tryz.ntmps244
      go_wp2_with (first
        | (go_at_call 206; refine one_any r s v g _ H.out HL.out ?_; intro w1 v1 hr1 hk1; rw [q1]; have c0 : w1.cell? ⟨w.heap.size, 0, none⟩ = some (.string ⟨#[]⟩) := cell_of (HD.out w1 hk1) 0; have c1 : w1.cell? ⟨w.heap.size, 1, none⟩ = some (.bool false) := cell_of (HD.out w1 hk1) 1; have f0 := frozen_at (HD.out w1 hk1) 0; have f1 := frozen_at (HD.out w1 hk1) 1; obtain ⟨c2, f2⟩ := HC.out w1 _ v1 hr1; have H1 := hid_of hr1; have HK1 := hid_of hk1; clear hr1 hk1)
        | fail)
      refine bodyPost_ret (results_cell_row rfl _ _ w.heap.size 138 #[.string eb, .bool true] (0, 0) _ rfl ?_ Tryz.underlying138 rfl (by kernel_rfl)) rfl ?_
      · exact heap_set (heap_set (HD.out _ HK1.out) _) _
      have hf := ver_fin (x := .string eb) (y := .bool true) HRL.out HG.out H1.out HK1.out
      exact HR.out _ _ hf.1 hf.2
    · have e1 : s.ver = ((eb, false), s.one.2.bad) := by simp [RS.ver, q0, q1]
      rw [e1] at HR
      have q0' : ((s.one.1 : Int) == 0) = false := by simpa using q0
      have q1' : ((s.one.1 : Int) == 1) = false := by simp; omega
      clear e1
      go_enter Tryz.func244, Tryz.ntmps244
      go_wp2_with (first
        | (go_at_call 206; refine one_any r s v g _ H.out HL.out ?_; intro w1 v1 hr1 hk1; have c0 : w1.cell? ⟨w.heap.size, 0, none⟩ = some (.string ⟨#[]⟩) := cell_of (HD.out w1 hk1) 0; have c1 : w1.cell? ⟨w.heap.size, 1, none⟩ = some (.bool false) := cell_of (HD.out w1 hk1) 1; have f0 := frozen_at (HD.out w1 hk1) 0; have f1 := frozen_at (HD.out w1 hk1) 1; obtain ⟨c2, f2⟩ := HC.out w1 _ v1 hr1; have H1 := hid_of hr1; have HK1 := hid_of hk1; clear hr1 hk1)
        | fail)
      refine bodyPost_ret (results_cell_row rfl _ _ w.heap.size 138 #[.string eb, .bool false] (0, 0) _ rfl ?_ Tryz.underlying138 rfl (by kernel_rfl)) rfl ?_
      · exact heap_set (heap_set (HD.out _ (HK1.out.trans (Kp.setCell (S := fun b => b = r) _ _ _ rfl) (fun _ _ h => h))) _) _
      have hf := ver_fin (x := .string eb) (y := .bool false) HRL.out HG.out H1.out.wrong (HK1.out.trans (Kp.setCell (S := fun b => b = r) _ _ _ rfl) (fun _ _ h => h))
      exact HR.out _ _ hf.1 hf.2

end

end Go.Proofs.YthbdpfccfcceiaaGreatDoor

namespace Go.Proofs.YthbdpfccfcceiaaGreatDoor
open Go.RowKit Go.Maps Go.Lib

def unsealB (bs : List UInt8) (n : Nat) : Option (List UInt8 × List UInt8) :=
  if bs.length < n + 4 ∨ le4 ((bs.drop n).take 4) ≠ sumB (bs.take n) then none else some (bs.take n, bs.drop (n + 4))

section
variable {R : Ending → World → Prop}

set_option maxRecDepth 20000 in
theorem newReader_any (a : Option Addr) (n c : Nat) (w : World)
    (hR : R (.returned (.pointer (some ⟨w.heap.size, 0, none⟩))) (w.alloc (.cells #[.slice a n c, .bool false] 303))) :
    Calls Tryz.prog 144 #[.slice a n c] w R := by
  have HR := hid_of hR
  clear hR
  go_enter Tryz.func144, Tryz.ntmps144
  go_wp2_with fail
  exact HR.out

theorem reader_new {w : World} {v : Value} {bs : List UInt8} {g : Nat} (h : RdC w v bs g) (hg : g < w.heap.size) : RdrAt (w.alloc (.cells #[v, .bool false] 303)) w.heap.size ⟨bs, false⟩ v g :=
  ⟨heap_alloc_new w _, h.kept (Kp.alloc _ _ _), by omega, Nat.lt_of_lt_of_le hg (Kp.alloc (fun _ => False) w _).size⟩

set_option maxRecDepth 20000 in
set_option maxHeartbeats 1000000 in
theorem unseal_any (v : Value) (bs : List UInt8) (g n : Nat) (w : World) (h : RdC w v bs g) (hg : g < w.heap.size) (hT : Tab w) (hn : n ≤ 100000) (hl : bs.length ≤ 1100000)
    (h1 : unsealB bs n = none → ∀ w', Kp (fun _ => False) w w' → R (.returned (.tuple #[.slice none 0 0, .slice none 0 0, .bool false])) w')
    (h2 : ∀ v1 v2 w', unsealB bs n = some (bs.take n, bs.drop (n + 4)) → RdC w' v1 (bs.take n) g → RdC w' v2 (bs.drop (n + 4)) g → Kp (fun _ => False) w w' → R (.returned (.tuple #[v1, v2, .bool true])) w') :
    Calls Tryz.prog 173 #[v, .int .i64 n] w R := by
  obtain ⟨o, cap, rfl, hcap, hc⟩ := h
  have hn' : (n : Int) ≤ 100000 := by omega
  have hl' : (bs.length : Int) ≤ 1100000 := by omega
  by_cases q : bs.length < n + 4
  · have e : unsealB bs n = none := by simp [unsealB, q]
    have HF := hid_of (h1 e w (Kp.refl _ _))
    have q' : (bs.length : Int) < (n : Int) + 4 := by omega
    clear h1 h2 e q hc hT
    go_enter Tryz.func173, Tryz.ntmps173
    go_wp2_with fail
    refine bodyPost_ret (results_tmp3 rfl _ _ _) rfl ?_
    exact HF.out
  · have q' : ¬ (bs.length : Int) < (n : Int) + 4 := by omega
    have H1 := hid_of h1
    have H2 := hid_of h2
    have HT := hid_of hT
    have HC := hid_of hc
    have HCAP := hid_of hcap
    have HG := hid_of hg
    have HL := hid_of hl
    have HQ := hid_of q
    have q2 : n ≤ cap := by omega
    have q3 : n + 4 ≤ cap := by omega
    have HT1 : Hid (RdC w (.slice (some ⟨g, o, none⟩) n cap) (bs.take n) g) := RdC.take hcap hc n (by omega)
    have HT2 : Hid (RdC w (.slice (some ⟨g, o + n, none⟩) 4 (cap - n)) ((bs.drop n).take 4) g) := by
      obtain ⟨o2, c2, e1, e2, e3⟩ := RdC.drop (w := w) (g := g) (o := o) hcap hc n (by omega)
      injection e1 with e1 e4 e5
      injection e1 with e1
      injection e1 with _ e1
      subst e1; subst e5
      exact RdC.take e2 e3 4 (by rw [List.length_drop]; omega)
    have HFR : Hid ((⟨(bs.drop n).take 4, false⟩ : RS).four.1 = le4 ((bs.drop n).take 4)) := by
      simp only [Hid, RS.four, RS.take]
      rw [if_neg (by simp; omega)]
      simp [List.take_take]
    have hw4 : IntKind.i64.wrap ((n : Int) + 4) = (n : Int) + 4 := IntWalk.i64_in _ (by omega)
    have hw5 : (0 : Int) ≤ (n : Int) + 4 := by omega
    have hw6 : (n : Int) + 4 ≤ bs.length := by omega
    by_cases qs : le4 ((bs.drop n).take 4) = sumB (bs.take n)
    · have e : unsealB bs n = some (bs.take n, bs.drop (n + 4)) := by simp [unsealB, q, qs]
      have HF : ∀ v2 w', RdC w v2 (bs.drop (n + 4)) g → Kp (fun _ => False) w w' → R (.returned (.tuple #[.slice (some ⟨g, o, none⟩) n cap, v2, .bool true])) w' := fun v2 w' hv hk => h2 _ _ _ e (HT1.out.kept hk) (hv.kept hk) hk
      by_cases q5 : cap = n + 4
      · have HF2 := hid_of (HF (.slice (some ⟨g, o, none⟩) 0 0) · (RdC.dropAll (n + 4) (by omega)))
        rw [qs] at HFR
        have q6 : bs.length = n + 4 := by omega
        clear h1 h2 hc hT hcap hg hl q hn HF e qs q' q3 hw6
        subst q5
        rw [q6]
        rw [show n + 4 - n = 4 by omega] at HT2
        go_enter Tryz.func173, Tryz.ntmps173
        go_wp2_with (first
        | (go_at_call 144; refine newReader_any _ _ _ _ ?_)
        | (go_at_call 174; refine rfour_any w.heap.size ⟨(bs.drop n).take 4, false⟩ _ g _ (reader_new HT2.out HG.out) (by simp; omega) ?_; intro w1 v1 hr1 hk1; rw [HFR.out]; have HKA : Hid (Kp (fun _ => False) w w1) := ((Kp.alloc (fun _ => False) w _).trans hk1 (fun b hb e => by omega)); clear hr1 hk1)
        | (go_at_call 204; refine (of_any _ (bs.take n) _ (HT.out.kept HKA.out) (by simp; have := HL.out; omega) (HT1.out.rd.kept HKA.out)).mono ?_; rintro e w' ⟨rfl, rfl⟩)
        | fail)
        go_region_law fail
        all_goals
          go_wp2_with fail
          refine bodyPost_ret (results_tmp3 rfl _ _ _) rfl ?_
          exact HF2.out _ (HKA.out.trans (Kp.drew _ _) (fun _ _ h => h))
      · have HF2 := hid_of (HF _ · (RdC.drop (w := w) (g := g) (o := o) hcap hc (n + 4) (by omega)))
        rw [qs] at HFR
        clear h1 h2 hc hT hcap hg hl q hn HF e qs
        go_enter Tryz.func173, Tryz.ntmps173
        go_wp2_with (first
        | (go_at_call 144; refine newReader_any _ _ _ _ ?_)
        | (go_at_call 174; refine rfour_any w.heap.size ⟨(bs.drop n).take 4, false⟩ _ g _ (reader_new HT2.out HG.out) (by simp; omega) ?_; intro w1 v1 hr1 hk1; rw [HFR.out]; have HKA : Hid (Kp (fun _ => False) w w1) := ((Kp.alloc (fun _ => False) w _).trans hk1 (fun b hb e => by omega)); clear hr1 hk1)
        | (go_at_call 204; refine (of_any _ (bs.take n) _ (HT.out.kept HKA.out) (by simp; have := HL.out; omega) (HT1.out.rd.kept HKA.out)).mono ?_; rintro e w' ⟨rfl, rfl⟩)
        | fail)
        go_region_law fail
        all_goals
          go_wp2_with fail
          refine bodyPost_ret (results_tmp3 rfl _ _ _) rfl ?_
          exact HF2.out _ (HKA.out.trans (Kp.drew _ _) (fun _ _ h => h))
    · have e : unsealB bs n = none := by simp [unsealB, qs]
      have HF := hid_of (h1 e)
      clear h1 h2 hc hT hcap hg hl q hn e
      generalize le4 ((bs.drop n).take 4) = x at HFR qs
      generalize hy : sumB (bs.take n) = y at qs
      have hx : ((x : Int) == (y : Int)) = false := by simp; omega
      go_enter Tryz.func173, Tryz.ntmps173
      go_wp2_with (first
        | (go_at_call 144; refine newReader_any _ _ _ _ ?_)
        | (go_at_call 174; refine rfour_any w.heap.size ⟨(bs.drop n).take 4, false⟩ _ g _ (reader_new HT2.out HG.out) (by simp; omega) ?_; intro w1 v1 hr1 hk1; rw [HFR.out]; have HKA : Hid (Kp (fun _ => False) w w1) := ((Kp.alloc (fun _ => False) w _).trans hk1 (fun b hb e => by omega)); clear hr1 hk1)
        | (go_at_call 204; refine (of_any _ (bs.take n) _ (HT.out.kept HKA.out) (by simp; have := HL.out; omega) (HT1.out.rd.kept HKA.out)).mono ?_; rintro e w' ⟨rfl, rfl⟩)
        | fail)
      refine bodyPost_ret (results_tmp3 rfl _ _ _) rfl ?_
      exact HF.out _ HKA.out

set_option maxRecDepth 20000 in
set_option maxHeartbeats 400000 in
/-- Too few bytes. -/
theorem unseal_short (p : Option Addr) (len cap n : Nat) (w : World) (hn : n ≤ 100000) (q : len < n + 4)
    (hR : R (.returned (.tuple #[.slice none 0 0, .slice none 0 0, .bool false])) w) :
    Calls Tryz.prog 173 #[.slice p len cap, .int .i64 n] w R := by
  have HF := hid_of hR
  have q' : (len : Int) < (n : Int) + 4 := by omega
  have hn' : (n : Int) ≤ 100000 := by omega
  have hl' : (len : Int) ≤ 1100000 := by omega
  clear hR q
  go_enter Tryz.func173, Tryz.ntmps173
  go_wp2_with fail
  refine bodyPost_ret (results_tmp3 rfl _ _ _) rfl ?_
  exact HF.out

/-- Bytes of a file that is handed in: none, or in one block. -/
def RdN (w : World) (v : Value) (bs : List UInt8) (g : Nat) : Prop :=
  ∃ p cap, v = .slice p bs.length cap ∧ bs.length ≤ cap ∧ (bs ≠ [] → g < w.heap.size ∧ ∃ o, p = some ⟨g, o, none⟩ ∧ ∀ j, j < bs.length → w.cell? ⟨g, o + j, none⟩ = some (b8 (bs.getD j 0)))

theorem RdN.kp {S : Nat → Prop} {w w' : World} {v : Value} {bs : List UInt8} {g : Nat} (h : RdN w v bs g) (hk : Kp S w w') (hs : ¬ S g) : RdN w' v bs g := by
  obtain ⟨p, cap, rfl, hl, hc⟩ := h
  refine ⟨p, cap, rfl, hl, fun hb => ?_⟩
  obtain ⟨hg, o, rfl, hc2⟩ := hc hb
  exact ⟨Nat.lt_of_lt_of_le hg hk.size, o, rfl, fun j hj => (hk.cell (World.block_lt_of_cell? _ _ (hc2 j hj)) hs).trans (hc2 j hj)⟩

theorem RdN.rdc {w : World} {v : Value} {bs : List UInt8} {g : Nat} (h : RdN w v bs g) (hb : bs ≠ []) : RdC w v bs g ∧ g < w.heap.size := by
  obtain ⟨p, cap, rfl, hl, hc⟩ := h
  obtain ⟨hg, o, rfl, hc2⟩ := hc hb
  exact ⟨⟨o, cap, rfl, hl, hc2⟩, hg⟩

theorem unsealN_any (v : Value) (bs : List UInt8) (g n : Nat) (w : World) (h : RdN w v bs g) (hT : Tab w) (hn : n ≤ 100000) (hl : bs.length ≤ 1100000)
    (h1 : unsealB bs n = none → ∀ w', Kp (fun _ => False) w w' → R (.returned (.tuple #[.slice none 0 0, .slice none 0 0, .bool false])) w')
    (h2 : ∀ v1 v2 w', unsealB bs n = some (bs.take n, bs.drop (n + 4)) → g < w.heap.size → RdC w' v1 (bs.take n) g → RdC w' v2 (bs.drop (n + 4)) g → Kp (fun _ => False) w w' → R (.returned (.tuple #[v1, v2, .bool true])) w') :
    Calls Tryz.prog 173 #[v, .int .i64 n] w R := by
  by_cases hb : bs = []
  · obtain ⟨p, cap, rfl, _, _⟩ := h
    subst hb
    exact unseal_short p _ cap n w hn (by simp) (h1 (by simp [unsealB]) w (Kp.refl _ _))
  · obtain ⟨hc, hg⟩ := h.rdc hb
    exact unseal_any v bs g n w hc hg hT hn hl h1 (fun v1 v2 w' e r1 r2 hk => h2 v1 v2 w' e hg r1 r2 hk)

end

end Go.Proofs.YthbdpfccfcceiaaGreatDoor

namespace Go.Proofs.YthbdpfccfcceiaaGreatDoor
open Go.RowKit Go.Maps Go.Lib

theorem nums_getD (bs : List UInt8) (i : Nat) : (bs.map fun b => (b.toNat : Int)).getD i 0 = ((bs.getD i 0).toNat : Int) := by
  simp only [List.getD, List.getElem?_map]
  cases bs[i]? <;> simp

theorem nums_bytes (bs : List UInt8) : Lib.bytesOf (bs.map fun b => (b.toNat : Int)) = bs := by
  simp [Lib.bytesOf, Function.comp_def]

/-- The number that a file's opening tells, if it is right. -/
def cutO (bs : List UInt8) : Option Nat := match unsealB bs 7 with
  | none => none
  | some (c, _) => if [80, 76, 49].isPrefixOf c then some (le4 (c.drop 3)) else none

section
variable {R : Ending → World → Prop}

/-- A beginning, cut off. -/
theorem cutPrefix_rd (v : Value) (bs : List UInt8) (g : Nat) (ob : List UInt8) (g1 c1 : Nat) (w : World) (h : RdC w v bs g) (hob : ∀ j, j < ob.length → w.cell? ⟨g1, 0 + j, none⟩ = some (b8 (ob.getD j 0)))
    (h1 : ob.isPrefixOf bs = false → ∀ v', R (.returned (.tuple #[v', .bool false])) w)
    (h2 : ob.isPrefixOf bs = true → ∀ v', RdC w v' (bs.drop ob.length) g → R (.returned (.tuple #[v', .bool true])) w) :
    Calls Tryz.prog 142 #[v, .slice (some ⟨g1, 0, none⟩) ob.length c1] w R := by
  obtain ⟨o, cap, rfl, hcap, hc⟩ := h
  refine (Tryz.bytes_CutPrefix g o bs.length cap g1 0 ob.length c1 (bs.map fun b => (b.toNat : Int)) (ob.map fun b => (b.toNat : Int)) w (by simp) (by simp) hcap (fun j hj => ?_) (fun j hj => ?_)).mono ?_
  · rw [nums_getD]; exact hc j hj
  · rw [nums_getD]; exact hob j hj
  · rintro e w' ⟨rfl, rfl⟩
    unfold Lib.bytesTrimPrefix
    rw [nums_bytes, nums_bytes]
    show R (.returned (.tuple #[_, .bool (ob.isPrefixOf bs)])) w'
    cases hp : ob.isPrefixOf bs with
    | false => exact h1 hp _
    | true =>
      have hle : ob.length ≤ bs.length := (List.isPrefixOf_iff_prefix.1 hp).length_le
      refine h2 hp _ ?_
      have e0 : Lib.hasPrefix bs ob = true := hp
      rw [if_pos e0]
      unfold Lib.sliceFrom
      rw [List.length_map]
      by_cases hcc : cap = ob.length
      · rw [if_pos hcc]
        have e1 : bs.length - ob.length = 0 := by omega
        have e2 : cap - ob.length = 0 := by omega
        rw [e1, e2]
        exact RdC.dropAll ob.length (by omega)
      · rw [if_neg hcc]
        exact RdC.drop (w := w') (g := g) (o := o) hcap hc ob.length hle

theorem pl1_cells (w : World) : ∀ j, j < [80, 76, 49].length → (w.alloc (.cells #[.int .u8 80, .int .u8 76, .int .u8 49] 5 (3, 4))).cell? ⟨w.heap.size, 0 + j, none⟩ = some (b8 (([80, 76, 49] : List UInt8).getD j 0)) := fun j hj => by
  have hb := heap_alloc_new w (.cells #[.int .u8 80, .int .u8 76, .int .u8 49] 5 (3, 4))
  rw [Nat.zero_add]
  rcases (by simp at hj; omega : j = 0 ∨ j = 1 ∨ j = 2) with rfl | rfl | rfl <;> exact cell_of hb _

set_option maxRecDepth 20000 in
set_option maxHeartbeats 1000000 in
theorem cutOpening_any (v : Value) (bs : List UInt8) (g : Nat) (w : World) (h : RdN w v bs g) (hT : Tab w) (hl : bs.length ≤ 1100000)
    (h1 : cutO bs = none → ∀ w', Kp (fun _ => False) w w' → R (.returned (.tuple #[.int .i64 0, .slice none 0 0, .bool false])) w')
    (h2 : ∀ (n : Nat) v' w', cutO bs = some n → g < w.heap.size → RdC w' v' (bs.drop 11) g → Kp (fun _ => False) w w' → R (.returned (.tuple #[.int .i64 n, v', .bool true])) w') :
    Calls Tryz.prog 128 #[v] w R := by
  have H := hid_of h
  have HT := hid_of hT
  have HL := hid_of hl
  have H1 := hid_of h1
  have H2 := hid_of h2
  clear h hT hl h1 h2
  go_enter Tryz.func128, Tryz.ntmps128
  go_wp2_with (first
    | (go_at_call 173; refine unsealN_any _ bs g 7 _ H.out HT.out (by omega) HL.out ?_ ?_)
    | fail)
  · intro e w1 hk1
    have HF := hid_of (H1.out (by simp [cutO, e]) w1 hk1)
    clear hk1
    go_wp2_with fail
    refine bodyPost_ret (results_tmp3 rfl _ _ _) rfl ?_
    exact HF.out
  · intro v1 v2 w1 e hg hr1 hr2 hk1
    have h7 : 11 ≤ bs.length := by
      unfold unsealB at e
      split at e
      · cases e
      · rename_i hq
        omega
    have hcv := run_convert_bytes_const (P := Tryz.prog) w1 48 5 #[.int .u8 80, .int .u8 76, .int .u8 49] 3 3 Tryz.underlying48 Tryz.underlying5
    obtain ⟨o1, c1, rfl, hcap1, hc1⟩ := hr1
    obtain ⟨o2, c2, rfl, hcap2, hc2⟩ := hr2
    have l7 : (bs.take 7).length = 7 := by simp; omega
    obtain ⟨n2, hn2⟩ : ∃ n, (bs.drop (7 + 4)).length = n := ⟨_, rfl⟩
    have HR1 : Hid (RdC w1 (.slice (some ⟨g, o1, none⟩) 7 c1) (bs.take 7) g) := ⟨o1, c1, by rw [l7], hcap1, hc1⟩
    have HR2 : Hid (RdC w1 (.slice (some ⟨g, o2, none⟩) n2 c2) (bs.drop (7 + 4)) g) := ⟨o2, c2, by rw [hn2], hcap2, hc2⟩
    have HK1 := hid_of hk1
    have HG := hid_of hg
    have HE := hid_of e
    have H7 := hid_of h7
    rw [l7, hn2]
    clear hc1 hc2 hcap1 hcap2 hk1 hg e h7 l7 hn2
    go_wp2_with (first
      | (go_at_call 142; refine cutPrefix_rd _ (bs.take 7) g [80, 76, 49] w1.heap.size 3 _ (HR1.out.kept (Kp.alloc _ _ _)) (pl1_cells w1) ?_ ?_)
      | fail)
    · intro hp v3
      have HF := hid_of (H1.out (by simp only [cutO, HE.out]; rw [hp]; rfl) _ (HK1.out.trans (Kp.alloc (fun _ => False) w1 (.cells #[.int .u8 80, .int .u8 76, .int .u8 49] 5 (3, 4))) (fun _ _ h => h)))
      clear hp
      go_wp2_with fail
      refine bodyPost_ret (results_tmp3 rfl _ _ _) rfl ?_
      exact HF.out
    · intro hp v3 hr3
      obtain ⟨o3, c3, rfl, hcap3, hc3⟩ := hr3
      have l3 : ((bs.take 7).drop 3).length = 4 := by have := H7.out; simp; omega
      have HR3 : Hid (RdC (w1.alloc (.cells #[.int .u8 80, .int .u8 76, .int .u8 49] 5 (3, 4))) (.slice (some ⟨g, o3, none⟩) 4 c3) ((bs.take 7).drop 3) g) := ⟨o3, c3, by rw [l3], hcap3, hc3⟩
      rw [l3]
      have e4 : (⟨(bs.take 7).drop 3, false⟩ : RS).four.1 = le4 ((bs.take 7).drop 3) := by
        have := H7.out
        simp only [RS.four, RS.take]
        rw [if_neg (by simp; omega)]
        rw [List.take_of_length_le (by simp; omega)]
      have HE4 := hid_of e4
      have HG3 : Hid (g < (w1.alloc (.cells #[.int .u8 80, .int .u8 76, .int .u8 49] 5 (3, 4))).heap.size) := by
        show _ < _
        have := HG.out; have := HK1.out.size
        simp; omega
      have HL3 : Hid (((bs.take 7).drop 3).length ≤ 1100000) := by
        show _ ≤ _
        rw [l3]; omega
      have hlt := le4_lt ((bs.take 7).drop 3)
      have HC : Hid (cutO bs = some (le4 ((bs.take 7).drop 3))) := by
        show _ = _
        simp only [cutO, HE.out]
        rw [if_pos (by simpa using hp)]
      generalize le4 ((bs.take 7).drop 3) = x at HE4 HC hlt e4
      have hlt' : (x : Int) < 4294967296 := by omega
      have e64 : wrap64 (x : Int) = (x : Int) := by
        have h64 : IntKind.i64.wrap (x : Int) = (x : Int) := IntWalk.i64_in _ (by omega)
        exact IntWalk.i64_left _ ▸ h64
      have HF := hid_of (fun w' => H2.out x (.slice (some ⟨g, o2, none⟩) n2 c2) w' HC.out HG.out)
      clear hc3 hcap3 hp e4 hlt l3
      have kX := Kp.alloc (fun _ => False) w1 (.cells #[.int .u8 80, .int .u8 76, .int .u8 49] 5 (3, 4))
      generalize w1.alloc (.cells #[.int .u8 80, .int .u8 76, .int .u8 49] 5 (3, 4)) = A at HR3 HG3 kX ⊢
      have KX := hid_of kX
      clear kX
      go_wp2_with (first
        | (go_at_call 144; refine newReader_any _ _ _ _ ?_)
        | (go_at_call 174; refine rfour_any _ ⟨(bs.take 7).drop 3, false⟩ _ g _ (reader_new HR3.out HG3.out) HL3.out ?_; intro w4 v4 hr4 hk4; rw [HE4.out]; have HK4 := hid_of hk4; clear hr4 hk4)
        | fail)
      have kA : Kp (fun _ => False) w1 w4 := KX.out.trans ((Kp.alloc (fun b => b = A.heap.size) A _).trans HK4.out (fun _ _ h => h)) (fun b hb e => by have := KX.out.size; omega)
      refine bodyPost_ret (results_tmp3 rfl _ _ _) rfl ?_
      first
        | exact HF.out _ (HR2.out.kept kA) (HK1.out.trans kA (fun _ _ h => h))
        | (rw [e64]; exact HF.out _ (HR2.out.kept kA) (HK1.out.trans kA (fun _ _ h => h)))

end

end Go.Proofs.YthbdpfccfcceiaaGreatDoor

namespace Go.Proofs.YthbdpfccfcceiaaGreatDoor
open Go.RowKit Go.Maps Go.Lib

/-- So many writes, one behind the other. -/
def RS.writes (s : RS) : Nat → List (ByteArray × ByteArray × Bool) × RS
  | 0 => ([], s)
  | n + 1 => ((s.writes n).1 ++ [((s.writes n).2.key.1, (s.writes n).2.key.2.ver.1)], (s.writes n).2.key.2.ver.2)

theorem RS.writes_length (s : RS) : ∀ n, (s.writes n).1.length = n
  | 0 => rfl
  | n + 1 => by simp [RS.writes, s.writes_length n]
theorem RS.key_len (s : RS) : s.key.2.bs.length ≤ s.bs.length := by
  have h := s.text_len
  unfold RS.key
  dsimp only
  split
  · exact h
  · exact h
theorem RS.ver_len (s : RS) : s.ver.2.bs.length ≤ s.bs.length := by
  have h := s.one_len
  have h2 := s.one.2.text_len
  unfold RS.ver
  split
  · dsimp only
    split
    · omega
    · show s.one.2.text.2.bs.length ≤ _; omega
  · split
    · exact h
    · exact h
theorem RS.writes_len (s : RS) : ∀ n, (s.writes n).2.bs.length ≤ s.bs.length
  | 0 => Nat.le_refl _
  | n + 1 => Nat.le_trans (Nat.le_trans (RS.ver_len _) (RS.key_len _)) (s.writes_len n)

section
variable {R : Ending → World → Prop}

theorem wpW_append {ops : Array Oper} {rest : List Oper} {o : Oper} {a : Act} {Q : Exit → Act → World → Prop} (w : World) (hgd : o.guard = none) (s x : Operand)
    (ho : o.op = .call { callee := .builtin .append, args := #[s, x], argTypes := #[108, 108] })
    (base : Nat) (v : Value) (n : Nat) (xs : List Value) (hs : a.eval s = v) (hown : w.ownsRow base 153 3 v n xs) (g : Nat) (u1 u2 u3 : Value) (hx : a.eval x = .slice (some ⟨g, 0, none⟩) 1 1) (hu : w.heap[g]? = some (.cells #[u1, u2, u3] 153 (0, 0))) (h1 : ∀ u ∈ [u1, u2, u3], u.oneCell' = true) (hl : n ≤ 1000) (hb : base ≤ w.heap.size)
    (h : ∀ v' w', w'.ownsRow base 153 3 v' (n + 1) (xs ++ [u1, u2, u3]) → Kp (fun b => v.ownBlock = some b) w w' → (v'.ownBlock = v.ownBlock ∨ v'.ownBlock = some w.heap.size) → wpList Tryz.prog ops Q rest (a.put o.dst v') w') :
    wpList Tryz.prog ops Q (o :: rest) a w := by
  obtain ⟨i0, hi, hz0, hz1, hz2⟩ := info_parts infoW
  refine wpList_append_own_at _ hgd s x 108 ho base 153 i0 (.agg #[.string ⟨#[]⟩, .string ⟨#[]⟩, .bool false]) 3 40 Tryz.underlying108 hi hz0 hz1 hz2 rfl (by decide) v n xs hs hown ⟨g, 0, none⟩ 1 1 [u1, u2, u3] hx rfl (fun j y hj => ?_) h1 (by unfold maxLen; omega) (by omega) hb (fun v' w' r1 r2 _ r4 => h v' w' r1 (Kp.of_grown r2 (fun _ e => e)) r4)
  rw [addr_add, Nat.zero_add, cell_of hu]
  simpa using hj

/-- How the memory lies while writes are read. -/
structure MidX (w : World) (r g : Nat) (s : RS) (k : Nat) (wr : World) (v3 v : Value) : Prop where
  kp : Kp (fun b => b = r) w wr
  rdr : RdrAt wr r (s.writes k).2 v g
  row : wr.ownsRow w.heap.size 153 3 v3 k ((s.writes k).1.flatMap encW)

set_option maxRecDepth 20000 in
set_option maxHeartbeats 2000000 in
theorem readWrites_any (r : Nat) (s : RS) (v : Value) (g : Nat) (w : World) (h : RdrAt w r s v g) (hl : s.bs.length ≤ 1100000)
    (hR : ∀ w' v' u, RdrAt w' r (s.one.2.writes s.one.1).2 v' g → Kp (fun b => b = r) w w' → w'.ownsRow w.heap.size 153 3 u s.one.1 ((s.one.2.writes s.one.1).1.flatMap encW) → R (.returned u) w') :
    Calls Tryz.prog 207 #[.pointer (some ⟨r, 0, none⟩)] w R := by
  have hrl := block_lt h.blk
  have hgl := h.lt
  have H := hid_of h
  have HL := hid_of hl
  have HR := hid_of hR
  have HO := hid_of s.one_len
  have hone : (s.one.1 : Int) < 256 := by have := s.one_lt; omega
  have HW := hid_of s.one.2.writes_len
  clear h hl hR
  go_enter Tryz.func207, Tryz.ntmps207
  go_wp2_with (first
    | (go_at_call 206; refine one_any r s v g w H.out HL.out ?_; intro w1 v1 hr1 hk1; have H1 := hid_of hr1; have HK1 := hid_of hk1; clear hr1 hk1)
    | fail)
  generalize hn : s.one.1 = n at HR hone ⊢
  clear hn
  go_loopw [3, 7] (fun v3 v7 wr => ∃ (k : Nat) (v : Value), k ≤ n ∧ v7 = .int .i64 k ∧ MidX w r g s.one.2 k wr v3 v) (fun _ v7 _ => n - (intOf v7).toNat)
  case atStart => exact ⟨0, v1, Nat.zero_le _, rfl, HK1.out, H1.out, World.ownsRow_nil _ _ _ _⟩
  case round =>
    obtain ⟨k, v, hk, rfl, hM⟩ := hrel
    have HM := hid_of hM
    obtain ⟨pu, capu, rfl⟩ := ownsRow_slice hM.row
    clear hM
    by_cases hlt : k < n
    · have hlt' : (k : Int) < n := by omega
      have HKN : Hid (k ≤ 1000) := by show _ ≤ _; omega
      clear hk
      go_wp2_with (first
        | (go_at_call 243; refine rkey_any r (s.one.2.writes k).2 v g _ HM.out.rdr (by have := HW.out k; have := HO.out; have := HL.out; omega) ?_; intro w2 v2 hr2 hk2; have H2 := hid_of hr2; have HK2 := hid_of hk2; clear hr2 hk2)
        | (go_at_call 244; refine ver_any r (s.one.2.writes k).2.key.2 v2 g _ H2.out (by have := RS.key_len (s.one.2.writes k).2; have := HW.out k; have := HO.out; have := HL.out; omega) ?_; intro w3 v4 hr3 hk3; have H3 := hid_of hr3; have HK3 : Hid (Kp (fun b => b = r) wr w3) := HK2.out.trans hk3 (fun _ _ h => h); clear hr3 hk3)
        | (at_builtin; refine wpW_append _ rfl _ _ rfl w.heap.size (.slice pu k capu) k _ rfl (ownsRow_kp HM.out.row (HK3.out.trans (Kp.alloc _ _ _) (fun _ _ h => h)) (fun b e (h : b = r) => by have := (HM.out.row.lt b e).1; omega)) w3.heap.size _ _ _ rfl (heap_alloc_new w3 _) (by simp [Value.oneCell']) HKN.out (by have := HM.out.kp.size; have := HK3.out.size; simp; omega) ?_; intro v5 w5 hown5 hk5 hloc5; have HOW := hid_of hown5; have HK5 : Hid (Kp (fun b => b = r ∨ (Value.slice pu k capu).ownBlock = some b) wr w5) := ((HK3.out.mono (fun _ _ h => Or.inl h)).trans (Kp.alloc _ _ _) (fun _ _ h => h)).trans hk5 (fun _ _ h => Or.inr h); have H5 := hid_of (show RdrAt w5 r ((s.one.2.writes k).2.key.2.ver).2 v4 g from (H3.out.kp ((Kp.alloc (fun b => (Value.slice pu k capu).ownBlock = some b) _ _).trans hk5 (fun _ _ h => h)) (fun e => by have := (HM.out.row.lt _ e).1; omega) (fun e => by have := (HM.out.row.lt _ e).1; omega))); obtain ⟨pu5, capu5, rfl⟩ := ownsRow_slice hown5; clear hown5 hk5 hloc5)
        | fail)
      go_roundw
      case rel =>
        refine ⟨k + 1, v4, by omega, by go_num, ?_, ?_, ?_⟩
        · exact HM.out.kp.trans HK5.out (fun b hb e => e.elim id (fun e => by have := (HM.out.row.lt _ e).1; omega))
        · exact H5.out
        · show w5.ownsRow w.heap.size 153 3 _ (k + 1) (((s.one.2.writes k).1 ++ [((s.one.2.writes k).2.key.1, (s.one.2.writes k).2.key.2.ver.1)]).flatMap encW)
          rw [List.flatMap_append]
          exact HOW.out
      case measure => simp [intOf]; omega
    · have hie : k = n := by omega
      subst hie
      have HF := hid_of (HR.out _ v _ HM.out.rdr HM.out.kp HM.out.row)
      clear hk hlt
      go_wp2_with fail
      exact HF.out

end

end Go.Proofs.YthbdpfccfcceiaaGreatDoor

namespace Go.Proofs.YthbdpfccfcceiaaGreatDoor
open Go.RowKit Go.Maps Go.Lib

section
variable {R : Ending → World → Prop}

theorem less_blt (a b : ByteArray) : Op.bytesLess a.toList b.toList = true ↔ blt a b := by
  rw [bytesLess_eq, decide_eq_true_eq, Lib.toList_data, Lib.toList_data]
  rfl

theorem pairwise_steps {α : Type} {P : α → α → Prop} (ht : ∀ a b c, P a b → P b c → P a c) : ∀ l : List α, (∀ (i : Nat) a b, l[i]? = some a → l[i + 1]? = some b → P a b) → l.Pairwise P
  | [], _ => List.Pairwise.nil
  | [a], _ => by simp
  | a :: b :: r, h => by
    have ih := pairwise_steps ht (b :: r) (fun i x y hx hy => h (i + 1) x y (by simpa using hx) (by simpa using hy))
    refine List.pairwise_cons.2 ⟨fun c hc => ?_, ih⟩
    have hab := h 0 a b rfl rfl
    rcases List.mem_cons.1 hc with rfl | hc
    · exact hab
    · exact ht _ _ _ hab ((List.pairwise_cons.1 ih).1 c hc)

theorem pairwise_step {α : Type} {P : α → α → Prop} {l : List α} (h : l.Pairwise P) (i : Nat) (a b : α) (ha : l[i]? = some a) (hb : l[i + 1]? = some b) : P a b := by
  obtain ⟨h1, rfl⟩ := List.getElem?_eq_some_iff.1 ha
  obtain ⟨h2, rfl⟩ := List.getElem?_eq_some_iff.1 hb
  exact List.pairwise_iff_getElem.1 h i (i + 1) h1 h2 (by omega)

set_option maxRecDepth 20000 in
set_option maxHeartbeats 2000000 in
theorem mayBe_any (u : Value) (ws : List (ByteArray × ByteArray × Bool)) (w : World) (base : Nat) (h : WR base w u ws) (hl : ws.length ≤ 1000)
    (hR : ∀ (b : Bool) w', (b = true ↔ (ws.map Prod.fst).Pairwise blt ∧ 1 ≤ ws.length ∧ ws.length ≤ 10) → Kp (fun _ => False) w w' → R (.returned (.bool b)) w') :
    Calls Tryz.prog 208 #[u] w R := by
  by_cases h0 : ws.length = 0
  · have e : ws = [] := List.eq_nil_of_length_eq_zero h0
    subst e
    obtain ⟨pu, cap, rfl⟩ := ownsRow_slice h
    have HF := hid_of (hR false w (by simp) (Kp.refl _ _))
    clear h hR hl h0
    go_enter Tryz.func208, Tryz.ntmps208
    go_wp2_with fail
    go_loop [3] (fun v3 => v3 = .int .i64 1) (fun _ => 0)
    case atStart => rfl
    case round =>
      obtain rfl := hrel
      go_wp2_with fail
      exact HF.out
  · obtain ⟨g, cap, cur, rfl, hg, hcur⟩ := ownsRow_some h (by omega)
    have HW := hid_of h
    have HR := hid_of hR
    have hl' : (ws.length : Int) ≤ 1000 := by omega
    have HN := hid_of h0
    clear h hR hg hcur h0
    go_enter Tryz.func208, Tryz.ntmps208
    go_wp2_with fail
    go_loopw [3] (fun v3 wr => ∃ k : Nat, 1 ≤ k ∧ k ≤ ws.length ∧ v3 = .int .i64 k ∧ Kp (fun _ => False) w wr ∧ ∀ i a b, i + 1 < k → ws[i]? = some a → ws[i + 1]? = some b → blt a.1 b.1) (fun v3 _ => ws.length - (intOf v3).toNat)
    case atStart => exact ⟨1, Nat.le_refl _, by have := HN.out; omega, rfl, Kp.refl _ _, fun i a b hi => by omega⟩
    case round =>
      obtain ⟨k, hk1, hk, rfl, hkp, hin⟩ := hrel
      have HIN := hid_of hin
      have HKP := hid_of hkp
      clear hin hkp
      by_cases hlt : k < ws.length
      · have hlt' : (k : Int) < ws.length := by omega
        obtain ⟨j, rfl⟩ : ∃ j, k = j + 1 := ⟨k - 1, by omega⟩
        obtain ⟨a, ha⟩ : ∃ a, ws[j]? = some a := ⟨ws[j], List.getElem?_eq_getElem (by omega)⟩
        obtain ⟨b, hb⟩ : ∃ b, ws[j + 1]? = some b := ⟨ws[j + 1], List.getElem?_eq_getElem hlt⟩
        have hcs := World.ownsRow.cells (ownsRow_kp HW.out HKP.out (fun _ _ e => e)) (g := g) rfl
        have ca : wr.cell? ⟨g, j * 3, none⟩ = some (.string a.1) := by
          have := hcs _ _ (encW_at ws j a ha).1
          rw [addr_add, Nat.zero_add] at this
          exact this
        have cb : wr.cell? ⟨g, (j + 1) * 3, none⟩ = some (.string b.1) := by
          have := hcs _ _ (encW_at ws (j + 1) b hb).1
          rw [addr_add, Nat.zero_add] at this
          exact this
        have HA := hid_of ha
        have HB := hid_of hb
        clear hcs ha hb
        have hj : j < ws.length := by omega
        have hj' : (j : Int) < ws.length := by omega
        have hk0' : (0 : Int) ≤ (j : Int) + 1 := by omega
        have hk2' : (j : Int) + 1 < ws.length := by omega
        have e1 : IntKind.i64.wrap (((j + 1 : Nat) : Int) - 1) = (j : Int) := by rw [show ((j + 1 : Nat) : Int) - 1 = (j : Int) by omega]; exact IntWalk.i64_in _ (by omega)
        have e2 : IntKind.i64.wrap ((j : Int) + 1 - 1) = (j : Int) := by rw [show (j : Int) + 1 - 1 = (j : Int) by omega]; exact IntWalk.i64_in _ (by omega)
        have e3 : IntKind.i64.wrap (j : Int) = (j : Int) := IntWalk.i64_in _ (by omega)
        by_cases hbl : blt a.1 b.1
        · have hbl' : Op.bytesLess a.1.toList b.1.toList = true := (less_blt a.1 b.1).2 hbl
          have HBL := hid_of hbl
          clear hbl
          go_wp2_with fail
          go_region_held3 (fun w' => w'.cell? ⟨g, j * 3, none⟩ = some (.string a.1) ∧ w'.cell? ⟨g, (j + 1) * 3, none⟩ = some (.string b.1)) (go_keep) (fail)
          all_goals go_wp2_with fail
          all_goals go_roundw
          case rel =>
            refine ⟨j + 1 + 1, by omega, by omega, by go_num, HKP.out.trans (Kp.drew _ _) (fun _ _ h => h), fun i x y hi hx hy => ?_⟩
            by_cases hij : i = j
            · subst hij
              obtain rfl := Option.some.inj (HA.out.symm.trans hx)
              obtain rfl := Option.some.inj (HB.out.symm.trans hy)
              exact HBL.out
            · exact HIN.out i x y (by omega) hx hy
          case measure => simp [intOf]; omega
        · have hbl' : Op.bytesLess a.1.toList b.1.toList = false := by rw [Bool.eq_false_iff]; exact fun e => hbl ((less_blt a.1 b.1).1 e)
          have HF := hid_of (HR.out false wr.drew ⟨fun e => (by cases e), fun e => absurd (pairwise_step e.1 j a.1 b.1 (by rw [List.getElem?_map, HA.out]; rfl) (by rw [List.getElem?_map, HB.out]; rfl)) hbl⟩ (HKP.out.trans (Kp.drew _ _) (fun _ _ h => h)))
          clear hbl
          go_wp2_with fail
          go_region_held3 (fun w' => w'.cell? ⟨g, j * 3, none⟩ = some (.string a.1) ∧ w'.cell? ⟨g, (j + 1) * 3, none⟩ = some (.string b.1)) (go_keep) (fail)
          all_goals go_wp2_with fail
          exact HF.out
      · have hie : k = ws.length := by omega
        subst hie
        have hpw : (ws.map Prod.fst).Pairwise blt := pairwise_steps (α := ByteArray) (P := blt) (fun a b c h1 h2 => blt_trans h1 h2) (ws.map Prod.fst) (fun i a b ha hb => by
          rw [List.getElem?_map] at ha hb
          obtain ⟨x, hx, rfl⟩ := Option.map_eq_some_iff.1 ha
          obtain ⟨y, hy, rfl⟩ := Option.map_eq_some_iff.1 hb
          exact HIN.out i x y (List.getElem?_eq_some_iff.1 hy).1 hx hy)
        by_cases h10 : ws.length ≤ 10
        · have HF := hid_of (HR.out true wr (by simp [hpw, h10]; omega) HKP.out)
          have h10' : (ws.length : Int) ≤ 10 := by omega
          have h1' : (1 : Int) ≤ ws.length := by omega
          clear hpw hk
          go_wp2_with fail
          exact HF.out
        · have HF := hid_of (HR.out false wr (by simp [h10]) HKP.out)
          have h10' : ¬ (ws.length : Int) ≤ 10 := by omega
          have h1' : (1 : Int) ≤ ws.length := by omega
          clear hpw hk
          go_wp2_with fail
          exact HF.out

end

end Go.Proofs.YthbdpfccfcceiaaGreatDoor
