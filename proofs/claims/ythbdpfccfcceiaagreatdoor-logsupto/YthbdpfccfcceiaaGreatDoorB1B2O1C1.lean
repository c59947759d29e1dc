/-
  The document's answer: bytes of a commit (four, Text, Bytes): rows of the call's own.
  The document's answer: the body of a commit's record is a row of bytes of its own.
  Whether a transaction has been overtaken: (*Store).overtaken.
  The history's Add, told of the store's plain state.
-/
import Derived.Test.YthbdpfccfcceiaaGreatDoorR8R9
import Derived.Test.YthbdpfccfcceiaaGreatDoorD5S1S2S3
namespace Go.Proofs.YthbdpfccfcceiaaGreatDoor
open Go.RowKit

theorem infoByte : (Tryz.prog.info? 5).map (fun i => (i.zero, i.size, i.bytes)) = some (some (.int .u8 0), 1, 1) := by kernel_rfl

/-- A row of bytes, in a block from a number on. -/
def BRow (base : Nat) (w : World) (v : Value) (n : Nat) : Prop := ∃ xs, w.ownsRow base 5 1 v n xs ∧ ∀ u ∈ xs, u.oneCell' = true

theorem brow_one (w : World) (x : Int) : BRow w.heap.size (w.alloc (.cells #[.int .u8 x] 5)) (.slice (some ⟨w.heap.size, 0, none⟩) 1 1) 1 :=
  ⟨[.int .u8 x], ⟨by simp, Or.inr ⟨w.heap.size, 1, #[.int .u8 x], rfl, Nat.le_refl _, heap_alloc_new w _, Nat.le_refl _, by unfold maxLen; omega, by simp, by simp⟩⟩, by simp [Value.oneCell']⟩

theorem brow_two (w : World) (o : Obj) (x : Int) : BRow (w.heap.size + 1) ((w.alloc o).alloc (.cells #[.int .u8 x] 5)) (.slice (some ⟨w.heap.size + 1, 0, none⟩) 1 1) 1 := by
  have h := brow_one (w.alloc o) x
  have e : (w.alloc o).heap.size = w.heap.size + 1 := by simp
  rw [e] at h
  exact h

theorem BRow.mono {base base' : Nat} {w : World} {v : Value} {n : Nat} (h : BRow base w v n) (hb : base' ≤ base) : BRow base' w v n := by
  obtain ⟨xs, h1, h2⟩ := h
  exact ⟨xs, ⟨h1.1, h1.2.imp id (fun ⟨g, cap, cur, e1, e2, e3⟩ => ⟨g, cap, cur, e1, Nat.le_trans hb e2, e3⟩)⟩, h2⟩

theorem BRow.kept {base : Nat} {w w' : World} {v : Value} {n : Nat} (h : BRow base w v n) (hk : Kp (fun _ => False) w w') : BRow base w' v n := by
  obtain ⟨xs, h1, h2⟩ := h
  exact ⟨xs, ownsRow_kp h1 hk (fun _ _ h => h), h2⟩

section
variable {R : Ending → World → Prop}

set_option maxRecDepth 20000 in
set_option maxHeartbeats 400000 in
theorem four_any (n : Int) (w : World) (h0 : 0 ≤ n) (h1 : n ≤ 10000) (hR : ∀ a b c d, R (.returned (.slice (some ⟨w.heap.size, 0, none⟩) 4 4)) (w.alloc (.cells #[.int .u8 a, .int .u8 b, .int .u8 c, .int .u8 d] 5))) :
    Calls Tryz.prog 161 #[.int .i64 n] w R := by
  have HR : Hid _ := hR
  clear hR
  go_enter Tryz.func161, Tryz.ntmps161
  go_wp2
  exact HR.out _ _ _ _

set_option maxRecDepth 20000 in
set_option maxHeartbeats 1000000 in
theorem text_any (s : ByteArray) (w : World) (hs : s.size ≤ 20) (hR : ∀ v w', BRow w.heap.size w' v (s.size + 1) → Kp (fun _ => False) w w' → R (.returned v) w') :
    Calls Tryz.prog 201 #[.string s] w R := by
  have HR : Hid _ := hR
  have HS : Hid _ := hs
  obtain ⟨i0, hi, hz0, hz1, hz2⟩ := info_parts infoByte
  have hs' : (s.size : Int) ≤ 20 := by omega
  clear hR hs
  go_enter Tryz.func201, Tryz.ntmps201
  go_wp2
  go_loopw [3, 4] (fun v3 v4 wr => ∃ k : Nat, k ≤ s.size ∧ v4 = .int .i64 k ∧ Kp (fun _ => False) w wr ∧ ∃ xs, wr.ownsRow w.heap.size 5 1 v3 (k + 1) xs ∧ ∀ u ∈ xs, u.oneCell' = true) (fun _ v4 _ => s.size - (intOf v4).toNat)
  case atStart =>
    obtain ⟨xs, h1, h2⟩ := brow_one w (s.size : Int)
    exact ⟨0, Nat.zero_le _, rfl, Kp.alloc _ _ _, xs, by first | exact h1 | simpa using h1, h2⟩
  case round =>
    obtain ⟨k, hk, rfl, hkp, xs, hrow, hone⟩ := hrel
    have HK : Hid _ := hkp
    have HO : Hid _ := hone
    clear hkp hone
    by_cases hlt : k < s.size
    · have hlt' : (k : Int) < s.size := by omega
      go_wp2_with (first
        | (at_builtin; refine wpList_append_own_at _ rfl _ _ 48 rfl w.heap.size 5 i0 (.int .u8 0) 1 1 Tryz.underlying48 hi hz0 hz1 hz2 rfl (by decide) _ _ _ rfl (hrow.alloc _) ⟨wr.heap.size, 0, none⟩ 1 1 [.int .u8 s[k].toNat] rfl rfl (cell_one_new _ _ _) (by simp [Value.oneCell']) (by have := HS.out; unfold maxLen; omega) (by have := HS.out; omega) (by have := HK.out.size; simp; omega) ?_; intro v' w2 hown' hgrow hnil hloc)
        | go_in)
      have hlo : ∀ b, Value.ownBlock u3 = some b → w.heap.size ≤ b := fun b hb => (hrow.lt b hb).1
      go_roundw
      case rel =>
        refine ⟨k + 1, by omega, by go_num, HK.out.trans ((Kp.alloc (fun b => Value.ownBlock u3 = some b) wr _).trans (Kp.of_grown (S := fun b => Value.ownBlock u3 = some b) hgrow (fun _ h => h)) (fun _ _ h => h)) (fun b hb e => by have := hlo b e; omega), _, hown', fun u hu => ?_⟩
        rw [List.mem_append] at hu
        rcases hu with hu | hu
        · exact HO.out u hu
        · simp at hu; subst hu; rfl
      case measure => simp [intOf]; omega
    · have hke : k = s.size := by omega
      subst hke
      go_wp2
      exact HR.out _ _ ⟨xs, hrow, HO.out⟩ HK.out

theorem BRow.form {base n : Nat} {w : World} {v : Value} (h : BRow base w v (n + 1)) : ∃ (g cap : Nat) (xs : List Value), v = .slice (some ⟨g, 0, none⟩) (n + 1) cap ∧ xs.length = (n + 1) * 1 ∧ (∀ j u, xs[j]? = some u → w.cell? ((⟨g, 0, none⟩ : Addr).add j) = some u) ∧ (∀ u ∈ xs, u.oneCell' = true) ∧ base ≤ g := by
  obtain ⟨xs, h1, h2⟩ := h
  rcases h1.2 with ⟨_, h0⟩ | ⟨g, cap, cur, rfl, hb, hg, r⟩
  · omega
  · exact ⟨g, cap, xs, rfl, h1.1, h1.cells (g := g) rfl, h2, hb⟩

set_option maxRecDepth 20000 in
set_option maxHeartbeats 1000000 in
theorem bytes_any (y : YV) (w : World) (hs : y.s.size ≤ 20) (hR : ∀ v w' n, n < 22 → BRow w.heap.size w' v (n + 1) → Kp (fun _ => False) w w' → R (.returned v) w') :
    Calls Tryz.prog 202 #[.agg #[.string y.key, .int .i64 y.t, .bool y.gone, .string y.s]] w R := by
  obtain ⟨i0, hi, hz0, hz1, hz2⟩ := info_parts infoByte
  have HR : Hid _ := hR
  have HS : Hid _ := hs
  obtain ⟨key, t, gone, s⟩ := y
  clear hR hs
  cases gone
  · go_enter Tryz.func202, Tryz.ntmps202
    have HB0 : Hid (BRow (w.heap.size + 1) ((w.alloc (.cells #[.string key, .int .i64 t, .bool false, .string s] 193)).alloc (.cells #[.int .u8 0] 5)) (.slice (some ⟨w.heap.size + 1, 0, none⟩) 1 1) 1) := brow_two _ _ _
    have hk0 : Hid (Kp (fun _ => False) w ((w.alloc (.cells #[.string key, .int .i64 t, .bool false, .string s] 193)).alloc (.cells #[.int .u8 0] 5))) := (Kp.alloc _ _ _).trans (Kp.alloc _ _ _) (fun _ _ h => h)
    go_wp2_with (first
      | (go_at_call 201; refine text_any s _ HS.out (fun v2 w2 hb2 hk2 => ?_); obtain ⟨xs0, hr0, ho0⟩ := BRow.kept HB0.out hk2; have HK2 : Hid (Kp (fun _ => False) ((w.alloc (.cells #[.string key, .int .i64 t, .bool false, .string s] 193)).alloc (.cells #[.int .u8 0] 5)) w2) := hk2; obtain ⟨g2, cap2, xs2, rfl, hl2, hc2, ho2, hg2⟩ := hb2.form; clear hk2 hb2; have HO : Hid _ := ho0; have HO2 : Hid _ := ho2; have HC2 : Hid _ := hc2; clear ho0 ho2 hc2)
      | (at_builtin; refine wpList_append_own_at _ rfl _ _ 48 rfl (w.heap.size + 1) 5 i0 (.int .u8 0) 1 1 Tryz.underlying48 hi hz0 hz1 hz2 rfl (by decide) _ _ _ rfl hr0 ⟨g2, 0, none⟩ (s.size + 1) cap2 xs2 rfl hl2 HC2.out HO2.out (by have h : s.size ≤ 20 := HS.out; unfold maxLen; omega) (by have h : s.size ≤ 20 := HS.out; omega) (by have h := HK2.out.size; simp at h; omega) ?_; intro v' w3 hown' hgrow hnil hloc)
      | go_in)
    refine HR.out v' w3 (s.size + 1) (by have h : s.size ≤ 20 := HS.out; omega) (BRow.mono (base := w.heap.size + 1) ⟨_, (by have h := hown'; rw [Nat.add_comm 1 (s.size + 1)] at h; exact h), fun u hu => ?_⟩ (by omega)) ((hk0.out.trans HK2.out (fun _ _ h => h)).trans (Kp.of_grown (S := fun b => b = w.heap.size + 1) hgrow (fun b hb => by show b = w.heap.size + 1; simp [Act.eval, Value.ownBlock] at hb; omega)) (fun b hb (e : b = w.heap.size + 1) => by omega))
    rw [List.mem_append] at hu
    exact hu.elim (HO.out u) (HO2.out u)
  · go_enter Tryz.func202, Tryz.ntmps202
    have HB0 : Hid (BRow (w.heap.size + 1) ((w.alloc (.cells #[.string key, .int .i64 t, .bool true, .string s] 193)).alloc (.cells #[.int .u8 1] 5)) (.slice (some ⟨w.heap.size + 1, 0, none⟩) 1 1) 1) := brow_two _ _ _
    have hk0 : Hid (Kp (fun _ => False) w ((w.alloc (.cells #[.string key, .int .i64 t, .bool true, .string s] 193)).alloc (.cells #[.int .u8 1] 5))) := (Kp.alloc _ _ _).trans (Kp.alloc _ _ _) (fun _ _ h => h)
    go_wp2
    exact HR.out _ _ 0 (by omega) (BRow.mono (base := w.heap.size + 1) HB0.out (by omega)) hk0.out

end

end Go.Proofs.YthbdpfccfcceiaaGreatDoor

namespace Go.Proofs.YthbdpfccfcceiaaGreatDoor
open Go.RowKit

theorem four_cells (w : World) (a b c d : Int) : ∀ j u, [Value.int .u8 a, .int .u8 b, .int .u8 c, .int .u8 d][j]? = some u → (w.alloc (.cells #[.int .u8 a, .int .u8 b, .int .u8 c, .int .u8 d] 5)).cell? ((⟨w.heap.size, 0, none⟩ : Addr).add j) = some u := four_new w _ _ _ _ _

section
variable {R : Ending → World → Prop}

theorem brow_app {base n m : Nat} {w3 : World} {v' : Value} {xs ys : List Value} (h : w3.ownsRow base 5 1 v' (n + m) (xs ++ ys)) (h1 : ∀ u ∈ xs, u.oneCell' = true) (h2 : ∀ u ∈ ys, u.oneCell' = true) : ∃ zs, w3.ownsRow base 5 1 v' (n + m) zs ∧ ∀ u ∈ zs, u.oneCell' = true :=
  ⟨_, h, fun u hu => by rw [List.mem_append] at hu; exact hu.elim (h1 u) (h2 u)⟩

set_option maxRecDepth 20000 in
set_option maxHeartbeats 2000000 in
theorem body_any (t : Int) (l : List YV) (g cap : Nat) (w : World) (h0 : 0 ≤ t) (h1 : t ≤ 10000) (hl : l.length ≤ 10) (hv : VS w (.slice (some ⟨g, 0, none⟩) l.length cap) l g cap) (hs : ∀ y ∈ l, y.key.size ≤ 8 ∧ y.s.size ≤ 20)
    (hR : ∀ v w' n, n < 1000 → BRow w.heap.size w' v (n + 1) → Kp (fun _ => False) w w' → R (.returned v) w') :
    Calls Tryz.prog 160 #[.int .i64 t, .slice (some ⟨g, 0, none⟩) l.length cap] w R := by
  obtain ⟨i0, hi, hz0, hz1, hz2⟩ := info_parts infoByte
  have HR : Hid _ := hR
  have HV : Hid (VS w (.slice (some ⟨g, 0, none⟩) l.length cap) l g cap) := hv
  have HS : Hid _ := hs
  have HL : Hid _ := hl
  have hl' : (l.length : Int) ≤ 10 := by omega
  have HB0 : Hid (BRow w.heap.size (w.alloc (.cells #[.int .u8 67] 5)) (.slice (some ⟨w.heap.size, 0, none⟩) 1 1) 1) := brow_one _ _
  clear hR hv hs hl
  go_enter Tryz.func160, Tryz.ntmps160
  have e1 : (w.alloc (.cells #[.int .u8 67] 5)).heap.size = w.heap.size + 1 := by simp
  go_wp2_with (first
    | (go_at_call 161; refine four_any t _ h0 h1 (fun a b c d => ?_); have hF := four_cells (w.alloc (.cells #[.int .u8 67] 5)) a b c d; rw [e1] at hF; have HF : Hid _ := hF; obtain ⟨xs0, hr0, ho0⟩ := BRow.kept HB0.out (Kp.alloc (fun _ => False) _ (.cells #[.int .u8 a, .int .u8 b, .int .u8 c, .int .u8 d] 5)); have HO0 : Hid _ := ho0; have HK0 : Hid (Kp (fun _ => False) w ((w.alloc (.cells #[.int .u8 67] 5)).alloc (.cells #[.int .u8 a, .int .u8 b, .int .u8 c, .int .u8 d] 5))) := (Kp.alloc _ _ _).trans (Kp.alloc _ _ _) (fun _ _ h => h); clear ho0 hF)
    | (at_builtin; refine wpList_append_own_at _ rfl _ _ 48 rfl w.heap.size 5 i0 (.int .u8 0) 1 1 Tryz.underlying48 hi hz0 hz1 hz2 rfl (by decide) _ _ _ rfl (hr1.alloc _) ⟨w1.heap.size, 0, none⟩ 1 1 [.int .u8 (l.length : Int)] rfl rfl (cell_one_new _ _ _) (by simp [Value.oneCell']) (by unfold maxLen; omega) (by omega) (by have h := HK1.out.size; simp; omega) ?_; intro v2 w2 hown2 hgrow2 hnil2 hloc2)
    | (at_builtin; refine wpList_append_own_at _ rfl _ _ 48 rfl w.heap.size 5 i0 (.int .u8 0) 1 1 Tryz.underlying48 hi hz0 hz1 hz2 rfl (by decide) _ _ _ rfl hr0 ⟨w.heap.size + 1, 0, none⟩ 4 4 [.int .u8 a, .int .u8 b, .int .u8 c, .int .u8 d] rfl rfl HF.out (by simp [Value.oneCell']) (by unfold maxLen; omega) (by omega) (by simp; omega) ?_; intro v1 w1 hr1 hgrow1 hnil1 hloc1; have HK1 : Hid (Kp (fun _ => False) w w1) := HK0.out.trans (Kp.of_grown (S := fun k => k = w.heap.size) hgrow1 (fun k hb => by show k = w.heap.size; simp [Act.eval, Value.ownBlock] at hb; omega)) (fun k hb (e : k = w.heap.size) => by omega))
    | go_in)
  have HK2 : Hid (Kp (fun _ => False) w w2) := HK1.out.trans ((Kp.alloc (fun b => Value.ownBlock v1 = some b) w1 _).trans (Kp.of_grown (S := fun b => Value.ownBlock v1 = some b) hgrow2 (fun _ h => h)) (fun _ _ h => h)) (fun b hb e => by have := (hr1.lt b e).1; omega)
  have HR2 : Hid (BRow w.heap.size w2 v2 (5 + 1)) := ⟨_, hown2, fun u hu => by
    rw [List.mem_append, List.mem_append] at hu
    rcases hu with (hu | hu) | hu
    · exact HO0.out u hu
    · simp at hu; rcases hu with rfl | rfl | rfl | rfl <;> rfl
    · simp at hu; subst hu; rfl⟩
  clear hgrow1 hgrow2 hnil1 hnil2 hloc1 hloc2 hr0 hr1 hown2
  go_loopw [5, 6] (fun v5 v6 wr => ∃ k n : Nat, k ≤ l.length ∧ v6 = .int .i64 k ∧ n ≤ 5 + 40 * k ∧ Kp (fun _ => False) w wr ∧ ∃ xs, wr.ownsRow w.heap.size 5 1 v5 (n + 1) xs ∧ ∀ u ∈ xs, u.oneCell' = true) (fun _ v6 _ => l.length - (intOf v6).toNat)
  case atStart =>
    obtain ⟨xs, q1, q2⟩ := HR2.out
    exact ⟨0, 5, Nat.zero_le _, rfl, by omega, HK2.out, xs, q1, q2⟩
  case round =>
    obtain ⟨k, n, hk, rfl, hn, hkp, xs, hrow, hone⟩ := hrel
    have HK : Hid (Kp (fun _ => False) w wr) := hkp
    have HO : Hid _ := hone
    have HN : Hid _ := hn
    clear hone hn
    by_cases hlt : k < l.length
    · have hlt' : (k : Int) < l.length := by omega
      have hVr : Hid (VS wr (.slice (some ⟨g, 0, none⟩) l.length cap) l g cap) := HV.out.kept hkp
      have hc0 := hVr.out.c0 k hlt
      have HSK : Hid _ := HS.out l[k] (List.getElem_mem _)
      have hlo : Hid (∀ b, Value.ownBlock u5 = some b → w.heap.size ≤ b) := fun b hb => (hrow.lt b hb).1
      clear hkp
      obtain ⟨y, hy⟩ : ∃ y, l[k] = y := ⟨_, rfl⟩
      rw [hy] at hc0 HSK
      have HY : Hid _ := hy
      clear hy
      go_wp2_with (first
        | (go_at_call 201; refine text_any y.key _ (by have h := HSK.out.1; omega) (fun v3 w3 hb3 hk3 => ?_); have hrow3 := ownsRow_kp hrow hk3 (fun _ _ h => h); have HK3 : Hid (Kp (fun _ => False) wr w3) := hk3; obtain ⟨g3, cap3, xs3, rfl, hl3, hc3, ho3, hg3⟩ := hb3.form; have HO3 : Hid _ := ho3; have HC3 : Hid _ := hc3; clear hk3 hb3 ho3 hc3)
        | (go_at_call 202; refine bytes_any y _ (by have h := HSK.out.2; omega) (fun v5 w5 m5 hm5 hb5 hk5 => ?_); have hrow5 := ownsRow_kp hrow4 hk5 (fun _ _ h => h); have HK5 : Hid (Kp (fun _ => False) w4 w5) := hk5; have HM5 : Hid _ := hm5; obtain ⟨g5, cap5, xs5, rfl, hl5, hc5, ho5, hg5⟩ := hb5.form; have HO5 : Hid _ := ho5; have HC5 : Hid _ := hc5; clear hk5 hb5 ho5 hc5 hm5)
        | (at_builtin; refine wpList_append_own_at _ rfl _ _ 48 rfl w.heap.size 5 i0 (.int .u8 0) 1 1 Tryz.underlying48 hi hz0 hz1 hz2 rfl (by decide) _ _ _ rfl hrow5 ⟨g5, 0, none⟩ (m5 + 1) cap5 xs5 rfl hl5 HC5.out HO5.out (by have := HN.out; have := HM5.out; have := HL.out; have := HSK.out.1; unfold maxLen; omega) (by have := HN.out; have := HM5.out; have := HL.out; have := HSK.out.1; omega) (by have := HK5.out.size; have := HK4.out.size; omega) ?_; intro v6 w6 hown6 hgrow6 hnil6 hloc6)
        | (at_builtin; refine wpList_append_own_at _ rfl _ _ 48 rfl w.heap.size 5 i0 (.int .u8 0) 1 1 Tryz.underlying48 hi hz0 hz1 hz2 rfl (by decide) _ _ _ rfl hrow3 ⟨g3, 0, none⟩ (y.key.size + 1) cap3 xs3 rfl hl3 HC3.out HO3.out (by have := HN.out; have := HL.out; have := HSK.out.1; unfold maxLen; omega) (by have := HN.out; have := HL.out; have := HSK.out.1; omega) (by have := HK3.out.size; have := HK.out.size; omega) ?_; intro v4 w4 hrow4 hgrow4 hnil4 hloc4; have hk4 : Kp (fun _ => False) w w4 := (HK.out.trans HK3.out (fun _ _ h => h)).trans (Kp.of_grown (S := fun b => Value.ownBlock u5 = some b) hgrow4 (fun _ h => h)) (fun b hb e => by have := hlo.out b e; omega); have HK4 : Hid (Kp (fun _ => False) w w4) := hk4; have hV4 := HV.out.kept hk4; have a0 := hV4.c0 k hlt; have a1 := hV4.c1 k hlt; have a2 := hV4.c2 k hlt; have a3 := hV4.c3 k hlt; rw [HY.out] at a0 a1 a2 a3; clear hk4 hV4)
        | go_in)
      have hlo4 : ∀ b, Value.ownBlock v4 = some b → w.heap.size ≤ b := fun b hb => (hrow5.lt b hb).1
      go_roundw
      case rel =>
        refine ⟨k + 1, n + (y.key.size + 1) + (m5 + 1), by omega, by go_num, by have := HN.out; have := HM5.out; have := HSK.out.1; omega, (HK4.out.trans HK5.out (fun _ _ h => h)).trans (Kp.of_grown (S := fun b => Value.ownBlock v4 = some b) hgrow6 (fun _ h => h)) (fun b hb e => by have := hlo4 b e; omega), _, (by have h := hown6; rw [show n + 1 + (y.key.size + 1) + (m5 + 1) = (n + (y.key.size + 1) + (m5 + 1)) + 1 by omega] at h; exact h), fun u hu => ?_⟩
        rw [List.mem_append, List.mem_append] at hu
        rcases hu with (hu | hu) | hu
        · exact HO.out u hu
        · exact HO3.out u hu
        · exact HO5.out u hu
      case measure => simp [intOf]; omega
    · go_wp2_with fail
      exact HR.out _ _ n (by have := HN.out; have := HL.out; omega) ⟨xs, hrow, HO.out⟩ HK.out

end

end Go.Proofs.YthbdpfccfcceiaaGreatDoor

namespace Go.Proofs.YthbdpfccfcceiaaGreatDoor
open Go.RowKit Go.Maps

def changed (l : List Int) (t : Int) : Bool := match l.getLast? with | some m => decide (t < m) | none => false

theorem ownsRow_cells {w : World} {v : Value} {l : List Int} (h : w.ownsRow 0 3 1 v l.length (l.map (Value.int .i64))) (hl : l ≠ []) :
    ∃ g cap, v = .slice (some ⟨g, 0, none⟩) l.length cap ∧ ∀ j, j < l.length → w.cell? ⟨g, j, none⟩ = some (.int .i64 (l.getD j 0)) := by
  rcases h.2 with ⟨_, h0⟩ | ⟨g, cap, cur, e, _, hg, hn, _, hcs, htk⟩
  · exact absurd (List.eq_nil_of_length_eq_zero h0) hl
  · refine ⟨g, cap, e, fun j hj => ?_⟩
    rw [cell_of hg]
    have : (l.map (Value.int .i64))[j]? = cur.toList[j]? := by
      rw [← htk, List.getElem?_take]; simp [hj]
    rw [List.getElem?_map, List.getElem?_eq_getElem hj] at this
    rw [← Array.getElem?_toList, ← this]
    simp [List.getD, List.getElem?_eq_getElem hj]

section
variable {own own' : Nat → Lab} {c : Nat} {w w' : World} {p : Nat} {s : XS} {mo ph mv mm : Nat} {pt mw : Int → Nat} {sl : ByteArray → Value}

theorem x_changed (h : XR own c w p s mo ph mv mm pt mw sl) (key : ByteArray) (hlen : key.size ≤ 8) (hl : (s.mom key).length < 1000000) (t : Int) :
    Calls Tryz.prog 125 #[.pointer (some ⟨ph, 0, none⟩), .string key, .int .i64 t] w fun e w' => e = .returned (.bool (changed (s.mom key) t)) ∧ w' = w := by
  have c1 : w.cell? ⟨ph, 1, none⟩ = some (.map (some mm)) := cell_of h.hist 1
  by_cases hm : s.mom key = []
  · refine changed_nil ph mm s.nm _ key t w c1 h.moms hlen none 0 (by rw [encS_at, if_pos hm]; rfl) ⟨by rw [hm]; rfl, rfl⟩
  · obtain ⟨g, cap, hv, hc⟩ := ownsRow_cells (h.row key hm) hm
    obtain ⟨len, hlen'⟩ : ∃ len, (s.mom key).length = len + 1 := ⟨(s.mom key).length - 1, by have := List.length_pos_iff.2 hm; omega⟩
    refine changed_some ph mm s.nm _ key t w c1 h.moms hlen g len cap (by rw [encS_at, if_neg hm, hv, hlen']; rfl) (by omega) _ (hc len (by omega)) ⟨?_, rfl⟩
    unfold changed
    rw [List.getLast?_eq_getElem?, hlen']
    simp only [Nat.add_sub_cancel]
    rw [List.getElem?_eq_getElem (by omega)]
    simp [List.getD, List.getElem?_eq_getElem (show len < (s.mom key).length by omega)]

theorem encS_inv {g : ByteArray → Option (ByteArray × Bool)} {key v : Value} (h : encS (fun k => (g k).map encVer) key = some v) : ∃ (k : ByteArray) (x : Value), key = .string k ∧ v = (fun v : Value => v) x := by
  cases key <;> simp [encS] at h
  exact ⟨_, v, rfl, rfl⟩

def overt (s : XS) (t : XT) : Prop := ∃ k, (t.wr k).isSome = true ∧ changed (s.mom k) t.sees = true

variable {R : Ending → World → Prop}

set_option maxRecDepth 20000 in
set_option maxHeartbeats 1000000 in
theorem x_overtaken (h : XR own c w p s mo ph mv mm pt mw sl) (tx : Int) (t : XT) (e : s.txs tx = some t) (hkeys : ∀ k, (t.wr k).isSome = true → k.size ≤ 8) (hmom : ∀ k, (s.mom k).length < 1000000)
    (h0 : ¬ overt s t → ∀ w', Kp (fun _ => False) w w' → R (.returned (.bool false)) w')
    (h1 : overt s t → ∀ w', Kp (fun _ => False) w w' → R (.returned (.bool true)) w') :
    Calls Tryz.prog 71 #[.pointer (some ⟨p, 0, none⟩), .pointer (some ⟨pt tx, 0, none⟩)] w R := by
  have c1 : w.cell? ⟨pt tx, 1, none⟩ = some (.map (some (mw tx))) := cell_of (h.tx tx t e) 1
  have hw := h.wr tx t e
  have H0 : Hid _ := h0
  have H1 : Hid _ := h1
  clear h0 h1
  go_enter Tryz.func71, Tryz.ntmps71
  go_wp2_with (first
    | (at_range; refine wpL_range _ rfl _ 130 rfl 9 138 kStr Tryz.underlying130 (mw tx) t.nw _ rfl hw ?_; intro w0 hrg0 hg0 hs0)
    | go_in)
  go_frame
  go_loopw [5] (fun _ wr => ∃ (left : Value → Bool) (cnt : Nat), frng wr Tryz.prog 9 (mw tx) w.heap.size t.nw (encS fun k => (t.wr k).map encVer) left cnt ∧ Kp (fun _ => False) w wr ∧ ∀ k, (t.wr k).isSome = true → left (.string k) = false → changed (s.mom k) t.sees = false)
    (fun _ wr => wr.rangeLeft (mw tx) w.heap.size)
  case atStart => exact ⟨_, _, hrg0, Kp.of_grown hg0 (fun _ h => by cases h), fun k hk hl => by rw [encS_at] at hl; rw [Option.isSome_map, hk] at hl; cases hl⟩
  case round =>
    obtain ⟨left, cnt, hrg, hkp, hdone⟩ := hrel
    have HD : Hid _ := hdone
    clear hdone
    go_wp2_with (first
      | (at_next; refine wpL_next _ rfl _ rfl 9 kStr Value.string (fun v : Value => v) (mw tx) w.heap.size t.nw _ left cnt (fun key v hv => ?inv) rfl hrg ?_ ?_)
      | go_in)
    case inv => exact encS_inv hv
    · intro _ hl0
      go_wp2
      refine H0.out (fun ⟨k, hk1, hk2⟩ => ?_) _ hkp
      rw [HD.out k hk1 (hl0 _)] at hk2; cases hk2
    · intro k v w1 cnt1 hlk hfk left' hrg1 hl1 hl2 hlt hg1 hs1 hen
      have hks : (t.wr k).isSome = true := by
        rw [encS_at] at hfk
        cases hq : t.wr k with
        | none => rw [hq] at hfk; cases hfk
        | some _ => rfl
      have hkp1 : Kp (fun _ => False) w w1 := hkp.trans (Kp.of_grown (S := fun b => b = w.heap.size) hg1 (fun b hb => by cases hb; rfl)) (fun b hb e => by omega)
      have hx := h.kept hkp1
      have d0 : w1.cell? ⟨p, 0, none⟩ = some (.pointer (some ⟨ph, 0, none⟩)) := cell_of hx.store 0
      have d1 : w1.cell? ⟨pt tx, 0, none⟩ = some (.int .i64 t.sees) := cell_of (hx.tx tx t e) 0
      clear hfk hlk
      have hcall : Hid (∀ W : World, W = w1.drew → Calls Tryz.prog 125 #[.pointer (some ⟨ph, 0, none⟩), .string k, .int .i64 t.sees] W fun e w' => e = .returned (.bool (changed (s.mom k) t.sees)) ∧ w' = W) := fun W hW => by
        subst hW; exact x_changed (hx.kept (Kp.drew _ _)) k (hkeys k hks) (hmom k) t.sees
      have hrg2 : frng w1.drew Tryz.prog 9 (mw tx) w.heap.size t.nw (encS fun k => (t.wr k).map encVer) left' cnt1 := hrg1.of_block rfl rfl
      have hkp2 : Kp (fun _ => False) w w1.drew := hkp1.trans (Kp.drew _ _) (fun _ _ h => h)
      cases hch : changed (s.mom k) t.sees
      · rw [hch] at hcall
        go_wp2_with fail
        go_region_with (go_at_call 125; refine (hcall.out _ rfl).mono ?_; rintro e w' ⟨rfl, rfl⟩)
        all_goals
          clear d0 d1 hen
          go_wp2_with fail
          go_roundw
          case rel =>
            refine ⟨left', cnt1, hrg2, hkp2, fun k' hk' hl' => ?_⟩
            by_cases ek : k' = k
            · subst ek; exact hch
            · exact HD.out k' hk' (by rw [← hl2 _ (fun e => ek (by injection e))]; exact hl')
          case measure => rw [hrg2.left_eq, hrg.left_eq]; exact hlt
      · rw [hch] at hcall
        go_wp2_with fail
        go_region_with (go_at_call 125; refine (hcall.out _ rfl).mono ?_; rintro e w' ⟨rfl, rfl⟩)
        all_goals
          clear d0 d1 hen
          go_wp2_with fail
          exact H1.out ⟨k, hks, hch⟩ _ hkp2

end

end Go.Proofs.YthbdpfccfcceiaaGreatDoor

namespace Go.Proofs.YthbdpfccfcceiaaGreatDoor
open Go.RowKit Go.Maps

section
variable {own own' : Nat → Lab} {c : Nat} {w w' : World} {p : Nat} {s : XS} {mo ph mv mm : Nat} {pt mw : Int → Nat} {sl : ByteArray → Value}

theorem map_updP (g : ByteArray → Int → Option (ByteArray × Bool)) (k : ByteArray) (m : Int) (v : ByteArray × Bool) : (fun a b => ((updP g k m (some v)) a b).map encVer) = updP (fun a b => (g a b).map encVer) k m (some (encVer v)) := by
  funext a b
  by_cases e : a = k ∧ b = m
  · simp [updP, e]
  · simp [updP, e]

theorem put_moms (mom : ByteArray → List Int) (sl : ByteArray → Value) (key : ByteArray) (t : Int) (v' : Value) :
    IsPut (encS fun k => if mom k = [] then none else some (sl k)) (.string key) v' (encS fun k => if (updS mom key (mom key ++ [t])) k = [] then none else some (updS sl key v' k)) := by
  have : (fun k => if (updS mom key (mom key ++ [t])) k = [] then none else some (updS sl key v' k)) = updS (fun k => if mom k = [] then none else some (sl k)) key (some v') := by
    funext k
    by_cases e : k = key
    · subst e; simp [updS]
    · simp [updS, e]
  rw [this]; exact put_encS _ _ _

variable {R : Ending → World → Prop}

theorem x_add (h : XR own c w p s mo ph mv mm pt mw sl) (key val : ByteArray) (g : Bool) (t : Int) (hlen : key.size ≤ 8) (hwt : (Lit.int .i64 t).wf = true) (hl : (s.mom key).length < 1000000) (hnm : s.nm < 1000000) (hnv : s.nv < 1000000)
    (hR : ∀ w' own' sl' nv' nm', Kp (fun b => b = mv ∨ b = mm ∨ own b = ⟨c, 7, 0, key⟩) w w' → (∀ b, b < w.heap.size → own' b = own b) → nv' ≤ s.nv + 1 → nm' ≤ s.nm + 1 →
      XR own' c w' p { s with mom := updS s.mom key (s.mom key ++ [t]), ver := updP s.ver key t (some (val, g)), nv := nv', nm := nm' } mo ph mv mm pt mw sl' → R (.returned (.tuple #[])) w') :
    Calls Tryz.prog 79 #[.pointer (some ⟨ph, 0, none⟩), .string key, .int .i64 t, .agg #[.string val, .bool g]] w R := by
  have c0 : w.cell? ⟨ph, 0, none⟩ = some (.map (some mv)) := cell_of h.hist 0
  have c1 : w.cell? ⟨ph, 1, none⟩ = some (.map (some mm)) := cell_of h.hist 1
  have hne : mv ≠ mm := lab_ne (own := own) (by rw [h.ownV, h.ownM]; simp)
  -- the slice that is there
  obtain ⟨v, hv, hrow, hvo⟩ : ∃ v, ((encS fun k => if s.mom k = [] then none else some (sl k)) (.string key)).getD (.slice none 0 0) = v ∧ w.ownsRow 0 3 1 v (s.mom key).length ((s.mom key).map (Value.int .i64)) ∧ ∀ b, v.ownBlock = some b → own b = ⟨c, 7, 0, key⟩ := by
    by_cases hm : s.mom key = []
    · exact ⟨.slice none 0 0, by rw [encS_at, if_pos hm]; rfl, by rw [hm]; exact World.ownsRow_nil w 0 3 1, fun b hb => by simp [Value.ownBlock] at hb⟩
    · exact ⟨sl key, by rw [encS_at, if_neg hm]; rfl, h.row key hm, h.ownR key hm⟩
  have hvp : v.ownBlock ≠ some ph := fun e => by have := hvo ph e; rw [h.ownH] at this; simp at this
  have hp : IsPut (encP fun k m => (s.ver k m).map encVer) (.agg #[.string key, .int .i64 t]) (.agg #[.string val, .bool g]) (encP fun k m => ((updP s.ver key t (some (val, g))) k m).map encVer) := by
    rw [map_updP]; exact put_encP _ _ _ _
  refine add_any ph mv mm s.nm s.nv _ _ key val g t w c0 c1 h.moms h.vers hne hnm hnv hlen hwt v (s.mom key) hv hrow hl hvp hp (fun w' v' hk hvers hmoms hrow' hloc => ?_)
  have hk' : Kp (fun b => b = mv ∨ b = mm ∨ own b = ⟨c, 7, 0, key⟩) w w' := hk.mono (fun b _ hb => hb.imp id (fun hb => hb.imp id (hvo b)))
  have hmoms' := hmoms _ (put_moms s.mom sl key t v')
  generalize hnvE : (if (encP (fun k m => Option.map encVer (s.ver k m)) (Value.agg #[Value.string key, Value.int IntKind.i64 t])).isSome = true then s.nv else s.nv + 1) = nv' at hvers
  generalize hnmE : (if (encS (fun k => if s.mom k = [] then none else some (sl k)) (Value.string key)).isSome = true then s.nm else s.nm + 1) = nm' at hmoms'
  have b1 : nv' ≤ s.nv + 1 := by rw [← hnvE]; split <;> omega
  have b2 : nm' ≤ s.nm + 1 := by rw [← hnmE]; split <;> omega
  have old : ∀ b, b < w.heap.size → own b ≠ ⟨c, 3, 0, eb⟩ → own b ≠ ⟨c, 4, 0, eb⟩ → own b ≠ ⟨c, 7, 0, key⟩ → w'.heap[b]? = w.heap[b]? := fun b hb e1 e2 e3 =>
    hk'.block b hb (fun hb => by
      rcases hb with hb | hb | hb
      · exact e1 (by rw [hb, h.ownV])
      · exact e2 (by rw [hb, h.ownM])
      · exact e3 hb)
  have lp := block_lt h.store; have lh := block_lt h.hist; have lo := h.opn.lt; have lv := h.vers.lt; have lm := h.moms.lt
  -- the labels: the new slice's block
  have hout : ∀ b, b < w.heap.size → (fun b => if v'.ownBlock = some b then (⟨c, 7, 0, key⟩ : Lab) else own b) b = own b := fun b hb => by
    by_cases e : v'.ownBlock = some b
    · simp only [e, if_true]
      rcases hloc with hl | ⟨b', hb', hge⟩
      · exact (hvo b (hl ▸ e)).symm
      · rw [hb'] at e; cases e; omega
    · simp [e]
  refine hR w' (fun b => if v'.ownBlock = some b then ⟨c, 7, 0, key⟩ else own b) (updS sl key v') nv' nm' hk' hout b1 b2
    ⟨(hout p lp).trans h.ownP, (hout mo lo).trans h.ownO, (hout ph lh).trans h.ownH, (hout mv lv).trans h.ownV, (hout mm lm).trans h.ownM, ?_, ?_, ?_, ?_, ?_, ?_, hvers, hmoms', ?_, ?_, h.log.frame (fun b hlt _ hk => old b hlt (fun e => by rw [e] at hk; simp at hk) (fun e => by rw [e] at hk; simp at hk) (fun e => by rw [e] at hk; simp at hk)) (fun b hlt _ _ => hout b hlt), h.bks.frame (fun b hlt _ hk => old b hlt (fun e => by rw [e] at hk; simp at hk) (fun e => by rw [e] at hk; simp at hk) (fun e => by rw [e] at hk; simp at hk)) (fun b hlt _ _ => hout b hlt)⟩
  · exact (old p lp (by rw [h.ownP]; simp) (by rw [h.ownP]; simp) (by rw [h.ownP]; simp)).trans h.store
  · exact (old ph lh (by rw [h.ownH]; simp) (by rw [h.ownH]; simp) (by rw [h.ownH]; simp)).trans h.hist
  · exact h.opn.of_block (old mo lo (by rw [h.ownO]; simp) (by rw [h.ownO]; simp) (by rw [h.ownO]; simp))
  · intro n t1 e1
    exact ⟨(hout _ (block_lt (h.tx n t1 e1))).trans (h.ownT n t1 e1).1, (hout _ (h.wr n t1 e1).lt).trans (h.ownT n t1 e1).2⟩
  · intro n t1 e1
    have hl := (h.ownT n t1 e1).1
    exact (old _ (block_lt (h.tx n t1 e1)) (by rw [hl]; simp) (by rw [hl]; simp) (by rw [hl]; simp)).trans (h.tx n t1 e1)
  · intro n t1 e1
    have hl := (h.ownT n t1 e1).2
    exact (h.wr n t1 e1).of_block (old _ (h.wr n t1 e1).lt (by rw [hl]; simp) (by rw [hl]; simp) (by rw [hl]; simp))
  · intro k hk b e
    by_cases ek : k = key
    · subst ek
      rw [updS_same] at e
      simp [e]
    · rw [updS_other _ ek] at e
      have hm : s.mom k ≠ [] := by simpa [updS, ek] using hk
      exact (hout b ((h.row k hm).lt b e).2).trans (h.ownR k hm b e)
  · intro k hk
    by_cases ek : k = key
    · subst ek
      simp only [updS_same, List.length_append, List.length_cons, List.length_nil, Nat.zero_add, List.map_append, List.map_cons, List.map_nil]
      exact hrow'
    · have hm : s.mom k ≠ [] := by simpa [updS, ek] using hk
      simp only [updS_other _ ek]
      have h0 := h.row k hm
      refine ⟨h0.1, ?_⟩
      rcases h0.2 with h1 | ⟨g, cap, cur, e, hg0, hg, r⟩
      · exact Or.inl h1
      · have hl := h.ownR k hm g (by rw [e]; rfl)
        exact Or.inr ⟨g, cap, cur, e, hg0, (old g (block_lt hg) (by rw [hl]; simp) (by rw [hl]; simp) (by rw [hl]; simp [ek])).trans hg, r⟩

end

end Go.Proofs.YthbdpfccfcceiaaGreatDoor
