/-
  The document's answer: bytes of a commit (four, Text, Bytes): rows of the call's own.
  The document's answer: the body of a commit's record is a row of bytes of its own.
-/
import Derived.Test.YthbdpfccfcceiaaGreatDoorR8R9
namespace Go.Proofs.YthbdpfccfcceiaaGreatDoor
open Go.RowKit

theorem infoByte : (Tryz.prog.info? 5).map (fun i => (i.zero, i.size, i.bytes)) = some (some (.int .u8 0), 1, 1) := by kernel_rfl

/-- A row of bytes, in a block from a number on. -/
def BRow (base : Nat) (w : World) (v : Value) (n : Nat) : Prop := ∃ xs, w.ownsRow base 5 1 v n xs ∧ ∀ u ∈ xs, u.oneCell' = true

theorem brow_one (w : World) (x : Int) : BRow w.heap.size (w.alloc (.cells #[.int .u8 x] 5)) (.slice (some ⟨w.heap.size, 0, none⟩) 1 1) 1 :=
  ⟨[.int .u8 x], ⟨by simp, Or.inr ⟨w.heap.size, 1, #[.int .u8 x], rfl, Nat.le_refl _, heap_alloc_new w _, Nat.le_refl _, by unfold maxLen; omega, by simp, by simp⟩⟩, by simp [Value.oneCell']⟩

theorem brow_two (w : World) (o : Obj) (x : Int) : BRow (w.heap.size + 1) ((w.alloc o).alloc (.cells #[.int .u8 x] 5)) (.slice (some ⟨w.heap.size + 1, 0, none⟩) 1 1) 1 := by
  have h := brow_one (w.alloc o) x
  have e : (w.alloc o).heap.size = w.heap.size + 1 := by simp
  rw [e] at h
  exact h

theorem BRow.mono {base base' : Nat} {w : World} {v : Value} {n : Nat} (h : BRow base w v n) (hb : base' ≤ base) : BRow base' w v n := by
  obtain ⟨xs, h1, h2⟩ := h
  exact ⟨xs, ⟨h1.1, h1.2.imp id (fun ⟨g, cap, cur, e1, e2, e3⟩ => ⟨g, cap, cur, e1, Nat.le_trans hb e2, e3⟩)⟩, h2⟩

theorem BRow.kept {base : Nat} {w w' : World} {v : Value} {n : Nat} (h : BRow base w v n) (hk : Kp (fun _ => False) w w') : BRow base w' v n := by
  obtain ⟨xs, h1, h2⟩ := h
  exact ⟨xs, ownsRow_kp h1 hk (fun _ _ h => h), h2⟩

section
variable {R : Ending → World → Prop}

set_option maxRecDepth 20000 in
set_option maxHeartbeats 400000 in
theorem four_any (n : Int) (w : World) (h0 : 0 ≤ n) (h1 : n ≤ 10000) (hR : ∀ a b c d, R (.returned (.slice (some ⟨w.heap.size, 0, none⟩) 4 4)) (w.alloc (.cells #[.int .u8 a, .int .u8 b, .int .u8 c, .int .u8 d] 5))) :
    Calls Tryz.prog 161 #[.int .i64 n] w R := by
  have HR : Hid _ := hR
  clear hR
  go_enter Tryz.func161, Tryz.ntmps161
  go_wp2
  exact HR.out _ _ _ _

set_option maxRecDepth 20000 in
set_option maxHeartbeats 1000000 in
theorem text_any (s : ByteArray) (w : World) (hs : s.size ≤ 20) (hR : ∀ v w', BRow w.heap.size w' v (s.size + 1) → Kp (fun _ => False) w w' → R (.returned v) w') :
    Calls Tryz.prog 201 #[.string s] w R := by
  have HR : Hid _ := hR
  have HS : Hid _ := hs
  obtain ⟨i0, hi, hz0, hz1, hz2⟩ := info_parts infoByte
  have hs' : (s.size : Int) ≤ 20 := by omega
  clear hR hs
  go_enter Tryz.func201, Tryz.ntmps201
  go_wp2
  go_loopw [3, 4] (fun v3 v4 wr => ∃ k : Nat, k ≤ s.size ∧ v4 = .int .i64 k ∧ Kp (fun _ => False) w wr ∧ ∃ xs, wr.ownsRow w.heap.size 5 1 v3 (k + 1) xs ∧ ∀ u ∈ xs, u.oneCell' = true) (fun _ v4 _ => s.size - (intOf v4).toNat)
  case atStart =>
    obtain ⟨xs, h1, h2⟩ := brow_one w (s.size : Int)
    exact ⟨0, Nat.zero_le _, rfl, Kp.alloc _ _ _, xs, by first | exact h1 | simpa using h1, h2⟩
  case round =>
    obtain ⟨k, hk, rfl, hkp, xs, hrow, hone⟩ := hrel
    have HK : Hid _ := hkp
    have HO : Hid _ := hone
    clear hkp hone
    by_cases hlt : k < s.size
    · have hlt' : (k : Int) < s.size := by omega
      go_wp2_with (first
        | (at_builtin; refine wpList_append_own_at _ rfl _ _ 48 rfl w.heap.size 5 i0 (.int .u8 0) 1 1 Tryz.underlying48 hi hz0 hz1 hz2 rfl (by decide) _ _ _ rfl (hrow.alloc _) ⟨wr.heap.size, 0, none⟩ 1 1 [.int .u8 s[k].toNat] rfl rfl (cell_one_new _ _ _) (by simp [Value.oneCell']) (by have := HS.out; unfold maxLen; omega) (by have := HS.out; omega) (by have := HK.out.size; simp; omega) ?_; intro v' w2 hown' hgrow hnil hloc)
        | go_in)
      have hlo : ∀ b, Value.ownBlock u3 = some b → w.heap.size ≤ b := fun b hb => (hrow.lt b hb).1
      go_roundw
      case rel =>
        refine ⟨k + 1, by omega, by go_num, HK.out.trans ((Kp.alloc (fun b => Value.ownBlock u3 = some b) wr _).trans (Kp.of_grown (S := fun b => Value.ownBlock u3 = some b) hgrow (fun _ h => h)) (fun _ _ h => h)) (fun b hb e => by have := hlo b e; omega), _, hown', fun u hu => ?_⟩
        rw [List.mem_append] at hu
        rcases hu with hu | hu
        · exact HO.out u hu
        · simp at hu; subst hu; rfl
      case measure => simp [intOf]; omega
    · have hke : k = s.size := by omega
      subst hke
      go_wp2
      exact HR.out _ _ ⟨xs, hrow, HO.out⟩ HK.out

theorem BRow.form {base n : Nat} {w : World} {v : Value} (h : BRow base w v (n + 1)) : ∃ (g cap : Nat) (xs : List Value), v = .slice (some ⟨g, 0, none⟩) (n + 1) cap ∧ xs.length = (n + 1) * 1 ∧ (∀ j u, xs[j]? = some u → w.cell? ((⟨g, 0, none⟩ : Addr).add j) = some u) ∧ (∀ u ∈ xs, u.oneCell' = true) ∧ base ≤ g := by
  obtain ⟨xs, h1, h2⟩ := h
  rcases h1.2 with ⟨_, h0⟩ | ⟨g, cap, cur, rfl, hb, hg, r⟩
  · omega
  · exact ⟨g, cap, xs, rfl, h1.1, h1.cells (g := g) rfl, h2, hb⟩

set_option maxRecDepth 20000 in
set_option maxHeartbeats 1000000 in
theorem bytes_any (y : YV) (w : World) (hs : y.s.size ≤ 20) (hR : ∀ v w' n, n < 22 → BRow w.heap.size w' v (n + 1) → Kp (fun _ => False) w w' → R (.returned v) w') :
    Calls Tryz.prog 202 #[.agg #[.string y.key, .int .i64 y.t, .bool y.gone, .string y.s]] w R := by
  obtain ⟨i0, hi, hz0, hz1, hz2⟩ := info_parts infoByte
  have HR : Hid _ := hR
  have HS : Hid _ := hs
  obtain ⟨key, t, gone, s⟩ := y
  clear hR hs
  cases gone
  · go_enter Tryz.func202, Tryz.ntmps202
    have HB0 : Hid (BRow (w.heap.size + 1) ((w.alloc (.cells #[.string key, .int .i64 t, .bool false, .string s] 193)).alloc (.cells #[.int .u8 0] 5)) (.slice (some ⟨w.heap.size + 1, 0, none⟩) 1 1) 1) := brow_two _ _ _
    have hk0 : Hid (Kp (fun _ => False) w ((w.alloc (.cells #[.string key, .int .i64 t, .bool false, .string s] 193)).alloc (.cells #[.int .u8 0] 5))) := (Kp.alloc _ _ _).trans (Kp.alloc _ _ _) (fun _ _ h => h)
    go_wp2_with (first
      | (go_at_call 201; refine text_any s _ HS.out (fun v2 w2 hb2 hk2 => ?_); obtain ⟨xs0, hr0, ho0⟩ := BRow.kept HB0.out hk2; have HK2 : Hid (Kp (fun _ => False) ((w.alloc (.cells #[.string key, .int .i64 t, .bool false, .string s] 193)).alloc (.cells #[.int .u8 0] 5)) w2) := hk2; obtain ⟨g2, cap2, xs2, rfl, hl2, hc2, ho2, hg2⟩ := hb2.form; clear hk2 hb2; have HO : Hid _ := ho0; have HO2 : Hid _ := ho2; have HC2 : Hid _ := hc2; clear ho0 ho2 hc2)
      | (at_builtin; refine wpList_append_own_at _ rfl _ _ 48 rfl (w.heap.size + 1) 5 i0 (.int .u8 0) 1 1 Tryz.underlying48 hi hz0 hz1 hz2 rfl (by decide) _ _ _ rfl hr0 ⟨g2, 0, none⟩ (s.size + 1) cap2 xs2 rfl hl2 HC2.out HO2.out (by have h : s.size ≤ 20 := HS.out; unfold maxLen; omega) (by have h : s.size ≤ 20 := HS.out; omega) (by have h := HK2.out.size; simp at h; omega) ?_; intro v' w3 hown' hgrow hnil hloc)
      | go_in)
    refine HR.out v' w3 (s.size + 1) (by have h : s.size ≤ 20 := HS.out; omega) (BRow.mono (base := w.heap.size + 1) ⟨_, (by have h := hown'; rw [Nat.add_comm 1 (s.size + 1)] at h; exact h), fun u hu => ?_⟩ (by omega)) ((hk0.out.trans HK2.out (fun _ _ h => h)).trans (Kp.of_grown (S := fun b => b = w.heap.size + 1) hgrow (fun b hb => by show b = w.heap.size + 1; simp [Act.eval, Value.ownBlock] at hb; omega)) (fun b hb (e : b = w.heap.size + 1) => by omega))
    rw [List.mem_append] at hu
    exact hu.elim (HO.out u) (HO2.out u)
  · go_enter Tryz.func202, Tryz.ntmps202
    have HB0 : Hid (BRow (w.heap.size + 1) ((w.alloc (.cells #[.string key, .int .i64 t, .bool true, .string s] 193)).alloc (.cells #[.int .u8 1] 5)) (.slice (some ⟨w.heap.size + 1, 0, none⟩) 1 1) 1) := brow_two _ _ _
    have hk0 : Hid (Kp (fun _ => False) w ((w.alloc (.cells #[.string key, .int .i64 t, .bool true, .string s] 193)).alloc (.cells #[.int .u8 1] 5))) := (Kp.alloc _ _ _).trans (Kp.alloc _ _ _) (fun _ _ h => h)
    go_wp2
    exact HR.out _ _ 0 (by omega) (BRow.mono (base := w.heap.size + 1) HB0.out (by omega)) hk0.out

end

end Go.Proofs.YthbdpfccfcceiaaGreatDoor

namespace Go.Proofs.YthbdpfccfcceiaaGreatDoor
open Go.RowKit

theorem four_cells (w : World) (a b c d : Int) : ∀ j u, [Value.int .u8 a, .int .u8 b, .int .u8 c, .int .u8 d][j]? = some u → (w.alloc (.cells #[.int .u8 a, .int .u8 b, .int .u8 c, .int .u8 d] 5)).cell? ((⟨w.heap.size, 0, none⟩ : Addr).add j) = some u := four_new w _ _ _ _ _

section
variable {R : Ending → World → Prop}

theorem brow_app {base n m : Nat} {w3 : World} {v' : Value} {xs ys : List Value} (h : w3.ownsRow base 5 1 v' (n + m) (xs ++ ys)) (h1 : ∀ u ∈ xs, u.oneCell' = true) (h2 : ∀ u ∈ ys, u.oneCell' = true) : ∃ zs, w3.ownsRow base 5 1 v' (n + m) zs ∧ ∀ u ∈ zs, u.oneCell' = true :=
  ⟨_, h, fun u hu => by rw [List.mem_append] at hu; exact hu.elim (h1 u) (h2 u)⟩

set_option maxRecDepth 20000 in
set_option maxHeartbeats 2000000 in
theorem body_any (t : Int) (l : List YV) (g cap : Nat) (w : World) (h0 : 0 ≤ t) (h1 : t ≤ 10000) (hl : l.length ≤ 10) (hv : VS w (.slice (some ⟨g, 0, none⟩) l.length cap) l g cap) (hs : ∀ y ∈ l, y.key.size ≤ 8 ∧ y.s.size ≤ 20)
    (hR : ∀ v w' n, n < 1000 → BRow w.heap.size w' v (n + 1) → Kp (fun _ => False) w w' → R (.returned v) w') :
    Calls Tryz.prog 160 #[.int .i64 t, .slice (some ⟨g, 0, none⟩) l.length cap] w R := by
  obtain ⟨i0, hi, hz0, hz1, hz2⟩ := info_parts infoByte
  have HR : Hid _ := hR
  have HV : Hid (VS w (.slice (some ⟨g, 0, none⟩) l.length cap) l g cap) := hv
  have HS : Hid _ := hs
  have HL : Hid _ := hl
  have hl' : (l.length : Int) ≤ 10 := by omega
  have HB0 : Hid (BRow w.heap.size (w.alloc (.cells #[.int .u8 67] 5)) (.slice (some ⟨w.heap.size, 0, none⟩) 1 1) 1) := brow_one _ _
  clear hR hv hs hl
  go_enter Tryz.func160, Tryz.ntmps160
  have e1 : (w.alloc (.cells #[.int .u8 67] 5)).heap.size = w.heap.size + 1 := by simp
  go_wp2_with (first
    | (go_at_call 161; refine four_any t _ h0 h1 (fun a b c d => ?_); have hF := four_cells (w.alloc (.cells #[.int .u8 67] 5)) a b c d; rw [e1] at hF; have HF : Hid _ := hF; obtain ⟨xs0, hr0, ho0⟩ := BRow.kept HB0.out (Kp.alloc (fun _ => False) _ (.cells #[.int .u8 a, .int .u8 b, .int .u8 c, .int .u8 d] 5)); have HO0 : Hid _ := ho0; have HK0 : Hid (Kp (fun _ => False) w ((w.alloc (.cells #[.int .u8 67] 5)).alloc (.cells #[.int .u8 a, .int .u8 b, .int .u8 c, .int .u8 d] 5))) := (Kp.alloc _ _ _).trans (Kp.alloc _ _ _) (fun _ _ h => h); clear ho0 hF)
    | (at_builtin; refine wpList_append_own_at _ rfl _ _ 48 rfl w.heap.size 5 i0 (.int .u8 0) 1 1 Tryz.underlying48 hi hz0 hz1 hz2 rfl (by decide) _ _ _ rfl (hr1.alloc _) ⟨w1.heap.size, 0, none⟩ 1 1 [.int .u8 (l.length : Int)] rfl rfl (cell_one_new _ _ _) (by simp [Value.oneCell']) (by unfold maxLen; omega) (by omega) (by have h := HK1.out.size; simp; omega) ?_; intro v2 w2 hown2 hgrow2 hnil2 hloc2)
    | (at_builtin; refine wpList_append_own_at _ rfl _ _ 48 rfl w.heap.size 5 i0 (.int .u8 0) 1 1 Tryz.underlying48 hi hz0 hz1 hz2 rfl (by decide) _ _ _ rfl hr0 ⟨w.heap.size + 1, 0, none⟩ 4 4 [.int .u8 a, .int .u8 b, .int .u8 c, .int .u8 d] rfl rfl HF.out (by simp [Value.oneCell']) (by unfold maxLen; omega) (by omega) (by simp; omega) ?_; intro v1 w1 hr1 hgrow1 hnil1 hloc1; have HK1 : Hid (Kp (fun _ => False) w w1) := HK0.out.trans (Kp.of_grown (S := fun k => k = w.heap.size) hgrow1 (fun k hb => by show k = w.heap.size; simp [Act.eval, Value.ownBlock] at hb; omega)) (fun k hb (e : k = w.heap.size) => by omega))
    | go_in)
  have HK2 : Hid (Kp (fun _ => False) w w2) := HK1.out.trans ((Kp.alloc (fun b => Value.ownBlock v1 = some b) w1 _).trans (Kp.of_grown (S := fun b => Value.ownBlock v1 = some b) hgrow2 (fun _ h => h)) (fun _ _ h => h)) (fun b hb e => by have := (hr1.lt b e).1; omega)
  have HR2 : Hid (BRow w.heap.size w2 v2 (5 + 1)) := ⟨_, hown2, fun u hu => by
    rw [List.mem_append, List.mem_append] at hu
    rcases hu with (hu | hu) | hu
    · exact HO0.out u hu
    · simp at hu; rcases hu with rfl | rfl | rfl | rfl <;> rfl
    · simp at hu; subst hu; rfl⟩
  clear hgrow1 hgrow2 hnil1 hnil2 hloc1 hloc2 hr0 hr1 hown2
  go_loopw [5, 6] (fun v5 v6 wr => ∃ k n : Nat, k ≤ l.length ∧ v6 = .int .i64 k ∧ n ≤ 5 + 40 * k ∧ Kp (fun _ => False) w wr ∧ ∃ xs, wr.ownsRow w.heap.size 5 1 v5 (n + 1) xs ∧ ∀ u ∈ xs, u.oneCell' = true) (fun _ v6 _ => l.length - (intOf v6).toNat)
  case atStart =>
    obtain ⟨xs, q1, q2⟩ := HR2.out
    exact ⟨0, 5, Nat.zero_le _, rfl, by omega, HK2.out, xs, q1, q2⟩
  case round =>
    obtain ⟨k, n, hk, rfl, hn, hkp, xs, hrow, hone⟩ := hrel
    have HK : Hid (Kp (fun _ => False) w wr) := hkp
    have HO : Hid _ := hone
    have HN : Hid _ := hn
    clear hone hn
    by_cases hlt : k < l.length
    · have hlt' : (k : Int) < l.length := by omega
      have hVr : Hid (VS wr (.slice (some ⟨g, 0, none⟩) l.length cap) l g cap) := HV.out.kept hkp
      have hc0 := hVr.out.c0 k hlt
      have HSK : Hid _ := HS.out l[k] (List.getElem_mem _)
      have hlo : Hid (∀ b, Value.ownBlock u5 = some b → w.heap.size ≤ b) := fun b hb => (hrow.lt b hb).1
      clear hkp
      obtain ⟨y, hy⟩ : ∃ y, l[k] = y := ⟨_, rfl⟩
      rw [hy] at hc0 HSK
      have HY : Hid _ := hy
      clear hy
      go_wp2_with (first
        | (go_at_call 201; refine text_any y.key _ (by have h := HSK.out.1; omega) (fun v3 w3 hb3 hk3 => ?_); have hrow3 := ownsRow_kp hrow hk3 (fun _ _ h => h); have HK3 : Hid (Kp (fun _ => False) wr w3) := hk3; obtain ⟨g3, cap3, xs3, rfl, hl3, hc3, ho3, hg3⟩ := hb3.form; have HO3 : Hid _ := ho3; have HC3 : Hid _ := hc3; clear hk3 hb3 ho3 hc3)
        | (go_at_call 202; refine bytes_any y _ (by have h := HSK.out.2; omega) (fun v5 w5 m5 hm5 hb5 hk5 => ?_); have hrow5 := ownsRow_kp hrow4 hk5 (fun _ _ h => h); have HK5 : Hid (Kp (fun _ => False) w4 w5) := hk5; have HM5 : Hid _ := hm5; obtain ⟨g5, cap5, xs5, rfl, hl5, hc5, ho5, hg5⟩ := hb5.form; have HO5 : Hid _ := ho5; have HC5 : Hid _ := hc5; clear hk5 hb5 ho5 hc5 hm5)
        | (at_builtin; refine wpList_append_own_at _ rfl _ _ 48 rfl w.heap.size 5 i0 (.int .u8 0) 1 1 Tryz.underlying48 hi hz0 hz1 hz2 rfl (by decide) _ _ _ rfl hrow5 ⟨g5, 0, none⟩ (m5 + 1) cap5 xs5 rfl hl5 HC5.out HO5.out (by have := HN.out; have := HM5.out; have := HL.out; have := HSK.out.1; unfold maxLen; omega) (by have := HN.out; have := HM5.out; have := HL.out; have := HSK.out.1; omega) (by have := HK5.out.size; have := HK4.out.size; omega) ?_; intro v6 w6 hown6 hgrow6 hnil6 hloc6)
        | (at_builtin; refine wpList_append_own_at _ rfl _ _ 48 rfl w.heap.size 5 i0 (.int .u8 0) 1 1 Tryz.underlying48 hi hz0 hz1 hz2 rfl (by decide) _ _ _ rfl hrow3 ⟨g3, 0, none⟩ (y.key.size + 1) cap3 xs3 rfl hl3 HC3.out HO3.out (by have := HN.out; have := HL.out; have := HSK.out.1; unfold maxLen; omega) (by have := HN.out; have := HL.out; have := HSK.out.1; omega) (by have := HK3.out.size; have := HK.out.size; omega) ?_; intro v4 w4 hrow4 hgrow4 hnil4 hloc4; have hk4 : Kp (fun _ => False) w w4 := (HK.out.trans HK3.out (fun _ _ h => h)).trans (Kp.of_grown (S := fun b => Value.ownBlock u5 = some b) hgrow4 (fun _ h => h)) (fun b hb e => by have := hlo.out b e; omega); have HK4 : Hid (Kp (fun _ => False) w w4) := hk4; have hV4 := HV.out.kept hk4; have a0 := hV4.c0 k hlt; have a1 := hV4.c1 k hlt; have a2 := hV4.c2 k hlt; have a3 := hV4.c3 k hlt; rw [HY.out] at a0 a1 a2 a3; clear hk4 hV4)
        | go_in)
      have hlo4 : ∀ b, Value.ownBlock v4 = some b → w.heap.size ≤ b := fun b hb => (hrow5.lt b hb).1
      go_roundw
      case rel =>
        refine ⟨k + 1, n + (y.key.size + 1) + (m5 + 1), by omega, by go_num, by have := HN.out; have := HM5.out; have := HSK.out.1; omega, (HK4.out.trans HK5.out (fun _ _ h => h)).trans (Kp.of_grown (S := fun b => Value.ownBlock v4 = some b) hgrow6 (fun _ h => h)) (fun b hb e => by have := hlo4 b e; omega), _, (by have h := hown6; rw [show n + 1 + (y.key.size + 1) + (m5 + 1) = (n + (y.key.size + 1) + (m5 + 1)) + 1 by omega] at h; exact h), fun u hu => ?_⟩
        rw [List.mem_append, List.mem_append] at hu
        rcases hu with (hu | hu) | hu
        · exact HO.out u hu
        · exact HO3.out u hu
        · exact HO5.out u hu
      case measure => simp [intOf]; omega
    · go_wp2_with fail
      exact HR.out _ _ n (by have := HN.out; have := HL.out; omega) ⟨xs, hrow, HO.out⟩ HK.out

end

end Go.Proofs.YthbdpfccfcceiaaGreatDoor
