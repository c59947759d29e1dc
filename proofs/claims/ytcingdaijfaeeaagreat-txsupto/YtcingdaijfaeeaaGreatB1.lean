/-
  The document's answer: bytes of a commit (four, Text, Bytes): rows of the call's own.
-/
import Derived.Test.YtcingdaijfaeeaaGreatR9
namespace Go.Proofs.YtcingdaijfaeeaaGreat
open Go.RowKit

theorem infoByte : (Tryz.prog.info? 5).map (fun i => (i.zero, i.size, i.bytes)) = some (some (.int .u8 0), 1, 1) := by kernel_rfl

/-- A row of bytes, in a block from a number on. -/
def BRow (base : Nat) (w : World) (v : Value) (n : Nat) : Prop := ∃ xs, w.ownsRow base 5 1 v n xs ∧ ∀ u ∈ xs, u.oneCell' = true

theorem brow_one (w : World) (x : Int) : BRow w.heap.size (w.alloc (.cells #[.int .u8 x] 5)) (.slice (some ⟨w.heap.size, 0, none⟩) 1 1) 1 :=
  ⟨[.int .u8 x], ⟨by simp, Or.inr ⟨w.heap.size, 1, #[.int .u8 x], rfl, Nat.le_refl _, heap_alloc_new w _, Nat.le_refl _, by unfold maxLen; omega, by simp, by simp⟩⟩, by simp [Value.oneCell']⟩

theorem brow_two (w : World) (o : Obj) (x : Int) : BRow (w.heap.size + 1) ((w.alloc o).alloc (.cells #[.int .u8 x] 5)) (.slice (some ⟨w.heap.size + 1, 0, none⟩) 1 1) 1 := by
  have h := brow_one (w.alloc o) x
  have e : (w.alloc o).heap.size = w.heap.size + 1 := by simp
  rw [e] at h
  exact h

theorem BRow.mono {base base' : Nat} {w : World} {v : Value} {n : Nat} (h : BRow base w v n) (hb : base' ≤ base) : BRow base' w v n := by
  obtain ⟨xs, h1, h2⟩ := h
  exact ⟨xs, ⟨h1.1, h1.2.imp id (fun ⟨g, cap, cur, e1, e2, e3⟩ => ⟨g, cap, cur, e1, Nat.le_trans hb e2, e3⟩)⟩, h2⟩

theorem BRow.kept {base : Nat} {w w' : World} {v : Value} {n : Nat} (h : BRow base w v n) (hk : Kp (fun _ => False) w w') : BRow base w' v n := by
  obtain ⟨xs, h1, h2⟩ := h
  exact ⟨xs, ownsRow_kp h1 hk (fun _ _ h => h), h2⟩

section
variable {R : Ending → World → Prop}

set_option maxRecDepth 20000 in
set_option maxHeartbeats 400000 in
theorem four_any (n : Int) (w : World) (h0 : 0 ≤ n) (h1 : n ≤ 10000) (hR : ∀ a b c d, R (.returned (.slice (some ⟨w.heap.size, 0, none⟩) 4 4)) (w.alloc (.cells #[.int .u8 a, .int .u8 b, .int .u8 c, .int .u8 d] 5))) :
    Calls Tryz.prog 88 #[.int .i64 n] w R := by
  have HR : Hid _ := hR
  clear hR
  go_enter Tryz.func88, Tryz.ntmps88
  go_wp2
  exact HR.out _ _ _ _

set_option maxRecDepth 20000 in
set_option maxHeartbeats 1000000 in
theorem text_any (s : ByteArray) (w : World) (hs : s.size ≤ 20) (hR : ∀ v w', BRow w.heap.size w' v (s.size + 1) → Kp (fun _ => False) w w' → R (.returned v) w') :
    Calls Tryz.prog 110 #[.string s] w R := by
  have HR : Hid _ := hR
  have HS : Hid _ := hs
  obtain ⟨i0, hi, hz0, hz1, hz2⟩ := info_parts infoByte
  have hs' : (s.size : Int) ≤ 20 := by omega
  clear hR hs
  go_enter Tryz.func110, Tryz.ntmps110
  go_wp2
  go_loopw [3, 4] (fun v3 v4 wr => ∃ k : Nat, k ≤ s.size ∧ v4 = .int .i64 k ∧ Kp (fun _ => False) w wr ∧ ∃ xs, wr.ownsRow w.heap.size 5 1 v3 (k + 1) xs ∧ ∀ u ∈ xs, u.oneCell' = true) (fun _ v4 _ => s.size - (intOf v4).toNat)
  case atStart =>
    obtain ⟨xs, h1, h2⟩ := brow_one w (s.size : Int)
    exact ⟨0, Nat.zero_le _, rfl, Kp.alloc _ _ _, xs, by first | exact h1 | simpa using h1, h2⟩
  case round =>
    obtain ⟨k, hk, rfl, hkp, xs, hrow, hone⟩ := hrel
    have HK : Hid _ := hkp
    have HO : Hid _ := hone
    clear hkp hone
    by_cases hlt : k < s.size
    · have hlt' : (k : Int) < s.size := by omega
      go_wp2_with (first
        | (at_builtin; refine wpList_append_own_at _ rfl _ _ 63 rfl w.heap.size 5 i0 (.int .u8 0) 1 1 Tryz.underlying63 hi hz0 hz1 hz2 rfl (by decide) _ _ _ rfl (hrow.alloc _) ⟨wr.heap.size, 0, none⟩ 1 1 [.int .u8 s[k].toNat] rfl rfl (cell_one_new _ _ _) (by simp [Value.oneCell']) (by have := HS.out; unfold maxLen; omega) (by have := HS.out; omega) (by have := HK.out.size; simp; omega) ?_; intro v' w2 hown' hgrow hnil hloc)
        | go_in)
      have hlo : ∀ b, Value.ownBlock u3 = some b → w.heap.size ≤ b := fun b hb => (hrow.lt b hb).1
      go_roundw
      case rel =>
        refine ⟨k + 1, by omega, by go_num, HK.out.trans ((Kp.alloc (fun b => Value.ownBlock u3 = some b) wr _).trans (Kp.of_grown (S := fun b => Value.ownBlock u3 = some b) hgrow (fun _ h => h)) (fun _ _ h => h)) (fun b hb e => by have := hlo b e; omega), _, hown', fun u hu => ?_⟩
        rw [List.mem_append] at hu
        rcases hu with hu | hu
        · exact HO.out u hu
        · simp at hu; subst hu; rfl
      case measure => simp [intOf]; omega
    · have hke : k = s.size := by omega
      subst hke
      go_wp2
      exact HR.out _ _ ⟨xs, hrow, HO.out⟩ HK.out

theorem BRow.form {base n : Nat} {w : World} {v : Value} (h : BRow base w v (n + 1)) : ∃ (g cap : Nat) (xs : List Value), v = .slice (some ⟨g, 0, none⟩) (n + 1) cap ∧ xs.length = (n + 1) * 1 ∧ (∀ j u, xs[j]? = some u → w.cell? ((⟨g, 0, none⟩ : Addr).add j) = some u) ∧ (∀ u ∈ xs, u.oneCell' = true) ∧ base ≤ g := by
  obtain ⟨xs, h1, h2⟩ := h
  rcases h1.2 with ⟨_, h0⟩ | ⟨g, cap, cur, rfl, hb, hg, r⟩
  · omega
  · exact ⟨g, cap, xs, rfl, h1.1, h1.cells (g := g) rfl, h2, hb⟩

set_option maxRecDepth 20000 in
set_option maxHeartbeats 1000000 in
theorem bytes_any (y : YV) (w : World) (hs : y.s.size ≤ 20) (hR : ∀ v w' n, n < 22 → BRow w.heap.size w' v (n + 1) → Kp (fun _ => False) w w' → R (.returned v) w') :
    Calls Tryz.prog 111 #[.agg #[.string y.key, .int .i64 y.t, .bool y.gone, .string y.s]] w R := by
  obtain ⟨i0, hi, hz0, hz1, hz2⟩ := info_parts infoByte
  have HR : Hid _ := hR
  have HS : Hid _ := hs
  obtain ⟨key, t, gone, s⟩ := y
  clear hR hs
  cases gone
  · go_enter Tryz.func111, Tryz.ntmps111
    have HB0 : Hid (BRow (w.heap.size + 1) ((w.alloc (.cells #[.string key, .int .i64 t, .bool false, .string s] 105)).alloc (.cells #[.int .u8 0] 5)) (.slice (some ⟨w.heap.size + 1, 0, none⟩) 1 1) 1) := brow_two _ _ _
    have hk0 : Hid (Kp (fun _ => False) w ((w.alloc (.cells #[.string key, .int .i64 t, .bool false, .string s] 105)).alloc (.cells #[.int .u8 0] 5))) := (Kp.alloc _ _ _).trans (Kp.alloc _ _ _) (fun _ _ h => h)
    go_wp2_with (first
      | (go_at_call 110; refine text_any s _ HS.out (fun v2 w2 hb2 hk2 => ?_); obtain ⟨xs0, hr0, ho0⟩ := BRow.kept HB0.out hk2; have HK2 : Hid (Kp (fun _ => False) ((w.alloc (.cells #[.string key, .int .i64 t, .bool false, .string s] 105)).alloc (.cells #[.int .u8 0] 5)) w2) := hk2; obtain ⟨g2, cap2, xs2, rfl, hl2, hc2, ho2, hg2⟩ := hb2.form; clear hk2 hb2; have HO : Hid _ := ho0; have HO2 : Hid _ := ho2; have HC2 : Hid _ := hc2; clear ho0 ho2 hc2)
      | (at_builtin; refine wpList_append_own_at _ rfl _ _ 63 rfl (w.heap.size + 1) 5 i0 (.int .u8 0) 1 1 Tryz.underlying63 hi hz0 hz1 hz2 rfl (by decide) _ _ _ rfl hr0 ⟨g2, 0, none⟩ (s.size + 1) cap2 xs2 rfl hl2 HC2.out HO2.out (by have h : s.size ≤ 20 := HS.out; unfold maxLen; omega) (by have h : s.size ≤ 20 := HS.out; omega) (by have h := HK2.out.size; simp at h; omega) ?_; intro v' w3 hown' hgrow hnil hloc)
      | go_in)
    refine HR.out v' w3 (s.size + 1) (by have h : s.size ≤ 20 := HS.out; omega) (BRow.mono (base := w.heap.size + 1) ⟨_, (by have h := hown'; rw [Nat.add_comm 1 (s.size + 1)] at h; exact h), fun u hu => ?_⟩ (by omega)) ((hk0.out.trans HK2.out (fun _ _ h => h)).trans (Kp.of_grown (S := fun b => b = w.heap.size + 1) hgrow (fun b hb => by show b = w.heap.size + 1; simp [Act.eval, Value.ownBlock] at hb; omega)) (fun b hb (e : b = w.heap.size + 1) => by omega))
    rw [List.mem_append] at hu
    exact hu.elim (HO.out u) (HO2.out u)
  · go_enter Tryz.func111, Tryz.ntmps111
    have HB0 : Hid (BRow (w.heap.size + 1) ((w.alloc (.cells #[.string key, .int .i64 t, .bool true, .string s] 105)).alloc (.cells #[.int .u8 1] 5)) (.slice (some ⟨w.heap.size + 1, 0, none⟩) 1 1) 1) := brow_two _ _ _
    have hk0 : Hid (Kp (fun _ => False) w ((w.alloc (.cells #[.string key, .int .i64 t, .bool true, .string s] 105)).alloc (.cells #[.int .u8 1] 5))) := (Kp.alloc _ _ _).trans (Kp.alloc _ _ _) (fun _ _ h => h)
    go_wp2
    exact HR.out _ _ 0 (by omega) (BRow.mono (base := w.heap.size + 1) HB0.out (by omega)) hk0.out

end

end Go.Proofs.YtcingdaijfaeeaaGreat
