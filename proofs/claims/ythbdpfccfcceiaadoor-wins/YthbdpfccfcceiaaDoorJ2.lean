/-
  What a record says is done: (*Store).do, told of the store's plain state.
-/
import Derived.Test.YthbdpfccfcceiaaDoorJ1
import Derived.Test.YthbdpfccfcceiaaDoorC2
namespace Go.Proofs.YthbdpfccfcceiaaDoor
open Go.RowKit Go.Maps

section
variable {own own' : Nat → Lab} {c : Nat} {w w' : World} {p : Nat} {s : XS} {mo ph mv mm : Nat} {pt mw : Int → Nat} {sl : ByteArray → Value}
variable {R : Ending → World → Prop}

/-- The labels where new blocks are nobody's. -/
def outer (own : Nat → Lab) (c n : Nat) : Nat → Lab := fun b => if b < n then own b else ⟨c + 1, 99, 0, eb⟩
theorem outer_old {n b : Nat} (h : b < n) : outer own c n b = own b := by simp [outer, h]
theorem outer_new {n b : Nat} (h : n ≤ b) : (outer own c n b).c ≠ c := by
  have : ¬ b < n := by omega
  simp [outer, this]
theorem XR.outer (h : XR own c w p s mo ph mv mm pt mw sl) (hk : Kp (fun _ => False) w w') : XR (outer own c w.heap.size) c w' p s mo ph mv mm pt mw sl :=
  h.frame (fun b hb _ => hk.block b hb (fun e => e)) (fun _ hb _ => outer_old hb)
theorem TabN.outer (h : TabN own c) (hT : Tab w) : TabN (outer own c w.heap.size) c := by
  unfold TabN
  rw [outer_old hT.lt.1, outer_old hT.lt.2]
  exact h

set_option maxRecDepth 20000 in
set_option maxHeartbeats 2000000 in
theorem x_do_hor (h : XR own c w p s mo ph mv mm pt mw sl) (hT : Tab w) (hN : TabN own c) (t : Nat) (ht : t < 4294967296) (hl : s.log.lg.length ≤ 4999) (hbs : ∀ b ∈ s.log.lg, b.length ≤ 400)
    (hR : ∀ w' own' l', Kp (fun b => (own b).c = c) w w' → (∀ b, b < w.heap.size → own' b = own b) → l'.lg = s.log.lg ++ [bodyH t] → l'.sy = s.log.sy →
      XR own' c w' p { s with hor := t, log := l' } mo ph mv mm pt mw sl → R (.returned (.tuple #[])) w') :
    Calls Tryd.prog 33 #[.pointer (some ⟨p, 0, none⟩), .agg #[.int .u8 72, .int .i64 t, .slice none 0 0]] w R := by
  have H0 := hid_of h
  have HT := hid_of hT
  have HN := hid_of hN
  have HR := hid_of hR
  have HL := hid_of hl
  have HBS := hid_of hbs
  have HTT := hid_of ht
  have b0 : (w.alloc (.cells #[.int .u8 72, .int .i64 t, .slice none 0 0] 81)).cell? ⟨w.heap.size, 0, none⟩ = some (.int .u8 72) := by go_simp
  have b1 : (w.alloc (.cells #[.int .u8 72, .int .i64 t, .slice none 0 0] 81)).cell? ⟨w.heap.size, 1, none⟩ = some (.int .i64 t) := by go_simp
  have b2 : (w.alloc (.cells #[.int .u8 72, .int .i64 t, .slice none 0 0] 81)).cell? ⟨w.heap.size, 2, none⟩ = some (.slice none 0 0) := by go_simp
  have HKA : Hid (Kp (fun _ => False) w (w.alloc (.cells #[.int .u8 72, .int .i64 t, .slice none 0 0] 81))) := Kp.alloc _ _ _
  clear h hT hN hR hl hbs ht
  go_enter Tryd.func33, Tryd.ntmps33
  go_wp2_with fail
  generalize w.alloc (.cells #[.int .u8 72, .int .i64 t, .slice none 0 0] 81) = A at b0 b1 b2 HKA ⊢
  go_region_law (refine step_call rfl 50 _ _ _ rfl Tryd.func50 (by kernel_rfl) (by kernel_rfl) _ (by simp [Act.eval]; rfl) ?_; refine x_jadd (H0.out.outer (HKA.out.trans (Kp.drew _ _) (fun _ _ h => h))) (HT.out.kept (HKA.out.trans (Kp.drew _ _) (fun _ _ h => h))) (HN.out.outer HT.out) 72 t (.slice none 0 0) (bodyH t) HL.out HBS.out (by rw [bodyH_length]; omega) rfl (Or.inl ⟨t, .slice none 0 0, HTT.out, rfl, rfl, rfl⟩) (fun b e => by simp [Value.ownBlock] at e) ?_; intro w1 own1 l1 hk1 ho1 _ hl1 hs1 hx1; have H1 := hid_of hx1; have HK1 := hid_of hk1; have HO1 := hid_of ho1; have HL1 := hid_of hl1; have HS1 := hid_of hs1; have d0 : w1.cell? ⟨w.heap.size, 0, none⟩ = some (.int .u8 72) := (hk1.cell (a := ⟨w.heap.size, 0, none⟩) (World.block_lt_of_cell? A _ b0) (fun e => outer_new (Nat.le_refl _) e.1)).trans b0; have d1 : w1.cell? ⟨w.heap.size, 1, none⟩ = some (.int .i64 t) := (hk1.cell (a := ⟨w.heap.size, 1, none⟩) (World.block_lt_of_cell? A _ b1) (fun e => outer_new (Nat.le_refl _) e.1)).trans b1; have c1 : w1.cell? ⟨p, 1, none⟩ = some (.int .i64 s.hor) := cell_of hx1.store 1; have f1 : w1.frozen? ⟨p, 1, none⟩ = false := frozen_of hx1.store 1; clear hk1 ho1 hl1 hs1 hx1; refine ⟨_, rfl, ?_⟩)
  all_goals
    clear b0 b1 b2
    go_wp2_with fail
    refine bodyPost_ret (results_none rfl _ _ _) rfl ?_
    refine HR.out _ own1 l1 ((((HKA.out.mono (fun _ _ h => h.elim)).trans (Kp.drew _ _) (fun _ _ h => h)).trans HK1.out (fun b hb e => ?_)).trans (Kp.setCell (S := fun b => (own b).c = c) w1 _ _ (by show (own p).c = c; rw [H0.out.ownP])) (fun _ _ h => h)) (fun b hb => ?_) HL1.out HS1.out (H1.out.setHor t)
    · have := e.1; rw [outer_old hb] at this; exact this
    · rw [HO1.out b (Nat.lt_of_lt_of_le hb HKA.out.size), outer_old hb]

end

end Go.Proofs.YthbdpfccfcceiaaDoor
