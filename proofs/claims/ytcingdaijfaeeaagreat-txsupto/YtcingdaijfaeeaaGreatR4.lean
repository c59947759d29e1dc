/-
  The document's answer: Abort and Begin.
-/
import Derived.Test.YtcingdaijfaeeaaGreatR3
namespace Go.Proofs.YtcingdaijfaeeaaGreat
open Go.RowKit

theorem cellsT_set : ∀ (l : List (YT × Value)) (j : Nat) (hj : j < l.length) (b : Bool), (cellsT l).set (j * 3) (.bool b) = cellsT (l.set j ({ l[j].1 with over := b }, l[j].2))
  | a :: r, 0, _, b => by simp [cellsT]
  | a :: r, j + 1, hj, b => by
    have ih := cellsT_set r j (by simpa using hj) b
    have e : ∀ x y, cellsT (x :: y) = [.bool x.1.over, .int .i64 x.1.sees, x.2] ++ cellsT y := fun x y => by simp [cellsT]
    rw [e, List.set_append_right _ _ (by simp; omega)]
    simp only [List.set_cons_succ]
    rw [e]
    congr 1
    have : (j + 1) * 3 - [Value.bool a.1.over, Value.int .i64 a.1.sees, a.2].length = j * 3 := by simp; omega
    rw [this, ih]
    simp

theorem zip_set_left {α β : Type} : ∀ (l : List α) (m : List β) (j : Nat) (x : α) (hj : j < m.length), (l.set j x).zip m = (l.zip m).set j (x, m[j])
  | [], m, j, x, _ => by simp
  | a :: r, b :: m, 0, x, _ => by simp
  | a :: r, b :: m, j + 1, x, hj => by simp [zip_set_left r m j x (by simpa using hj)]
  | a :: r, [], j, x, hj => by simp at hj

theorem lab_ne2 {own : Nat → Lab} {a b : Nat} (h : own a ≠ own b) : a ≠ b := fun e => h (by rw [e])

section
variable {own own' : Nat → Lab} {c : Nat} {w w' : World} {p : Nat} {s : YS} {vL vT vG : Value} {sv lg : List Value}

def overAt (s : YS) (j : Nat) (hj : j < s.txs.length) : YS := { s with txs := s.txs.set j { s.txs[j] with over := true } }

theorem YR.setOver (h : YR own c w p s vL vT vG sv lg) (j : Nat) (hj : j < s.txs.length) (g cap : Nat) (hv : vT = .slice (some ⟨g, 0, none⟩) s.txs.length cap) :
    YR own c (w.setCell ⟨g, j * 3, none⟩ (.bool true)) p (overAt s j hj) vL vT vG sv lg := by
  have hsv : j < sv.length := h.len ▸ hj
  have hg := h.ownT g (by rw [hv]; rfl)
  have hb : ∀ b, b ≠ g → (w.setCell ⟨g, j * 3, none⟩ (.bool true)).heap[b]? = w.heap[b]? := fun b hb => Below.heap_setCell w _ _ b hb
  have hz : j < (s.txs.zip sv).length := by simp; omega
  refine ⟨h.ownP, ?_, ?_, h.ownL, by simp [overAt, h.len], ?_, h.ownT, fun i hi hj' => ?_, h.ownX, ?_, h.ownG⟩
  · exact (hb p (lab_ne2 (own := own) (by rw [h.ownP, hg]; simp))).trans h.store
  · exact ownsRow_block h.rowL (fun b e => hb b (lab_ne2 (own := own) (by rw [h.ownL b e, hg]; simp)))
  · rcases h.rowT.2 with ⟨_, h0⟩ | ⟨g', cap', cur, hv', hb', hg', hn, hm, hcs, ht⟩
    · omega
    · rw [hv] at hv'; cases hv'
      have hlen : (overAt s j hj).txs.length = s.txs.length := by simp [overAt]
      have hcells : cellsT ((overAt s j hj).txs.zip sv) = (cellsT (s.txs.zip sv)).set (j * 3) (.bool true) := by
        rw [cellsT_set _ j hz]
        simp only [overAt, List.getElem_zip]
        rw [zip_set_left s.txs sv j _ hsv]
      refine ⟨by rw [hlen, hcells, List.length_set]; exact h.rowT.1, Or.inr ⟨g, cap, cur.setIfInBounds (j * 3) (.bool true), by rw [hlen]; exact hv, hb', heap_setCell_at hg' _, by rw [hlen]; exact hn, hm, by simpa using hcs, ?_⟩⟩
      rw [hlen, hcells, ← ht, Array.toList_setIfInBounds, List.take_set]
  · have hi' : i < s.txs.length := by simpa [overAt] using hi
    have hl : ((overAt s j hj).txs[i]).l = (s.txs[i]).l := by
      simp only [overAt, List.getElem_set]
      split
      · rename_i e; subst e; rfl
      · rfl
    rw [hl]
    exact ownsRow_block (h.rowX i hi' hj') (fun b e => hb b (lab_ne2 (own := own) (by rw [h.ownX i hj' b e, hg]; simp)))
  · exact ownsRow_block h.rowG (fun b e => hb b (lab_ne2 (own := own) (by rw [h.ownG b e, hg]; simp)))

variable {R : Ending → World → Prop}

theorem there_in {s : YS} {tx : Int} (h : thereY s tx = true) : ∃ j : Nat, tx = (j : Int) + 1 ∧ ∃ hj : j < s.txs.length, (s.txs[j]).over = false := by
  unfold thereY at h
  split at h
  · rename_i t ht
    simp at h
    refine ⟨(tx - 1).toNat, by omega, ?_⟩
    obtain ⟨hj, e⟩ := List.getElem?_eq_some_iff.1 ht
    exact ⟨hj, by rw [e]; exact h.2⟩
  · cases h

set_option maxRecDepth 20000 in
set_option maxHeartbeats 400000 in
theorem y_abort (h : YR own c w p s vL vT vG sv lg) (hn : s.txs.length < 4611686018427387904) (tx : Int)
    (h0 : thereY s tx = false → R (.returned (.int .i64 2)) w)
    (h1 : ∀ (j : Nat) (hj : j < s.txs.length), tx = (j : Int) + 1 → thereY s tx = true → ∀ w', Kp (fun b => (own b).c = c) w w' → YR own c w' p (overAt s j hj) vL vT vG sv lg → R (.returned (.int .i64 0)) w') :
    Calls Tryz.prog 45 #[.pointer (some ⟨p, 0, none⟩), .int .i64 tx] w R := by
  have H : Hid (YR own c w p s vL vT vG sv lg) := h
  cases ht : thereY s tx with
  | false =>
    have HR := h0 ht
    clear h h0 h1
    go_enter Tryz.func45, Tryz.ntmps45
    go_wp2_with (first
      | (go_at_call 78; refine there_any H.out hn tx ?_)
      | go_in)
    exact HR
  | true =>
    obtain ⟨j, rfl, hj, hov⟩ := there_in ht
    obtain ⟨g, cap, hv, k0, k1, k2, kf, hg⟩ := h.txAt j hj
    have HR : Hid _ := h1 j hj rfl ht
    have HS : Hid _ := h.setOver j hj g cap hv
    have HN : Hid _ := hn
    have c3 : w.cell? ⟨p, 3, none⟩ = some vT := cell_of h.store 3
    rw [hv] at c3
    have kf0 := kf (j * 3)
    have hj1 : (j : Int) < s.txs.length := by omega
    have hj2 : (j : Int) ≤ 4611686018427387904 := by omega
    clear h h0 h1 hn k1 k2 kf hv
    go_enter Tryz.func45, Tryz.ntmps45
    go_wp2_with (first
      | (go_at_call 78; refine there_any H.out HN.out _ ?_)
      | go_in)
    exact HR.out _ (Kp.setCell w _ _ (by show (own g).c = c; rw [hg])) HS.out

end

end Go.Proofs.YtcingdaijfaeeaaGreat
