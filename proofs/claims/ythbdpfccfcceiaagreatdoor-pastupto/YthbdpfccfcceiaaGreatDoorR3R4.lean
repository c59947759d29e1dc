/-
  The document's answer: how its store lies in memory; there and Abort.
  The document's answer: Abort and Begin.
-/
import Derived.Test.YthbdpfccfcceiaaGreatDoorK1R1R2X1
import Derived.Test.YthbdpfccfcceiaaGreatDoorS2S3
namespace Go.Proofs.YthbdpfccfcceiaaGreatDoor
open Go.RowKit

structure YT where
  over : Bool
  sees : Int
  l : List YV

structure YS where
  l : List YV
  now : Int
  txs : List YT
  hor : Int
  syn : Int
  bku : Value

def cellsT (l : List (YT × Value)) : List Value := l.flatMap fun q => [.bool q.1.over, .int .i64 q.1.sees, q.2]

theorem cellsT_len (l : List (YT × Value)) : (cellsT l).length = l.length * 3 := by
  induction l with
  | nil => rfl
  | cons a r ih => simp [cellsT] at ih ⊢; omega

theorem cellsT_at : ∀ (l : List (YT × Value)) (j : Nat) (hj : j < l.length), (cellsT l)[j * 3]? = some (.bool l[j].1.over) ∧ (cellsT l)[j * 3 + 1]? = some (.int .i64 l[j].1.sees) ∧ (cellsT l)[j * 3 + 2]? = some l[j].2
  | a :: r, 0, _ => by simp [cellsT]
  | a :: r, j + 1, hj => by
    have ih := cellsT_at r j (by simpa using hj)
    have e : cellsT (a :: r) = [.bool a.1.over, .int .i64 a.1.sees, a.2] ++ cellsT r := by simp [cellsT]
    have f : ∀ o, (cellsT (a :: r))[(j + 1) * 3 + o]? = (cellsT r)[j * 3 + o]? := fun o => by
      rw [e, List.getElem?_append_right (by simp; omega)]
      congr 1
      simp; omega
    have f0 := f 0
    simp only [Nat.add_zero] at f0
    rw [f0, f 1, f 2]
    simpa using ih

structure YR (own : Nat → Lab) (c : Nat) (w : World) (p : Nat) (s : YS) (vL vT vG : Value) (sv : List Value) (lg : List Value) : Prop where
  ownP : own p = ⟨c, 0, 0, eb⟩
  store : w.heap[p]? = some (.cells #[vL, .int .i64 s.hor, .int .i64 s.now, vT, vG, .int .i64 s.syn, s.bku] 78 (0, 0))
  rowL : w.ownsRow 0 193 4 vL s.l.length (cellsV s.l)
  ownL : ∀ b, vL.ownBlock = some b → own b = ⟨c, 1, 0, eb⟩
  len : sv.length = s.txs.length
  rowT : w.ownsRow 0 260 3 vT s.txs.length (cellsT (s.txs.zip sv))
  ownT : ∀ b, vT.ownBlock = some b → own b = ⟨c, 2, 0, eb⟩
  rowX : ∀ i (hi : i < s.txs.length) (hj : i < sv.length), w.ownsRow 0 193 4 sv[i] (s.txs[i]).l.length (cellsV (s.txs[i]).l)
  ownX : ∀ i (hj : i < sv.length) b, sv[i].ownBlock = some b → own b = ⟨c, 4, i, eb⟩
  rowG : w.ownsRow 0 48 1 vG lg.length lg
  ownG : ∀ b, vG.ownBlock = some b → own b = ⟨c, 3, 0, eb⟩

section
variable {own own' : Nat → Lab} {c : Nat} {w w' : World} {p : Nat} {s : YS} {vL vT vG : Value} {sv lg : List Value}

theorem ownsRow_block {base e size n : Nat} {v : Value} {xs : List Value} (h : w.ownsRow base e size v n xs) (hb : ∀ b, v.ownBlock = some b → w'.heap[b]? = w.heap[b]?) : w'.ownsRow base e size v n xs := by
  refine ⟨h.1, ?_⟩
  rcases h.2 with h1 | ⟨g, cap, cur, rfl, hg0, hg, r⟩
  · exact Or.inl h1
  · exact Or.inr ⟨g, cap, cur, rfl, hg0, (hb g rfl).trans hg, r⟩

theorem YR.frame (h : YR own c w p s vL vT vG sv lg) (hb : ∀ b, b < w.heap.size → (own b).c = c → w'.heap[b]? = w.heap[b]?) (ho : ∀ b, b < w.heap.size → (own b).c = c → own' b = own b) : YR own' c w' p s vL vT vG sv lg := by
  have lp := block_lt h.store
  refine ⟨(ho p lp (by rw [h.ownP])).trans h.ownP, (hb p lp (by rw [h.ownP])).trans h.store, ?_, ?_, h.len, ?_, ?_, ?_, ?_, ?_, ?_⟩
  · exact ownsRow_block h.rowL (fun b e => hb b (h.rowL.lt b e).2 (by rw [h.ownL b e]))
  · exact fun b e => (ho b (h.rowL.lt b e).2 (by rw [h.ownL b e])).trans (h.ownL b e)
  · exact ownsRow_block h.rowT (fun b e => hb b (h.rowT.lt b e).2 (by rw [h.ownT b e]))
  · exact fun b e => (ho b (h.rowT.lt b e).2 (by rw [h.ownT b e])).trans (h.ownT b e)
  · exact fun i hi hj => ownsRow_block (h.rowX i hi hj) (fun b e => hb b ((h.rowX i hi hj).lt b e).2 (by rw [h.ownX i hj b e]))
  · exact fun i hj b e => (ho b ((h.rowX i (h.len ▸ hj) hj).lt b e).2 (by rw [h.ownX i hj b e])).trans (h.ownX i hj b e)
  · exact ownsRow_block h.rowG (fun b e => hb b (h.rowG.lt b e).2 (by rw [h.ownG b e]))
  · exact fun b e => (ho b (h.rowG.lt b e).2 (by rw [h.ownG b e])).trans (h.ownG b e)

theorem YR.kept (h : YR own c w p s vL vT vG sv lg) (hk : Kp (fun _ => False) w w') : YR own c w' p s vL vT vG sv lg := h.frame (fun b hb _ => hk.block b hb (fun e => e)) (fun _ _ _ => rfl)

/-- The transactions' block, where there is one. -/
theorem YR.txAt (h : YR own c w p s vL vT vG sv lg) (j : Nat) (hj : j < s.txs.length) : ∃ g cap, vT = .slice (some ⟨g, 0, none⟩) s.txs.length cap ∧ w.cell? ⟨g, j * 3, none⟩ = some (.bool (s.txs[j]).over) ∧ w.cell? ⟨g, j * 3 + 1, none⟩ = some (.int .i64 (s.txs[j]).sees) ∧
    w.cell? ⟨g, j * 3 + 2, none⟩ = some (sv[j]'(h.len ▸ hj)) ∧ (∀ i, w.frozen? ⟨g, i, none⟩ = false) ∧ own g = ⟨c, 2, 0, eb⟩ := by
  have hsv : j < sv.length := h.len ▸ hj
  have hz : j < (s.txs.zip sv).length := by simp; omega
  rcases h.rowT.2 with ⟨_, h0⟩ | ⟨g, cap, cur, hv, hb, hg, hn, _, hcs, ht⟩
  · omega
  · have key : ∀ i u, (cellsT (s.txs.zip sv))[i]? = some u → w.cell? ⟨g, i, none⟩ = some u := fun i u hu => by
      have : w.cell? ⟨g, i, none⟩ = cur[i]? := by simp [World.cell?, hg]
      rw [this, ← Array.getElem?_toList]
      rw [← ht, List.getElem?_take] at hu
      split at hu
      · exact hu
      · cases hu
    obtain ⟨a1, a2, a3⟩ := cellsT_at (s.txs.zip sv) j hz
    simp only [List.getElem_zip] at a1 a2 a3
    exact ⟨g, cap, hv, key _ _ a1, key _ _ a2, key _ _ a3, fun i => by simp [World.frozen?, hg], h.ownT g (by rw [hv]; rfl)⟩

def thereY (s : YS) (tx : Int) : Bool := match s.txs[(tx - 1).toNat]? with | some t => decide (1 ≤ tx) && !t.over | none => false

variable {R : Ending → World → Prop}

theorem row_len {base e size n : Nat} {v : Value} {xs : List Value} (h : w.ownsRow base e size v n xs) : ∃ a cap, v = .slice a n cap ∧ n ≤ cap := by
  rcases h.2 with ⟨rfl, rfl⟩ | ⟨g, cap, cur, rfl, _, _, hn, _⟩
  · exact ⟨none, 0, rfl, Nat.le_refl _⟩
  · exact ⟨_, cap, rfl, hn⟩

set_option maxRecDepth 20000 in
set_option maxHeartbeats 400000 in
theorem there_any (h : YR own c w p s vL vT vG sv lg) (hn : s.txs.length < 4611686018427387904) (tx : Int) (hR : R (.returned (.bool (thereY s tx))) w) :
    Calls Tryz.prog 156 #[.pointer (some ⟨p, 0, none⟩), .int .i64 tx] w R := by
  have c3 : w.cell? ⟨p, 3, none⟩ = some vT := cell_of h.store 3
  by_cases h1 : tx < 1
  · have e : thereY s tx = false := by
      unfold thereY; split
      · simp; omega
      · rfl
    rw [e] at hR
    have h1' : decide (1 ≤ tx) = false := by simp; omega
    clear h e
    go_enter Tryz.func156, Tryz.ntmps156
    go_wp2
    exact hR
  · obtain ⟨j, rfl⟩ : ∃ j : Nat, tx = (j : Int) + 1 := ⟨(tx - 1).toNat, by omega⟩
    have hj0 : (1 : Int) ≤ (j : Int) + 1 := by omega
    by_cases h2 : j < s.txs.length
    · obtain ⟨g, cap, hv, k0, q1, q2, q3, q4⟩ := h.txAt j h2
      clear q1 q2 q3 q4
      have e : thereY s ((j : Int) + 1) = !(s.txs[j]).over := by
        unfold thereY
        simp [List.getElem?_eq_getElem h2]; omega
      rw [e] at hR
      rw [hv] at c3
      have h2' : (j : Int) + 1 ≤ s.txs.length := by omega
      have h3' : (j : Int) < s.txs.length := by omega
      have hj1 : (j : Int) ≤ 4611686018427387904 := by omega
      clear hn
      generalize (s.txs[j]).over = ov at k0 hR
      clear h e hv h1 h2
      generalize s.txs.length = L at *
      go_enter Tryz.func156, Tryz.ntmps156
      go_wp2
      exact hR
    · obtain ⟨a, cap, hv, _⟩ := row_len h.rowT
      have e : thereY s ((j : Int) + 1) = false := by
        unfold thereY
        simp [List.getElem?_eq_none (by omega : s.txs.length ≤ j)]
      rw [e] at hR
      rw [hv] at c3
      have h2' : ¬ (j : Int) + 1 ≤ s.txs.length := by omega
      have h2d : decide ((j : Int) + 1 ≤ s.txs.length) = false := by simp; omega
      clear h e hv h1 h2
      generalize s.txs.length = L at *
      go_enter Tryz.func156, Tryz.ntmps156
      go_wp2
      exact hR

end

end Go.Proofs.YthbdpfccfcceiaaGreatDoor

namespace Go.Proofs.YthbdpfccfcceiaaGreatDoor
open Go.RowKit

theorem cellsT_set : ∀ (l : List (YT × Value)) (j : Nat) (hj : j < l.length) (b : Bool), (cellsT l).set (j * 3) (.bool b) = cellsT (l.set j ({ l[j].1 with over := b }, l[j].2))
  | a :: r, 0, _, b => by simp [cellsT]
  | a :: r, j + 1, hj, b => by
    have ih := cellsT_set r j (by simpa using hj) b
    have e : ∀ x y, cellsT (x :: y) = [.bool x.1.over, .int .i64 x.1.sees, x.2] ++ cellsT y := fun x y => by simp [cellsT]
    rw [e, List.set_append_right _ _ (by simp; omega)]
    simp only [List.set_cons_succ]
    rw [e]
    congr 1
    have : (j + 1) * 3 - [Value.bool a.1.over, Value.int .i64 a.1.sees, a.2].length = j * 3 := by simp; omega
    rw [this, ih]
    simp

theorem zip_set_left {α β : Type} : ∀ (l : List α) (m : List β) (j : Nat) (x : α) (hj : j < m.length), (l.set j x).zip m = (l.zip m).set j (x, m[j])
  | [], m, j, x, _ => by simp
  | a :: r, b :: m, 0, x, _ => by simp
  | a :: r, b :: m, j + 1, x, hj => by simp [zip_set_left r m j x (by simpa using hj)]
  | a :: r, [], j, x, hj => by simp at hj

theorem lab_ne2 {own : Nat → Lab} {a b : Nat} (h : own a ≠ own b) : a ≠ b := fun e => h (by rw [e])

section
variable {own own' : Nat → Lab} {c : Nat} {w w' : World} {p : Nat} {s : YS} {vL vT vG : Value} {sv lg : List Value}

def overAt (s : YS) (j : Nat) (hj : j < s.txs.length) : YS := { s with txs := s.txs.set j { s.txs[j] with over := true } }

theorem YR.setOver (h : YR own c w p s vL vT vG sv lg) (j : Nat) (hj : j < s.txs.length) (g cap : Nat) (hv : vT = .slice (some ⟨g, 0, none⟩) s.txs.length cap) :
    YR own c (w.setCell ⟨g, j * 3, none⟩ (.bool true)) p (overAt s j hj) vL vT vG sv lg := by
  have hsv : j < sv.length := h.len ▸ hj
  have hg := h.ownT g (by rw [hv]; rfl)
  have hb : ∀ b, b ≠ g → (w.setCell ⟨g, j * 3, none⟩ (.bool true)).heap[b]? = w.heap[b]? := fun b hb => Below.heap_setCell w _ _ b hb
  have hz : j < (s.txs.zip sv).length := by simp; omega
  refine ⟨h.ownP, ?_, ?_, h.ownL, by simp [overAt, h.len], ?_, h.ownT, fun i hi hj' => ?_, h.ownX, ?_, h.ownG⟩
  · exact (hb p (lab_ne2 (own := own) (by rw [h.ownP, hg]; simp))).trans h.store
  · exact ownsRow_block h.rowL (fun b e => hb b (lab_ne2 (own := own) (by rw [h.ownL b e, hg]; simp)))
  · rcases h.rowT.2 with ⟨_, h0⟩ | ⟨g', cap', cur, hv', hb', hg', hn, hm, hcs, ht⟩
    · omega
    · rw [hv] at hv'; cases hv'
      have hlen : (overAt s j hj).txs.length = s.txs.length := by simp [overAt]
      have hcells : cellsT ((overAt s j hj).txs.zip sv) = (cellsT (s.txs.zip sv)).set (j * 3) (.bool true) := by
        rw [cellsT_set _ j hz]
        simp only [overAt, List.getElem_zip]
        rw [zip_set_left s.txs sv j _ hsv]
      refine ⟨by rw [hlen, hcells, List.length_set]; exact h.rowT.1, Or.inr ⟨g, cap, cur.setIfInBounds (j * 3) (.bool true), by rw [hlen]; exact hv, hb', heap_setCell_at hg' _, by rw [hlen]; exact hn, hm, by simpa using hcs, ?_⟩⟩
      rw [hlen, hcells, ← ht, Array.toList_setIfInBounds, List.take_set]
  · have hi' : i < s.txs.length := by simpa [overAt] using hi
    have hl : ((overAt s j hj).txs[i]).l = (s.txs[i]).l := by
      simp only [overAt, List.getElem_set]
      split
      · rename_i e; subst e; rfl
      · rfl
    rw [hl]
    exact ownsRow_block (h.rowX i hi' hj') (fun b e => hb b (lab_ne2 (own := own) (by rw [h.ownX i hj' b e, hg]; simp)))
  · exact ownsRow_block h.rowG (fun b e => hb b (lab_ne2 (own := own) (by rw [h.ownG b e, hg]; simp)))

variable {R : Ending → World → Prop}

theorem there_in {s : YS} {tx : Int} (h : thereY s tx = true) : ∃ j : Nat, tx = (j : Int) + 1 ∧ ∃ hj : j < s.txs.length, (s.txs[j]).over = false := by
  unfold thereY at h
  split at h
  · rename_i t ht
    simp at h
    refine ⟨(tx - 1).toNat, by omega, ?_⟩
    obtain ⟨hj, e⟩ := List.getElem?_eq_some_iff.1 ht
    exact ⟨hj, by rw [e]; exact h.2⟩
  · cases h

set_option maxRecDepth 20000 in
set_option maxHeartbeats 400000 in
theorem y_abort (h : YR own c w p s vL vT vG sv lg) (hn : s.txs.length < 4611686018427387904) (tx : Int)
    (h0 : thereY s tx = false → R (.returned (.int .i64 2)) w)
    (h1 : ∀ (j : Nat) (hj : j < s.txs.length), tx = (j : Int) + 1 → thereY s tx = true → ∀ w', Kp (fun b => (own b).c = c) w w' → YR own c w' p (overAt s j hj) vL vT vG sv lg → R (.returned (.int .i64 0)) w') :
    Calls Tryz.prog 109 #[.pointer (some ⟨p, 0, none⟩), .int .i64 tx] w R := by
  have H : Hid (YR own c w p s vL vT vG sv lg) := h
  cases ht : thereY s tx with
  | false =>
    have HR := h0 ht
    clear h h0 h1
    go_enter Tryz.func109, Tryz.ntmps109
    go_wp2_with (first
      | (go_at_call 156; refine there_any H.out hn tx ?_)
      | go_in)
    exact HR
  | true =>
    obtain ⟨j, rfl, hj, hov⟩ := there_in ht
    obtain ⟨g, cap, hv, k0, k1, k2, kf, hg⟩ := h.txAt j hj
    have HR : Hid _ := h1 j hj rfl ht
    have HS : Hid _ := h.setOver j hj g cap hv
    have HN : Hid _ := hn
    have c3 : w.cell? ⟨p, 3, none⟩ = some vT := cell_of h.store 3
    rw [hv] at c3
    have kf0 := kf (j * 3)
    have hj1 : (j : Int) < s.txs.length := by omega
    have hj2 : (j : Int) ≤ 4611686018427387904 := by omega
    clear h h0 h1 hn k1 k2 kf hv
    go_enter Tryz.func109, Tryz.ntmps109
    go_wp2_with (first
      | (go_at_call 156; refine there_any H.out HN.out _ ?_)
      | go_in)
    exact HR.out _ (Kp.setCell w _ _ (by show (own g).c = c; rw [hg])) HS.out

end

end Go.Proofs.YthbdpfccfcceiaaGreatDoor
