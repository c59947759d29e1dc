/-
  The document's answer: how its store lies in memory; there and Abort.
-/
import Derived.Test.YtcingdaijfaeeaaGreatR2
import Derived.Test.YtcingdaijfaeeaaGreatS3
namespace Go.Proofs.YtcingdaijfaeeaaGreat
open Go.RowKit

structure YT where
  over : Bool
  sees : Int
  l : List YV

structure YS where
  l : List YV
  now : Int
  txs : List YT

def cellsT (l : List (YT × Value)) : List Value := l.flatMap fun q => [.bool q.1.over, .int .i64 q.1.sees, q.2]

theorem cellsT_len (l : List (YT × Value)) : (cellsT l).length = l.length * 3 := by
  induction l with
  | nil => rfl
  | cons a r ih => simp [cellsT] at ih ⊢; omega

theorem cellsT_at : ∀ (l : List (YT × Value)) (j : Nat) (hj : j < l.length), (cellsT l)[j * 3]? = some (.bool l[j].1.over) ∧ (cellsT l)[j * 3 + 1]? = some (.int .i64 l[j].1.sees) ∧ (cellsT l)[j * 3 + 2]? = some l[j].2
  | a :: r, 0, _ => by simp [cellsT]
  | a :: r, j + 1, hj => by
    have ih := cellsT_at r j (by simpa using hj)
    have e : cellsT (a :: r) = [.bool a.1.over, .int .i64 a.1.sees, a.2] ++ cellsT r := by simp [cellsT]
    have f : ∀ o, (cellsT (a :: r))[(j + 1) * 3 + o]? = (cellsT r)[j * 3 + o]? := fun o => by
      rw [e, List.getElem?_append_right (by simp; omega)]
      congr 1
      simp; omega
    have f0 := f 0
    simp only [Nat.add_zero] at f0
    rw [f0, f 1, f 2]
    simpa using ih

structure YR (own : Nat → Lab) (c : Nat) (w : World) (p : Nat) (s : YS) (vL vT vG : Value) (sv : List Value) (lg : List Value) : Prop where
  ownP : own p = ⟨c, 0, 0, eb⟩
  store : w.heap[p]? = some (.cells #[vL, .int .i64 0, .int .i64 s.now, vT, vG, .int .i64 0, .slice none 0 0] 45 (0, 0))
  rowL : w.ownsRow 0 105 4 vL s.l.length (cellsV s.l)
  ownL : ∀ b, vL.ownBlock = some b → own b = ⟨c, 1, 0, eb⟩
  len : sv.length = s.txs.length
  rowT : w.ownsRow 0 153 3 vT s.txs.length (cellsT (s.txs.zip sv))
  ownT : ∀ b, vT.ownBlock = some b → own b = ⟨c, 2, 0, eb⟩
  rowX : ∀ i (hi : i < s.txs.length) (hj : i < sv.length), w.ownsRow 0 105 4 sv[i] (s.txs[i]).l.length (cellsV (s.txs[i]).l)
  ownX : ∀ i (hj : i < sv.length) b, sv[i].ownBlock = some b → own b = ⟨c, 4, i, eb⟩
  rowG : w.ownsRow 0 63 1 vG lg.length lg
  ownG : ∀ b, vG.ownBlock = some b → own b = ⟨c, 3, 0, eb⟩

section
variable {own own' : Nat → Lab} {c : Nat} {w w' : World} {p : Nat} {s : YS} {vL vT vG : Value} {sv lg : List Value}

theorem ownsRow_block {base e size n : Nat} {v : Value} {xs : List Value} (h : w.ownsRow base e size v n xs) (hb : ∀ b, v.ownBlock = some b → w'.heap[b]? = w.heap[b]?) : w'.ownsRow base e size v n xs := by
  refine ⟨h.1, ?_⟩
  rcases h.2 with h1 | ⟨g, cap, cur, rfl, hg0, hg, r⟩
  · exact Or.inl h1
  · exact Or.inr ⟨g, cap, cur, rfl, hg0, (hb g rfl).trans hg, r⟩

theorem YR.frame (h : YR own c w p s vL vT vG sv lg) (hb : ∀ b, b < w.heap.size → (own b).c = c → w'.heap[b]? = w.heap[b]?) (ho : ∀ b, b < w.heap.size → (own b).c = c → own' b = own b) : YR own' c w' p s vL vT vG sv lg := by
  have lp := block_lt h.store
  refine ⟨(ho p lp (by rw [h.ownP])).trans h.ownP, (hb p lp (by rw [h.ownP])).trans h.store, ?_, ?_, h.len, ?_, ?_, ?_, ?_, ?_, ?_⟩
  · exact ownsRow_block h.rowL (fun b e => hb b (h.rowL.lt b e).2 (by rw [h.ownL b e]))
  · exact fun b e => (ho b (h.rowL.lt b e).2 (by rw [h.ownL b e])).trans (h.ownL b e)
  · exact ownsRow_block h.rowT (fun b e => hb b (h.rowT.lt b e).2 (by rw [h.ownT b e]))
  · exact fun b e => (ho b (h.rowT.lt b e).2 (by rw [h.ownT b e])).trans (h.ownT b e)
  · exact fun i hi hj => ownsRow_block (h.rowX i hi hj) (fun b e => hb b ((h.rowX i hi hj).lt b e).2 (by rw [h.ownX i hj b e]))
  · exact fun i hj b e => (ho b ((h.rowX i (h.len ▸ hj) hj).lt b e).2 (by rw [h.ownX i hj b e])).trans (h.ownX i hj b e)
  · exact ownsRow_block h.rowG (fun b e => hb b (h.rowG.lt b e).2 (by rw [h.ownG b e]))
  · exact fun b e => (ho b (h.rowG.lt b e).2 (by rw [h.ownG b e])).trans (h.ownG b e)

theorem YR.kept (h : YR own c w p s vL vT vG sv lg) (hk : Kp (fun _ => False) w w') : YR own c w' p s vL vT vG sv lg := h.frame (fun b hb _ => hk.block b hb (fun e => e)) (fun _ _ _ => rfl)

/-- The transactions' block, where there is one. -/
theorem YR.txAt (h : YR own c w p s vL vT vG sv lg) (j : Nat) (hj : j < s.txs.length) : ∃ g cap, vT = .slice (some ⟨g, 0, none⟩) s.txs.length cap ∧ w.cell? ⟨g, j * 3, none⟩ = some (.bool (s.txs[j]).over) ∧ w.cell? ⟨g, j * 3 + 1, none⟩ = some (.int .i64 (s.txs[j]).sees) ∧
    w.cell? ⟨g, j * 3 + 2, none⟩ = some (sv[j]'(h.len ▸ hj)) ∧ (∀ i, w.frozen? ⟨g, i, none⟩ = false) ∧ own g = ⟨c, 2, 0, eb⟩ := by
  have hsv : j < sv.length := h.len ▸ hj
  have hz : j < (s.txs.zip sv).length := by simp; omega
  rcases h.rowT.2 with ⟨_, h0⟩ | ⟨g, cap, cur, hv, hb, hg, hn, _, hcs, ht⟩
  · omega
  · have key : ∀ i u, (cellsT (s.txs.zip sv))[i]? = some u → w.cell? ⟨g, i, none⟩ = some u := fun i u hu => by
      have : w.cell? ⟨g, i, none⟩ = cur[i]? := by simp [World.cell?, hg]
      rw [this, ← Array.getElem?_toList]
      rw [← ht, List.getElem?_take] at hu
      split at hu
      · exact hu
      · cases hu
    obtain ⟨a1, a2, a3⟩ := cellsT_at (s.txs.zip sv) j hz
    simp only [List.getElem_zip] at a1 a2 a3
    exact ⟨g, cap, hv, key _ _ a1, key _ _ a2, key _ _ a3, fun i => by simp [World.frozen?, hg], h.ownT g (by rw [hv]; rfl)⟩

def thereY (s : YS) (tx : Int) : Bool := match s.txs[(tx - 1).toNat]? with | some t => decide (1 ≤ tx) && !t.over | none => false

variable {R : Ending → World → Prop}

theorem row_len {base e size n : Nat} {v : Value} {xs : List Value} (h : w.ownsRow base e size v n xs) : ∃ a cap, v = .slice a n cap ∧ n ≤ cap := by
  rcases h.2 with ⟨rfl, rfl⟩ | ⟨g, cap, cur, rfl, _, _, hn, _⟩
  · exact ⟨none, 0, rfl, Nat.le_refl _⟩
  · exact ⟨_, cap, rfl, hn⟩

set_option maxRecDepth 20000 in
set_option maxHeartbeats 400000 in
theorem there_any (h : YR own c w p s vL vT vG sv lg) (hn : s.txs.length < 4611686018427387904) (tx : Int) (hR : R (.returned (.bool (thereY s tx))) w) :
    Calls Tryz.prog 78 #[.pointer (some ⟨p, 0, none⟩), .int .i64 tx] w R := by
  have c3 : w.cell? ⟨p, 3, none⟩ = some vT := cell_of h.store 3
  by_cases h1 : tx < 1
  · have e : thereY s tx = false := by
      unfold thereY; split
      · simp; omega
      · rfl
    rw [e] at hR
    have h1' : decide (1 ≤ tx) = false := by simp; omega
    clear h e
    go_enter Tryz.func78, Tryz.ntmps78
    go_wp2
    exact hR
  · obtain ⟨j, rfl⟩ : ∃ j : Nat, tx = (j : Int) + 1 := ⟨(tx - 1).toNat, by omega⟩
    have hj0 : (1 : Int) ≤ (j : Int) + 1 := by omega
    by_cases h2 : j < s.txs.length
    · obtain ⟨g, cap, hv, k0, q1, q2, q3, q4⟩ := h.txAt j h2
      clear q1 q2 q3 q4
      have e : thereY s ((j : Int) + 1) = !(s.txs[j]).over := by
        unfold thereY
        simp [List.getElem?_eq_getElem h2]; omega
      rw [e] at hR
      rw [hv] at c3
      have h2' : (j : Int) + 1 ≤ s.txs.length := by omega
      have h3' : (j : Int) < s.txs.length := by omega
      have hj1 : (j : Int) ≤ 4611686018427387904 := by omega
      clear hn
      generalize (s.txs[j]).over = ov at k0 hR
      clear h e hv h1 h2
      generalize s.txs.length = L at *
      go_enter Tryz.func78, Tryz.ntmps78
      go_wp2
      exact hR
    · obtain ⟨a, cap, hv, _⟩ := row_len h.rowT
      have e : thereY s ((j : Int) + 1) = false := by
        unfold thereY
        simp [List.getElem?_eq_none (by omega : s.txs.length ≤ j)]
      rw [e] at hR
      rw [hv] at c3
      have h2' : ¬ (j : Int) + 1 ≤ s.txs.length := by omega
      have h2d : decide ((j : Int) + 1 ≤ s.txs.length) = false := by simp; omega
      clear h e hv h1 h2
      generalize s.txs.length = L at *
      go_enter Tryz.func78, Tryz.ntmps78
      go_wp2
      exact hR

end

end Go.Proofs.YtcingdaijfaeeaaGreat
