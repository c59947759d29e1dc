/-
  The document's answer: its store behind a commit: what is appended to its versions and to its log.
-/
import Derived.Test.YtcingdaijfaeeaaGreatR11
import Derived.Test.YtcingdaijfaeeaaGreatR9
import Derived.Test.YtcingdaijfaeeaaGreatB2
namespace Go.Proofs.YtcingdaijfaeeaaGreat
open Go.RowKit

/-- Somebody has committed one of the keys behind what is seen. -/
def ConfY (s : YS) (t : YT) : Prop := ∃ i, ∃ hi : i < s.l.length, (idxK t.l s.l[i].key).isSome = true ∧ t.sees < s.l[i].t

section
variable {own own' : Nat → Lab} {c : Nat} {w w' : World} {p : Nat} {s : YS} {vL vT vG : Value} {sv lg : List Value}
variable {R : Ending → World → Prop}

set_option maxRecDepth 20000 in
set_option maxHeartbeats 1000000 in
theorem y_commit_none (h : YR own c w p s vL vT vG sv lg) (hB : YB s) (tx : Int) (ht : thereY s tx = false)
    (h0 : R (.returned (.tuple #[.int .i64 0, .int .i64 2])) w) :
    Calls Tryz.prog 43 #[.pointer (some ⟨p, 0, none⟩), .int .i64 tx] w R := by
  have H : Hid (YR own c w p s vL vT vG sv lg) := h
  have HN : Hid (s.txs.length < 4611686018427387904) := by have := hB.txs; show _ < _; omega
  have HR := h0
  clear h h0 hB
  go_enter Tryz.func43, Tryz.ntmps43
  go_wp2_with (first
    | (go_at_call 78; refine there_any H.out HN.out tx ?_)
    | go_in)
  exact HR

set_option maxRecDepth 20000 in
set_option maxHeartbeats 1000000 in
theorem y_commit_empty (h : YR own c w p s vL vT vG sv lg) (hB : YB s) (j : Nat) (hj : j < s.txs.length) (ht : thereY s ((j : Int) + 1) = true) (h0 : (s.txs[j]).l.length = 0)
    (h1 : ∀ w', Kp (fun b => (own b).c = c) w w' → YR own c w' p (overAt s j hj) vL vT vG sv lg → R (.returned (.tuple #[.int .i64 (s.txs[j]).sees, .int .i64 0])) w') :
    Calls Tryz.prog 43 #[.pointer (some ⟨p, 0, none⟩), .int .i64 ((j : Int) + 1)] w R := by
  have hsv : j < sv.length := h.len ▸ hj
  obtain ⟨gT, cap, hv, k0, k1, k2, kf, hgT⟩ := h.txAt j hj
  obtain ⟨am, cm, hvm⟩ := vrow_of (h.rowX j hj hsv)
  have hval := hvm.val
  rw [h0] at hval
  rw [hval] at k2
  have HR := h1 _ (Kp.setCell w ⟨gT, j * 3, none⟩ (.bool true) (S := fun b => (own b).c = c) (by show (own gT).c = c; rw [h.ownT gT (by rw [hv]; rfl)])) (h.setOver j hj gT cap hv)
  have c3 : w.cell? ⟨p, 3, none⟩ = some vT := cell_of h.store 3
  rw [hv] at c3
  have hj1 : (j : Int) < s.txs.length := by omega
  have hj2 : (j : Int) ≤ 1000000000000 := by have := hB.txs; omega
  have H : Hid (YR own c w p s vL vT vG sv lg) := h
  have HN : Hid (s.txs.length < 4611686018427387904) := by have := hB.txs; show _ < _; omega
  have HT : Hid _ := ht
  clear h h1 hB hv hgT hvm hval h0
  go_enter Tryz.func43, Tryz.ntmps43
  go_wp2_with (first
    | (go_at_call 78; refine there_any H.out HN.out _ ?_)
    | go_in)
  exact HR

end

end Go.Proofs.YtcingdaijfaeeaaGreat

namespace Go.Proofs.YtcingdaijfaeeaaGreat
open Go.RowKit

section
variable {own own' : Nat → Lab} {c : Nat} {w w' : World} {p : Nat} {s : YS} {vL vT vG : Value} {sv lg : List Value}

theorem YR.addVers (h : YR own c w p s vL vT vG sv lg) {w3 : World} {v' : Value} (hk : Kp (fun b => vL.ownBlock = some b) w w3) (news : List YV) (hrow : w3.ownsRow 0 105 4 v' (s.l.length + news.length) (cellsV s.l ++ cellsV news))
    (hloc : v'.ownBlock = vL.ownBlock ∨ ∃ b, v'.ownBlock = some b ∧ w.heap.size ≤ b) :
    YR (fun b => if v'.ownBlock = some b then ⟨c, 1, 0, eb⟩ else own b) c (w3.setCell ⟨p, 0, none⟩ v') p { s with l := s.l ++ news } v' vT vG sv lg ∧
    (∀ b, b < w.heap.size → (fun b => if v'.ownBlock = some b then (⟨c, 1, 0, eb⟩ : Lab) else own b) b = own b) := by
  have hout : ∀ b, b < w.heap.size → (fun b => if v'.ownBlock = some b then (⟨c, 1, 0, eb⟩ : Lab) else own b) b = own b := fun b hb => by
    by_cases e : v'.ownBlock = some b
    · simp only [e, if_true]
      rcases hloc with hl | ⟨b', hb', hge⟩
      · exact (h.ownL b (hl ▸ e)).symm
      · rw [hb'] at e; cases e; omega
    · simp [e]
  refine ⟨?_, hout⟩
  have lp := block_lt h.store
  have hpT : ∀ b, vL.ownBlock = some b → own b = ⟨c, 1, 0, eb⟩ := h.ownL
  have old : ∀ b, b < w.heap.size → own b ≠ ⟨c, 1, 0, eb⟩ → b ≠ p → (w3.setCell ⟨p, 0, none⟩ v').heap[b]? = w.heap[b]? := fun b hb h1 h2 => by
    rw [Below.heap_setCell w3 _ _ b h2]; exact hk.block b hb (fun e => h1 (hpT b e))
  have hp3 : w3.heap[p]? = some (.cells #[vL, .int .i64 0, .int .i64 s.now, vT, vG, .int .i64 0, .slice none 0 0] 45 (0, 0)) := (hk.block p lp (fun e => by have := hpT p e; rw [h.ownP] at this; simp at this)).trans h.store
  have hvp : v'.ownBlock ≠ some p := fun e => by
    rcases hloc with hl | ⟨b, hb, hge⟩
    · have := hpT p (hl ▸ e); rw [h.ownP] at this; simp at this
    · rw [hb] at e; cases e; omega
  have rT := ownsRow_block (w' := w3.setCell ⟨p, 0, none⟩ v') h.rowT (fun b e => old b (h.rowT.lt b e).2 (by rw [h.ownT b e]; simp) (lab_ne2 (own := own) (by rw [h.ownT b e, h.ownP]; simp)))
  have oT : ∀ b, vT.ownBlock = some b → (fun b => if v'.ownBlock = some b then (⟨c, 1, 0, eb⟩ : Lab) else own b) b = ⟨c, 2, 0, eb⟩ := fun b e => (hout b (h.rowT.lt b e).2).trans (h.ownT b e)
  refine ⟨(hout p lp).trans h.ownP, ?_, ?_, fun b e => by simp [e], h.len, rT, oT, fun i hi hj => ownsRow_block (h.rowX i hi hj) (fun b e => old b ((h.rowX i hi hj).lt b e).2 (by rw [h.ownX i hj b e]; simp) (lab_ne2 (own := own) (by rw [h.ownX i hj b e, h.ownP]; simp))), fun i hj b e => (hout b ((h.rowX i (h.len ▸ hj) hj).lt b e).2).trans (h.ownX i hj b e), ownsRow_block h.rowG (fun b e => old b (h.rowG.lt b e).2 (by rw [h.ownG b e]; simp) (lab_ne2 (own := own) (by rw [h.ownG b e, h.ownP]; simp))), fun b e => (hout b (h.rowG.lt b e).2).trans (h.ownG b e)⟩
  · rw [heap_setCell_at hp3]; rfl
  · have e1 : cellsV (s.l ++ news) = cellsV s.l ++ cellsV news := by simp [cellsV]
    show World.ownsRow _ 0 _ 4 v' (s.l ++ news).length (cellsV (s.l ++ news))
    rw [e1, List.length_append]
    exact ownsRow_block hrow (fun b e => Below.heap_setCell w3 _ _ b (fun e' => hvp (by rw [e, e'])))

theorem YR.addLog (h : YR own c w p s vL vT vG sv lg) {w3 : World} {v' : Value} (hk : Kp (fun b => vG.ownBlock = some b) w w3) (x : Value) (hrow : w3.ownsRow 0 63 1 v' (lg.length + 1) (lg ++ [x]))
    (hloc : v'.ownBlock = vG.ownBlock ∨ ∃ b, v'.ownBlock = some b ∧ w.heap.size ≤ b) :
    YR (fun b => if v'.ownBlock = some b then ⟨c, 3, 0, eb⟩ else own b) c (w3.setCell ⟨p, 4, none⟩ v') p s vL vT v' sv (lg ++ [x]) ∧
    (∀ b, b < w.heap.size → (fun b => if v'.ownBlock = some b then (⟨c, 3, 0, eb⟩ : Lab) else own b) b = own b) := by
  have hout : ∀ b, b < w.heap.size → (fun b => if v'.ownBlock = some b then (⟨c, 3, 0, eb⟩ : Lab) else own b) b = own b := fun b hb => by
    by_cases e : v'.ownBlock = some b
    · simp only [e, if_true]
      rcases hloc with hl | ⟨b', hb', hge⟩
      · exact (h.ownG b (hl ▸ e)).symm
      · rw [hb'] at e; cases e; omega
    · simp [e]
  refine ⟨?_, hout⟩
  have lp := block_lt h.store
  have hpT : ∀ b, vG.ownBlock = some b → own b = ⟨c, 3, 0, eb⟩ := h.ownG
  have old : ∀ b, b < w.heap.size → own b ≠ ⟨c, 3, 0, eb⟩ → b ≠ p → (w3.setCell ⟨p, 4, none⟩ v').heap[b]? = w.heap[b]? := fun b hb h1 h2 => by
    rw [Below.heap_setCell w3 _ _ b h2]; exact hk.block b hb (fun e => h1 (hpT b e))
  have hp3 : w3.heap[p]? = some (.cells #[vL, .int .i64 0, .int .i64 s.now, vT, vG, .int .i64 0, .slice none 0 0] 45 (0, 0)) := (hk.block p lp (fun e => by have := hpT p e; rw [h.ownP] at this; simp at this)).trans h.store
  have hvp : v'.ownBlock ≠ some p := fun e => by
    rcases hloc with hl | ⟨b, hb, hge⟩
    · have := hpT p (hl ▸ e); rw [h.ownP] at this; simp at this
    · rw [hb] at e; cases e; omega
  have rT := ownsRow_block (w' := w3.setCell ⟨p, 4, none⟩ v') h.rowT (fun b e => old b (h.rowT.lt b e).2 (by rw [h.ownT b e]; simp) (lab_ne2 (own := own) (by rw [h.ownT b e, h.ownP]; simp)))
  have oT : ∀ b, vT.ownBlock = some b → (fun b => if v'.ownBlock = some b then (⟨c, 3, 0, eb⟩ : Lab) else own b) b = ⟨c, 2, 0, eb⟩ := fun b e => (hout b (h.rowT.lt b e).2).trans (h.ownT b e)
  refine ⟨(hout p lp).trans h.ownP, ?_, ownsRow_block h.rowL (fun b e => old b (h.rowL.lt b e).2 (by rw [h.ownL b e]; simp) (lab_ne2 (own := own) (by rw [h.ownL b e, h.ownP]; simp))), fun b e => (hout b (h.rowL.lt b e).2).trans (h.ownL b e), h.len, rT, oT, fun i hi hj => ownsRow_block (h.rowX i hi hj) (fun b e => old b ((h.rowX i hi hj).lt b e).2 (by rw [h.ownX i hj b e]; simp) (lab_ne2 (own := own) (by rw [h.ownX i hj b e, h.ownP]; simp))), fun i hj b e => (hout b ((h.rowX i (h.len ▸ hj) hj).lt b e).2).trans (h.ownX i hj b e), ?_, fun b e => by simp [e]⟩
  · rw [heap_setCell_at hp3]; rfl
  · rw [List.length_append]
    exact ownsRow_block hrow (fun b e => Below.heap_setCell w3 _ _ b (fun e' => hvp (by rw [e, e'])))

end

end Go.Proofs.YtcingdaijfaeeaaGreat
