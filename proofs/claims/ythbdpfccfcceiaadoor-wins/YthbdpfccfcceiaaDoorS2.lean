/-
  Abort, Begin, Put and Delete of a store, told of its plain state.
-/
import Derived.Test.YthbdpfccfcceiaaDoorS1
namespace Go.Proofs.YthbdpfccfcceiaaDoor
open Go.RowKit Go.Maps

section
variable {own own' : Nat → Lab} {c : Nat} {w w' : World} {p : Nat} {s : XS} {mo ph mv mm : Nat} {pt mw : Int → Nat} {sl : ByteArray → Value}

theorem lab_ne {a b : Nat} (h : own a ≠ own b) : a ≠ b := fun e => h (by rw [e])

theorem XR.reopen (h : XR own c w p s mo ph mv mm pt mw sl) (hb : ∀ b, b ≠ mo → w'.heap[b]? = w.heap[b]?) (txs' : Int → Option XT) (nopen' : Nat)
    (hopn : fmap w' Tryd.prog 3 mo nopen' (encI fun n => (txs' n).map fun _ => .pointer (some ⟨pt n, 0, none⟩))) (hsub : ∀ n t, txs' n = some t → s.txs n = some t) :
    XR own c w' p { s with txs := txs', nopen := nopen' } mo ph mv mm pt mw sl := by
  have np : p ≠ mo := lab_ne (own := own) (by rw [h.ownP, h.ownO]; simp)
  have nh : ph ≠ mo := lab_ne (own := own) (by rw [h.ownH, h.ownO]; simp)
  have nv : mv ≠ mo := lab_ne (own := own) (by rw [h.ownV, h.ownO]; simp)
  have nm : mm ≠ mo := lab_ne (own := own) (by rw [h.ownM, h.ownO]; simp)
  refine ⟨h.ownP, h.ownO, h.ownH, h.ownV, h.ownM, (hb p np).trans h.store, (hb ph nh).trans h.hist, hopn, fun n t e => h.ownT n t (hsub n t e), fun n t e => ?_, fun n t e => ?_, h.vers.of_block (hb mv nv), h.moms.of_block (hb mm nm), h.ownR, fun k hk => ?_, h.log.frame (fun b _ _ hk => hb b (lab_k h.ownO hk (by omega))) (fun _ _ _ _ => rfl), h.bks.frame (fun b _ _ hk => hb b (lab_u h.ownO hk (by omega))) (fun _ _ _ _ => rfl)⟩
  · exact (hb _ (lab_ne (own := own) (by rw [(h.ownT n t (hsub n t e)).1, h.ownO]; simp))).trans (h.tx n t (hsub n t e))
  · exact (h.wr n t (hsub n t e)).of_block (hb _ (lab_ne (own := own) (by rw [(h.ownT n t (hsub n t e)).2, h.ownO]; simp)))
  · have h0 := h.row k hk
    refine ⟨h0.1, ?_⟩
    rcases h0.2 with h1 | ⟨g, cap, cur, e, hg0, hg, r⟩
    · exact Or.inl h1
    · exact Or.inr ⟨g, cap, cur, e, hg0, (hb g (lab_ne (own := own) (by rw [h.ownR k hk g (by rw [e]; rfl), h.ownO]; simp))).trans hg, r⟩

theorem map_updI {F : Int → Value} (g : Int → Option XT) (k : Int) (v : Option XT) : (fun n => ((updI g k v) n).map fun _ => F n) = updI (fun n => (g n).map fun _ => F n) k (v.map fun _ => F k) := by
  funext n
  by_cases e : n = k
  · subst e; simp [updI]
  · simp [updI, e]

variable {R : Ending → World → Prop}

theorem x_abort (h : XR own c w p s mo ph mv mm pt mw sl) (tx : Int) (hwx : (Lit.int .i64 tx).wf = true)
    (h0 : s.txs tx = none → R (.returned (.int .i64 2)) w)
    (h1 : ∀ t, s.txs tx = some t → ∀ w', Kp (fun b => (own b).c = c) w w' → XR own c w' p { s with txs := updI s.txs tx none, nopen := s.nopen - 1 } mo ph mv mm pt mw sl → R (.returned (.int .i64 0)) w') :
    Calls Tryd.prog 16 #[.pointer (some ⟨p, 0, none⟩), .int .i64 tx] w R := by
  have c2 : w.cell? ⟨p, 7, none⟩ = some (.map (some mo)) := cell_of h.store 7
  cases e : s.txs tx with
  | none => exact abort_none p mo s.nopen _ tx w c2 h.opn hwx (by rw [encI_at, e]; rfl) (h0 e)
  | some t =>
    refine abort_some p mo s.nopen _ tx w c2 h.opn hwx ⟨pt tx, 0, none⟩ (by rw [encI_at, e]; rfl) (f' := encI fun n => ((updI s.txs tx none) n).map fun _ => .pointer (some ⟨pt n, 0, none⟩)) (by rw [map_updI]; exact del_encI _ _) (fun w' hf ht => ?_)
    refine h1 t e w' (Kp.of_turned ht (by rw [h.ownO])) (h.reopen (fun b hb => mapTurned_block ht b hb) _ _ hf (fun n t' e' => ?_))
    by_cases en : n = tx
    · subst en; rw [updI_same] at e'; cases e'
    · rw [updI_other _ en] at e'; exact e'

theorem heap_setCell_at {w : World} {b i : Nat} {cs : Array Value} {e : TypeId} {fz : Nat × Nat} (h : w.heap[b]? = some (.cells cs e fz)) (v : Value) : (w.setCell ⟨b, i, none⟩ v).heap[b]? = some (.cells (cs.setIfInBounds i v) e fz) := by
  simp [World.setCell, Array.getElem?_modify, h]

theorem opn_new (pt : Int → Nat) (txs : Int → Option XT) (k : Int) (x : Nat) (t : XT) : (encI fun n => ((updI txs k (some t)) n).map fun _ => Value.pointer (some ⟨updI pt k x n, 0, none⟩)) = encI (updI (fun n => (txs n).map fun _ => Value.pointer (some ⟨pt n, 0, none⟩)) k (some (.pointer (some ⟨x, 0, none⟩)))) := by
  congr 1
  funext n
  by_cases e : n = k
  · subst e; simp [updI]
  · simp [updI, e]

theorem x_begin (h : XR own c w p s mo ph mv mm pt mw sl) (hb0 : 0 ≤ s.begun) (hb1 : s.begun < 9223372036854775807) (hnew : s.txs (s.begun + 1) = none)
    (h0 : 8 ≤ s.nopen → R (.returned (.tuple #[.int .i64 0, .int .i64 3])) w)
    (h1 : s.nopen < 8 → ∀ w' own', Kp (fun b => (own b).c = c) w w' → (∀ b, b < w.heap.size → own' b = own b) → (∀ b, w.heap.size ≤ b → b < w'.heap.size → (own' b).c = c) →
      XR own' c w' p { s with begun := s.begun + 1, txs := updI s.txs (s.begun + 1) (some ⟨s.now, fun _ => none, 0⟩), nopen := s.nopen + 1 } mo ph mv mm (updI pt (s.begun + 1) (w.heap.size + 1)) (updI mw (s.begun + 1) w.heap.size) sl →
      R (.returned (.tuple #[.int .i64 (s.begun + 1), .int .i64 0])) w') :
    Calls Tryd.prog 8 #[.pointer (some ⟨p, 0, none⟩)] w R := by
  have c2 : w.cell? ⟨p, 7, none⟩ = some (.map (some mo)) := cell_of h.store 7
  have np : p ≠ mo := lab_ne (own := own) (by rw [h.ownP, h.ownO]; simp)
  by_cases hn : 8 ≤ s.nopen
  · exact begin_full p mo s.nopen _ w c2 h.opn (by omega) (h0 hn)
  · refine begin_more p mo s.nopen _ w s.now s.begun (cell_of h.store 2) (cell_of h.store 6) c2 (frozen_of h.store 6) hb0 hb1 h.opn (by omega) (by rw [encI_at, hnew]; rfl) (put_encI _ _ _) (fun w' hf ht => ?_)
    rw [← opn_new (t := ⟨s.now, fun _ => none, 0⟩)] at hf
    have hsz : (((w.setCell ⟨p, 6, none⟩ (.int .i64 (s.begun + 1))).alloc (.map #[] 0)).alloc (.cells #[.int .i64 s.now, .map (some w.heap.size)] 68)).drew.heap.size = w.heap.size + 2 := by simp [World.setCell]
    have hsz' : w'.heap.size = w.heap.size + 2 := (mapTurned_size ht).trans hsz
    have old : ∀ b, b < w.heap.size → b ≠ p → b ≠ mo → w'.heap[b]? = w.heap[b]? := fun b hlt h1 h2 => by
      rw [mapTurned_block ht b h2, heap_two w ⟨p, 6, none⟩ _ _ _ b hlt h1]
    have lmo := h.opn.lt
    have atP : w'.heap[p]? = some (.cells #[.pointer (some ⟨ph, 0, none⟩), .int .i64 s.hor, .int .i64 s.now, s.log.lf, .int .i64 (inLast s.log.lg.length : Nat), .int .i64 (s.log.sy : Nat), .int .i64 (s.begun + 1), .map (some mo), .int .i64 s.bk.taken, .map (some s.bk.mu)] 64 (0, 0)) := by
      rw [mapTurned_block ht p np]
      show (((w.setCell ⟨p, 6, none⟩ (.int .i64 (s.begun + 1))).alloc (.map #[] 0)).alloc _).heap[p]? = _
      have lp := block_lt h.store
      have hs : (w.setCell ⟨p, 6, none⟩ (.int .i64 (s.begun + 1))).heap.size = w.heap.size := by simp [World.setCell]
      rw [Below.heap_alloc _ _ _ (by simp; omega), Below.heap_alloc _ _ _ (by omega), heap_setCell_at h.store]
      rfl
    have hs1 : (w.setCell ⟨p, 6, none⟩ (.int .i64 (s.begun + 1))).heap.size = w.heap.size := by simp [World.setCell]
    have atM : w'.heap[w.heap.size]? = some (.map #[] 0) := by
      rw [mapTurned_block ht _ (by omega)]
      show (((w.setCell ⟨p, 6, none⟩ (.int .i64 (s.begun + 1))).alloc (.map #[] 0)).alloc _).heap[w.heap.size]? = _
      rw [Below.heap_alloc _ _ _ (by simp <;> omega), ← hs1]
      exact heap_alloc_new _ _
    have atT : w'.heap[w.heap.size + 1]? = some (.cells #[.int .i64 s.now, .map (some w.heap.size)] 68 (0, 0)) := by
      rw [mapTurned_block ht _ (by omega)]
      have hs2 : ((w.setCell ⟨p, 6, none⟩ (.int .i64 (s.begun + 1))).alloc (.map #[] 0)).heap.size = w.heap.size + 1 := by simp [hs1]
      show (((w.setCell ⟨p, 6, none⟩ (.int .i64 (s.begun + 1))).alloc (.map #[] 0)).alloc _).heap[w.heap.size + 1]? = _
      rw [← hs2]
      exact heap_alloc_new _ _
    have hout : ∀ b, b < w.heap.size → (fun b => if b = w.heap.size then (⟨c, 6, s.begun + 1, eb⟩ : Lab) else if b = w.heap.size + 1 then ⟨c, 5, s.begun + 1, eb⟩ else own b) b = own b := fun b hb => by
      have e1 : b ≠ w.heap.size := by omega
      have e2 : b ≠ w.heap.size + 1 := by omega
      simp [e1, e2]
    refine h1 (by omega) w' (fun b => if b = w.heap.size then ⟨c, 6, s.begun + 1, eb⟩ else if b = w.heap.size + 1 then ⟨c, 5, s.begun + 1, eb⟩ else own b) ?_ hout ?_ ?_
    · refine ((((Kp.setCell w _ _ (S := fun b => (own b).c = c) (by show (own p).c = c; rw [h.ownP])).trans (Kp.alloc (fun b => (own b).c = c) _ _) (fun _ _ h => h)).trans (Kp.alloc (fun b => (own b).c = c) _ _) (fun _ _ h => h)).trans (Kp.drew (fun b => (own b).c = c) _) (fun _ _ h => h)).trans (Kp.of_turned (S := fun b => (own b).c = c) ht (by rw [h.ownO])) (fun _ _ h => h)
    · intro b hb1 hb2
      rcases (by omega : b = w.heap.size ∨ b = w.heap.size + 1) with e | e
      · subst e; simp
      · subst e; simp
    · have lp := block_lt h.store; have lh := block_lt h.hist; have lo := h.opn.lt; have lv := h.vers.lt; have lm := h.moms.lt
      refine ⟨(hout p lp).trans h.ownP, (hout mo lo).trans h.ownO, (hout ph lh).trans h.ownH, (hout mv lv).trans h.ownV, (hout mm lm).trans h.ownM, atP, ?_, hf, ?_, ?_, ?_, ?_, ?_, ?_, ?_, h.log.frame (fun b hl _ hk => old b hl (lab_k h.ownP hk (by omega)) (lab_k h.ownO hk (by omega))) (fun b hl _ _ => hout b hl), h.bks.frame (fun b hl _ hk => old b hl (lab_u h.ownP hk (by omega)) (lab_u h.ownO hk (by omega))) (fun b hl _ _ => hout b hl)⟩
      · exact (old ph lh (lab_ne (own := own) (by rw [h.ownH, h.ownP]; simp)) (lab_ne (own := own) (by rw [h.ownH, h.ownO]; simp))).trans h.hist
      · intro n t e
        by_cases en : n = s.begun + 1
        · subst en; simp [updI]
        · simp only [updI, en, if_false] at e ⊢
          have h1 := h.ownT n t e
          exact ⟨(hout _ (block_lt (h.tx n t e))).trans h1.1, (hout _ (h.wr n t e).lt).trans h1.2⟩
      · intro n t e
        by_cases en : n = s.begun + 1
        · subst en; simp [updI] at e ⊢; subst e; exact atT
        · simp only [updI, en, if_false] at e ⊢
          exact (old _ (block_lt (h.tx n t e)) (lab_ne (own := own) (by rw [(h.ownT n t e).1, h.ownP]; simp)) (lab_ne (own := own) (by rw [(h.ownT n t e).1, h.ownO]; simp))).trans (h.tx n t e)
      · intro n t e
        by_cases en : n = s.begun + 1
        · subst en; simp [updI] at e ⊢; subst e
          have := (fmap_made w Tryd.prog 9).of_block (w' := w') (by rw [atM]; exact (heap_alloc_new w _).symm)
          refine (show (encS fun k => Option.map encVer none) = fun _ => none from ?_) ▸ this
          funext v; cases v <;> rfl
        · simp only [updI, en, if_false] at e ⊢
          exact (h.wr n t e).of_block (old _ (h.wr n t e).lt (lab_ne (own := own) (by rw [(h.ownT n t e).2, h.ownP]; simp)) (lab_ne (own := own) (by rw [(h.ownT n t e).2, h.ownO]; simp)))
      · exact h.vers.of_block (old mv lv (lab_ne (own := own) (by rw [h.ownV, h.ownP]; simp)) (lab_ne (own := own) (by rw [h.ownV, h.ownO]; simp)))
      · exact h.moms.of_block (old mm lm (lab_ne (own := own) (by rw [h.ownM, h.ownP]; simp)) (lab_ne (own := own) (by rw [h.ownM, h.ownO]; simp)))
      · intro k hk b e
        exact (hout b ((h.row k hk).lt b e).2).trans (h.ownR k hk b e)
      · intro k hk
        have h0 := h.row k hk
        refine ⟨h0.1, ?_⟩
        rcases h0.2 with h1 | ⟨g, cap, cur, e, hg0, hg, r⟩
        · exact Or.inl h1
        · have hl := h.ownR k hk g (by rw [e]; rfl)
          exact Or.inr ⟨g, cap, cur, e, hg0, (old g (block_lt hg) (lab_ne (own := own) (by rw [hl, h.ownP]; simp)) (lab_ne (own := own) (by rw [hl, h.ownO]; simp))).trans hg, r⟩

end

end Go.Proofs.YthbdpfccfcceiaaDoor
