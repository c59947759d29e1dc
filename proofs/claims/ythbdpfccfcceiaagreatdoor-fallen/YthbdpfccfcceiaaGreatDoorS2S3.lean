/-
  Abort, Begin, Put and Delete of a store, told of its plain state.
  Put and Delete of a store, told of its plain state.
-/
import Derived.Test.YthbdpfccfcceiaaGreatDoorD5S1
namespace Go.Proofs.YthbdpfccfcceiaaGreatDoor
open Go.RowKit Go.Maps

section
variable {own own' : Nat → Lab} {c : Nat} {w w' : World} {p : Nat} {s : XS} {mo ph mv mm : Nat} {pt mw : Int → Nat} {sl : ByteArray → Value}

theorem lab_ne {a b : Nat} (h : own a ≠ own b) : a ≠ b := fun e => h (by rw [e])

theorem XR.reopen (h : XR own c w p s mo ph mv mm pt mw sl) (hb : ∀ b, b ≠ mo → w'.heap[b]? = w.heap[b]?) (txs' : Int → Option XT) (nopen' : Nat)
    (hopn : fmap w' Tryz.prog 3 mo nopen' (encI fun n => (txs' n).map fun _ => .pointer (some ⟨pt n, 0, none⟩))) (hsub : ∀ n t, txs' n = some t → s.txs n = some t) :
    XR own c w' p { s with txs := txs', nopen := nopen' } mo ph mv mm pt mw sl := by
  have np : p ≠ mo := lab_ne (own := own) (by rw [h.ownP, h.ownO]; simp)
  have nh : ph ≠ mo := lab_ne (own := own) (by rw [h.ownH, h.ownO]; simp)
  have nv : mv ≠ mo := lab_ne (own := own) (by rw [h.ownV, h.ownO]; simp)
  have nm : mm ≠ mo := lab_ne (own := own) (by rw [h.ownM, h.ownO]; simp)
  refine ⟨h.ownP, h.ownO, h.ownH, h.ownV, h.ownM, (hb p np).trans h.store, (hb ph nh).trans h.hist, hopn, fun n t e => h.ownT n t (hsub n t e), fun n t e => ?_, fun n t e => ?_, h.vers.of_block (hb mv nv), h.moms.of_block (hb mm nm), h.ownR, fun k hk => ?_, h.log.frame (fun b _ _ hk => hb b (lab_k h.ownO hk (by omega))) (fun _ _ _ _ => rfl), h.bks.frame (fun b _ _ hk => hb b (lab_u h.ownO hk (by omega))) (fun _ _ _ _ => rfl)⟩
  · exact (hb _ (lab_ne (own := own) (by rw [(h.ownT n t (hsub n t e)).1, h.ownO]; simp))).trans (h.tx n t (hsub n t e))
  · exact (h.wr n t (hsub n t e)).of_block (hb _ (lab_ne (own := own) (by rw [(h.ownT n t (hsub n t e)).2, h.ownO]; simp)))
  · have h0 := h.row k hk
    refine ⟨h0.1, ?_⟩
    rcases h0.2 with h1 | ⟨g, cap, cur, e, hg0, hg, r⟩
    · exact Or.inl h1
    · exact Or.inr ⟨g, cap, cur, e, hg0, (hb g (lab_ne (own := own) (by rw [h.ownR k hk g (by rw [e]; rfl), h.ownO]; simp))).trans hg, r⟩

theorem map_updI {F : Int → Value} (g : Int → Option XT) (k : Int) (v : Option XT) : (fun n => ((updI g k v) n).map fun _ => F n) = updI (fun n => (g n).map fun _ => F n) k (v.map fun _ => F k) := by
  funext n
  by_cases e : n = k
  · subst e; simp [updI]
  · simp [updI, e]

variable {R : Ending → World → Prop}

theorem x_abort (h : XR own c w p s mo ph mv mm pt mw sl) (tx : Int) (hwx : (Lit.int .i64 tx).wf = true)
    (h0 : s.txs tx = none → R (.returned (.int .i64 2)) w)
    (h1 : ∀ t, s.txs tx = some t → ∀ w', Kp (fun b => (own b).c = c) w w' → XR own c w' p { s with txs := updI s.txs tx none, nopen := s.nopen - 1 } mo ph mv mm pt mw sl → R (.returned (.int .i64 0)) w') :
    Calls Tryz.prog 108 #[.pointer (some ⟨p, 0, none⟩), .int .i64 tx] w R := by
  have c2 : w.cell? ⟨p, 7, none⟩ = some (.map (some mo)) := cell_of h.store 7
  cases e : s.txs tx with
  | none => exact abort_none p mo s.nopen _ tx w c2 h.opn hwx (by rw [encI_at, e]; rfl) (h0 e)
  | some t =>
    refine abort_some p mo s.nopen _ tx w c2 h.opn hwx ⟨pt tx, 0, none⟩ (by rw [encI_at, e]; rfl) (f' := encI fun n => ((updI s.txs tx none) n).map fun _ => .pointer (some ⟨pt n, 0, none⟩)) (by rw [map_updI]; exact del_encI _ _) (fun w' hf ht => ?_)
    refine h1 t e w' (Kp.of_turned ht (by rw [h.ownO])) (h.reopen (fun b hb => mapTurned_block ht b hb) _ _ hf (fun n t' e' => ?_))
    by_cases en : n = tx
    · subst en; rw [updI_same] at e'; cases e'
    · rw [updI_other _ en] at e'; exact e'

theorem heap_setCell_at {w : World} {b i : Nat} {cs : Array Value} {e : TypeId} {fz : Nat × Nat} (h : w.heap[b]? = some (.cells cs e fz)) (v : Value) : (w.setCell ⟨b, i, none⟩ v).heap[b]? = some (.cells (cs.setIfInBounds i v) e fz) := by
  simp [World.setCell, Array.getElem?_modify, h]

theorem opn_new (pt : Int → Nat) (txs : Int → Option XT) (k : Int) (x : Nat) (t : XT) : (encI fun n => ((updI txs k (some t)) n).map fun _ => Value.pointer (some ⟨updI pt k x n, 0, none⟩)) = encI (updI (fun n => (txs n).map fun _ => Value.pointer (some ⟨pt n, 0, none⟩)) k (some (.pointer (some ⟨x, 0, none⟩)))) := by
  congr 1
  funext n
  by_cases e : n = k
  · subst e; simp [updI]
  · simp [updI, e]

theorem x_begin (h : XR own c w p s mo ph mv mm pt mw sl) (hb0 : 0 ≤ s.begun) (hb1 : s.begun < 9223372036854775807) (hnew : s.txs (s.begun + 1) = none)
    (h0 : 8 ≤ s.nopen → R (.returned (.tuple #[.int .i64 0, .int .i64 3])) w)
    (h1 : s.nopen < 8 → ∀ w' own', Kp (fun b => (own b).c = c) w w' → (∀ b, b < w.heap.size → own' b = own b) → (∀ b, w.heap.size ≤ b → b < w'.heap.size → (own' b).c = c) →
      XR own' c w' p { s with begun := s.begun + 1, txs := updI s.txs (s.begun + 1) (some ⟨s.now, fun _ => none, 0⟩), nopen := s.nopen + 1 } mo ph mv mm (updI pt (s.begun + 1) (w.heap.size + 1)) (updI mw (s.begun + 1) w.heap.size) sl →
      R (.returned (.tuple #[.int .i64 (s.begun + 1), .int .i64 0])) w') :
    Calls Tryz.prog 34 #[.pointer (some ⟨p, 0, none⟩)] w R := by
  have c2 : w.cell? ⟨p, 7, none⟩ = some (.map (some mo)) := cell_of h.store 7
  have np : p ≠ mo := lab_ne (own := own) (by rw [h.ownP, h.ownO]; simp)
  by_cases hn : 8 ≤ s.nopen
  · exact begin_full p mo s.nopen _ w c2 h.opn (by omega) (h0 hn)
  · refine begin_more p mo s.nopen _ w s.now s.begun (cell_of h.store 2) (cell_of h.store 6) c2 (frozen_of h.store 6) hb0 hb1 h.opn (by omega) (by rw [encI_at, hnew]; rfl) (put_encI _ _ _) (fun w' hf ht => ?_)
    rw [← opn_new (t := ⟨s.now, fun _ => none, 0⟩)] at hf
    have hsz : (((w.setCell ⟨p, 6, none⟩ (.int .i64 (s.begun + 1))).alloc (.map #[] 0)).alloc (.cells #[.int .i64 s.now, .map (some w.heap.size)] 132)).drew.heap.size = w.heap.size + 2 := by simp [World.setCell]
    have hsz' : w'.heap.size = w.heap.size + 2 := (mapTurned_size ht).trans hsz
    have old : ∀ b, b < w.heap.size → b ≠ p → b ≠ mo → w'.heap[b]? = w.heap[b]? := fun b hlt h1 h2 => by
      rw [mapTurned_block ht b h2, heap_two w ⟨p, 6, none⟩ _ _ _ b hlt h1]
    have lmo := h.opn.lt
    have atP : w'.heap[p]? = some (.cells #[.pointer (some ⟨ph, 0, none⟩), .int .i64 s.hor, .int .i64 s.now, s.log.lf, .int .i64 (inLast s.log.lg.length : Nat), .int .i64 (s.log.sy : Nat), .int .i64 (s.begun + 1), .map (some mo), .int .i64 s.bk.taken, .map (some s.bk.mu)] 102 (0, 0)) := by
      rw [mapTurned_block ht p np]
      show (((w.setCell ⟨p, 6, none⟩ (.int .i64 (s.begun + 1))).alloc (.map #[] 0)).alloc _).heap[p]? = _
      have lp := block_lt h.store
      have hs : (w.setCell ⟨p, 6, none⟩ (.int .i64 (s.begun + 1))).heap.size = w.heap.size := by simp [World.setCell]
      rw [Below.heap_alloc _ _ _ (by simp; omega), Below.heap_alloc _ _ _ (by omega), heap_setCell_at h.store]
      rfl
    have hs1 : (w.setCell ⟨p, 6, none⟩ (.int .i64 (s.begun + 1))).heap.size = w.heap.size := by simp [World.setCell]
    have atM : w'.heap[w.heap.size]? = some (.map #[] 0) := by
      rw [mapTurned_block ht _ (by omega)]
      show (((w.setCell ⟨p, 6, none⟩ (.int .i64 (s.begun + 1))).alloc (.map #[] 0)).alloc _).heap[w.heap.size]? = _
      rw [Below.heap_alloc _ _ _ (by simp <;> omega), ← hs1]
      exact heap_alloc_new _ _
    have atT : w'.heap[w.heap.size + 1]? = some (.cells #[.int .i64 s.now, .map (some w.heap.size)] 132 (0, 0)) := by
      rw [mapTurned_block ht _ (by omega)]
      have hs2 : ((w.setCell ⟨p, 6, none⟩ (.int .i64 (s.begun + 1))).alloc (.map #[] 0)).heap.size = w.heap.size + 1 := by simp [hs1]
      show (((w.setCell ⟨p, 6, none⟩ (.int .i64 (s.begun + 1))).alloc (.map #[] 0)).alloc _).heap[w.heap.size + 1]? = _
      rw [← hs2]
      exact heap_alloc_new _ _
    have hout : ∀ b, b < w.heap.size → (fun b => if b = w.heap.size then (⟨c, 6, s.begun + 1, eb⟩ : Lab) else if b = w.heap.size + 1 then ⟨c, 5, s.begun + 1, eb⟩ else own b) b = own b := fun b hb => by
      have e1 : b ≠ w.heap.size := by omega
      have e2 : b ≠ w.heap.size + 1 := by omega
      simp [e1, e2]
    refine h1 (by omega) w' (fun b => if b = w.heap.size then ⟨c, 6, s.begun + 1, eb⟩ else if b = w.heap.size + 1 then ⟨c, 5, s.begun + 1, eb⟩ else own b) ?_ hout ?_ ?_
    · refine ((((Kp.setCell w _ _ (S := fun b => (own b).c = c) (by show (own p).c = c; rw [h.ownP])).trans (Kp.alloc (fun b => (own b).c = c) _ _) (fun _ _ h => h)).trans (Kp.alloc (fun b => (own b).c = c) _ _) (fun _ _ h => h)).trans (Kp.drew (fun b => (own b).c = c) _) (fun _ _ h => h)).trans (Kp.of_turned (S := fun b => (own b).c = c) ht (by rw [h.ownO])) (fun _ _ h => h)
    · intro b hb1 hb2
      rcases (by omega : b = w.heap.size ∨ b = w.heap.size + 1) with e | e
      · subst e; simp
      · subst e; simp
    · have lp := block_lt h.store; have lh := block_lt h.hist; have lo := h.opn.lt; have lv := h.vers.lt; have lm := h.moms.lt
      refine ⟨(hout p lp).trans h.ownP, (hout mo lo).trans h.ownO, (hout ph lh).trans h.ownH, (hout mv lv).trans h.ownV, (hout mm lm).trans h.ownM, atP, ?_, hf, ?_, ?_, ?_, ?_, ?_, ?_, ?_, h.log.frame (fun b hl _ hk => old b hl (lab_k h.ownP hk (by omega)) (lab_k h.ownO hk (by omega))) (fun b hl _ _ => hout b hl), h.bks.frame (fun b hl _ hk => old b hl (lab_u h.ownP hk (by omega)) (lab_u h.ownO hk (by omega))) (fun b hl _ _ => hout b hl)⟩
      · exact (old ph lh (lab_ne (own := own) (by rw [h.ownH, h.ownP]; simp)) (lab_ne (own := own) (by rw [h.ownH, h.ownO]; simp))).trans h.hist
      · intro n t e
        by_cases en : n = s.begun + 1
        · subst en; simp [updI]
        · simp only [updI, en, if_false] at e ⊢
          have h1 := h.ownT n t e
          exact ⟨(hout _ (block_lt (h.tx n t e))).trans h1.1, (hout _ (h.wr n t e).lt).trans h1.2⟩
      · intro n t e
        by_cases en : n = s.begun + 1
        · subst en; simp [updI] at e ⊢; subst e; exact atT
        · simp only [updI, en, if_false] at e ⊢
          exact (old _ (block_lt (h.tx n t e)) (lab_ne (own := own) (by rw [(h.ownT n t e).1, h.ownP]; simp)) (lab_ne (own := own) (by rw [(h.ownT n t e).1, h.ownO]; simp))).trans (h.tx n t e)
      · intro n t e
        by_cases en : n = s.begun + 1
        · subst en; simp [updI] at e ⊢; subst e
          have := (fmap_made w Tryz.prog 9).of_block (w' := w') (by rw [atM]; exact (heap_alloc_new w _).symm)
          refine (show (encS fun k => Option.map encVer none) = fun _ => none from ?_) ▸ this
          funext v; cases v <;> rfl
        · simp only [updI, en, if_false] at e ⊢
          exact (h.wr n t e).of_block (old _ (h.wr n t e).lt (lab_ne (own := own) (by rw [(h.ownT n t e).2, h.ownP]; simp)) (lab_ne (own := own) (by rw [(h.ownT n t e).2, h.ownO]; simp)))
      · exact h.vers.of_block (old mv lv (lab_ne (own := own) (by rw [h.ownV, h.ownP]; simp)) (lab_ne (own := own) (by rw [h.ownV, h.ownO]; simp)))
      · exact h.moms.of_block (old mm lm (lab_ne (own := own) (by rw [h.ownM, h.ownP]; simp)) (lab_ne (own := own) (by rw [h.ownM, h.ownO]; simp)))
      · intro k hk b e
        exact (hout b ((h.row k hk).lt b e).2).trans (h.ownR k hk b e)
      · intro k hk
        have h0 := h.row k hk
        refine ⟨h0.1, ?_⟩
        rcases h0.2 with h1 | ⟨g, cap, cur, e, hg0, hg, r⟩
        · exact Or.inl h1
        · have hl := h.ownR k hk g (by rw [e]; rfl)
          exact Or.inr ⟨g, cap, cur, e, hg0, (old g (block_lt hg) (lab_ne (own := own) (by rw [hl, h.ownP]; simp)) (lab_ne (own := own) (by rw [hl, h.ownO]; simp))).trans hg, r⟩

end

end Go.Proofs.YthbdpfccfcceiaaGreatDoor

namespace Go.Proofs.YthbdpfccfcceiaaGreatDoor
open Go.RowKit Go.Maps

def wrote (t : XT) (key : ByteArray) (v : ByteArray × Bool) : Option XT :=
  if (t.wr key).isSome then some { t with wr := updS t.wr key (some v) } else if t.nw < 10 then some { t with wr := updS t.wr key (some v), nw := t.nw + 1 } else none

section
variable {own own' : Nat → Lab} {c : Nat} {w w' : World} {p : Nat} {s : XS} {mo ph mv mm : Nat} {pt mw : Int → Nat} {sl : ByteArray → Value}

theorem XR.rewrite (h : XR own c w p s mo ph mv mm pt mw sl) (tx : Int) (t t' : XT) (e : s.txs tx = some t) (hb : ∀ b, b < w.heap.size → b ≠ mw tx → w'.heap[b]? = w.heap[b]?) (hs : t'.sees = t.sees)
    (hw : fmap w' Tryz.prog 9 (mw tx) t'.nw (encS fun k => (t'.wr k).map encVer)) : XR own c w' p { s with txs := updI s.txs tx (some t') } mo ph mv mm pt mw sl := by
  have lp := block_lt h.store; have lh := block_lt h.hist; have lo := h.opn.lt; have lv := h.vers.lt; have lm := h.moms.lt
  have hl := (h.ownT tx t e).2
  have eo : (fun n => ((updI s.txs tx (some t')) n).map fun _ => Value.pointer (some ⟨pt n, 0, none⟩)) = fun n => (s.txs n).map fun _ => Value.pointer (some ⟨pt n, 0, none⟩) := by
    funext n
    by_cases en : n = tx
    · subst en; simp [updI, e]
    · simp [updI, en]
  refine ⟨h.ownP, h.ownO, h.ownH, h.ownV, h.ownM, ?_, ?_, ?_, ?_, ?_, ?_, ?_, ?_, h.ownR, fun k hk => ?_, h.log.frame (fun b hlt _ hk => hb b hlt (lab_k hl hk (by omega))) (fun _ _ _ _ => rfl), h.bks.frame (fun b hlt _ hk => hb b hlt (lab_u hl hk (by omega))) (fun _ _ _ _ => rfl)⟩
  · exact (hb p lp (lab_ne (own := own) (by rw [h.ownP, hl]; simp))).trans h.store
  · exact (hb ph lh (lab_ne (own := own) (by rw [h.ownH, hl]; simp))).trans h.hist
  · show fmap w' _ _ _ _ (encI fun n => ((updI s.txs tx (some t')) n).map fun _ => Value.pointer (some ⟨pt n, 0, none⟩))
    rw [eo]
    exact h.opn.of_block (hb mo lo (lab_ne (own := own) (by rw [h.ownO, hl]; simp)))
  · intro n t1 e1
    by_cases en : n = tx
    · subst en; exact h.ownT n t e
    · simp only [updI, en, if_false] at e1; exact h.ownT n t1 e1
  · intro n t1 e1
    by_cases en : n = tx
    · subst en
      simp only [updI_same, Option.some.injEq] at e1
      subst e1
      rw [hs]
      exact (hb _ (block_lt (h.tx n t e)) (lab_ne (own := own) (by rw [(h.ownT n t e).1, hl]; simp))).trans (h.tx n t e)
    · simp only [updI, en, if_false] at e1
      exact (hb _ (block_lt (h.tx n t1 e1)) (lab_ne (own := own) (by rw [(h.ownT n t1 e1).1, hl]; simp))).trans (h.tx n t1 e1)
  · intro n t1 e1
    by_cases en : n = tx
    · subst en
      simp only [updI_same, Option.some.injEq] at e1
      subst e1
      exact hw
    · simp only [updI, en, if_false] at e1
      exact (h.wr n t1 e1).of_block (hb _ (h.wr n t1 e1).lt (lab_ne (own := own) (by rw [(h.ownT n t1 e1).2, hl]; simp [en])))
  · exact h.vers.of_block (hb mv lv (lab_ne (own := own) (by rw [h.ownV, hl]; simp)))
  · exact h.moms.of_block (hb mm lm (lab_ne (own := own) (by rw [h.ownM, hl]; simp)))
  · have h0 := h.row k hk
    refine ⟨h0.1, ?_⟩
    rcases h0.2 with h1 | ⟨g, cap, cur, e, hg0, hg, r⟩
    · exact Or.inl h1
    · exact Or.inr ⟨g, cap, cur, e, hg0, (hb g (block_lt hg) (lab_ne (own := own) (by rw [h.ownR k hk g (by rw [e]; rfl), hl]; simp))).trans hg, r⟩

theorem XR.kept (h : XR own c w p s mo ph mv mm pt mw sl) (hk : Kp (fun _ => False) w w') : XR own c w' p s mo ph mv mm pt mw sl :=
  h.frame (fun b hb _ => hk.block b hb (fun e => e)) (fun _ _ _ => rfl)

theorem map_updS (g : ByteArray → Option (ByteArray × Bool)) (k : ByteArray) (v : ByteArray × Bool) : (fun n => ((updS g k (some v)) n).map encVer) = updS (fun n => (g n).map encVer) k (some (encVer v)) := by
  funext n
  by_cases e : n = k
  · subst e; simp [updS]
  · simp [updS, e]

variable {R : Ending → World → Prop}

theorem x_write (h : XR own c w p s mo ph mv mm pt mw sl) (tx : Int) (t : XT) (e : s.txs tx = some t) (key val : ByteArray) (g : Bool) (hk : isKey key = true) (hnw : t.nw ≤ 10)
    (h0 : wrote t key (val, g) = none → ∀ w', Kp (fun _ => False) w w' → R (.returned (.int .i64 3)) w')
    (h1 : ∀ t', wrote t key (val, g) = some t' → ∀ w', Kp (fun b => b = mw tx) w w' → XR own c w' p { s with txs := updI s.txs tx (some t') } mo ph mv mm pt mw sl → R (.returned (.int .i64 0)) w') :
    Calls Tryz.prog 69 #[.pointer (some ⟨pt tx, 0, none⟩), .string key, .agg #[.string val, .bool g]] w R := by
  have hlen := isKey_le key hk
  have c1 : w.cell? ⟨pt tx, 1, none⟩ = some (.map (some (mw tx))) := cell_of (h.tx tx t e) 1
  have hw := h.wr tx t e
  have hp : IsPut (encS fun k => (t.wr k).map encVer) (.string key) (.agg #[.string val, .bool g]) (encS fun k => ((updS t.wr key (some (val, g))) k).map encVer) := by
    rw [map_updS]; exact put_encS _ _ _
  cases ek : t.wr key with
  | some v0 =>
    have hwr : wrote t key (val, g) = some { t with wr := updS t.wr key (some (val, g)) } := by simp [wrote, ek]
    refine write_again (pt tx) (mw tx) t.nw _ key val g w c1 hw hlen v0.1 v0.2 (by rw [encS_at, ek]; rfl) (by omega) hp (fun w' hk hf => h1 _ hwr w' hk (h.rewrite tx t _ e (fun b hb hne => hk.block b hb hne) rfl hf))
  | none =>
    by_cases hn : t.nw < 10
    · have hwr : wrote t key (val, g) = some { t with wr := updS t.wr key (some (val, g)), nw := t.nw + 1 } := by simp [wrote, ek, hn]
      refine write_new (pt tx) (mw tx) t.nw _ key val g w c1 hw hlen (by rw [encS_at, ek]; rfl) (by omega) hp (fun w' hk hf => h1 _ hwr w' hk (h.rewrite tx t _ e (fun b hb hne => hk.block b hb hne) rfl hf))
    · have hwr : wrote t key (val, g) = none := by simp [wrote, ek, hn]
      refine write_full (pt tx) (mw tx) t.nw _ key val g w c1 hw (by unfold maxLen; omega) (by rw [encS_at, ek]; rfl) (by omega) (fun w' hk => h0 hwr w' hk)

theorem Kp.own_of {S : Nat → Prop} (hk : Kp S w w') (hs : ∀ b, S b → (own b).c = c) : Kp (fun b => (own b).c = c) w w' := hk.mono (fun b _ h => hs b h)

theorem x_put (h : XR own c w p s mo ph mv mm pt mw sl) (tx : Int) (hwx : (Lit.int .i64 tx).wf = true) (key val : ByteArray) (hkl : key.size ≤ maxLen) (hvl : val.size ≤ maxLen) (hnw : ∀ n t, s.txs n = some t → t.nw ≤ 10)
    (h0 : s.txs tx = none → R (.returned (.int .i64 2)) w)
    (h1 : ∀ t, s.txs tx = some t → (isKey key && decide (val.size ≤ 20)) = false → R (.returned (.int .i64 1)) w)
    (h2 : ∀ t, s.txs tx = some t → (isKey key && decide (val.size ≤ 20)) = true → wrote t key (val, false) = none → ∀ w', Kp (fun b => (own b).c = c) w w' → XR own c w' p s mo ph mv mm pt mw sl → R (.returned (.int .i64 3)) w')
    (h3 : ∀ t t', s.txs tx = some t → (isKey key && decide (val.size ≤ 20)) = true → wrote t key (val, false) = some t' → ∀ w', Kp (fun b => (own b).c = c) w w' → XR own c w' p { s with txs := updI s.txs tx (some t') } mo ph mv mm pt mw sl → R (.returned (.int .i64 0)) w') :
    Calls Tryz.prog 35 #[.pointer (some ⟨p, 0, none⟩), .int .i64 tx, .string key, .string val] w R := by
  have c2 : w.cell? ⟨p, 7, none⟩ = some (.map (some mo)) := cell_of h.store 7
  cases e : s.txs tx with
  | none => exact put_none p mo s.nopen _ tx key val w c2 h.opn hwx (by rw [encI_at, e]; rfl) (h0 e)
  | some t =>
    cases hb : (isKey key && decide (val.size ≤ 20)) with
    | false => exact put_bad p mo s.nopen _ tx key val w c2 h.opn hwx ⟨pt tx, 0, none⟩ (by rw [encI_at, e]; rfl) hkl hvl hb (h1 t e hb)
    | true =>
      have hb' : isKey key = true ∧ val.size ≤ 20 := by simpa using hb
      refine put_good p mo s.nopen (pt tx) _ tx key val w c2 h.opn hwx (by rw [encI_at, e]; rfl) hb'.1 hb'.2 (fun w1 hk1 => ?_)
      have hx1 := h.kept hk1
      refine x_write hx1 tx t e key val false hb'.1 (hnw tx t e) (fun hn w2 hk2 => ⟨3, rfl, ?_⟩) (fun t' ht w2 hk2 hx2 => ⟨0, rfl, ?_⟩)
      · exact h2 t e hb hn w2 ((hk1.trans hk2 (fun _ _ h => h)).own_of (fun _ h => h.elim)) (hx1.kept hk2)
      · exact h3 t t' e hb ht w2 ((hk1.mono (S' := fun b => b = mw tx) (fun _ _ h => h.elim)).trans hk2 (fun _ _ h => h) |>.own_of (fun b hb => by rw [hb, (h.ownT tx t e).2])) hx2

theorem x_delete (h : XR own c w p s mo ph mv mm pt mw sl) (tx : Int) (hwx : (Lit.int .i64 tx).wf = true) (key : ByteArray) (hkl : key.size ≤ maxLen) (hnw : ∀ n t, s.txs n = some t → t.nw ≤ 10)
    (h0 : s.txs tx = none → R (.returned (.int .i64 2)) w)
    (h1 : ∀ t, s.txs tx = some t → isKey key = false → R (.returned (.int .i64 1)) w)
    (h2 : ∀ t, s.txs tx = some t → isKey key = true → wrote t key (eb, true) = none → ∀ w', Kp (fun b => (own b).c = c) w w' → XR own c w' p s mo ph mv mm pt mw sl → R (.returned (.int .i64 3)) w')
    (h3 : ∀ t t', s.txs tx = some t → isKey key = true → wrote t key (eb, true) = some t' → ∀ w', Kp (fun b => (own b).c = c) w w' → XR own c w' p { s with txs := updI s.txs tx (some t') } mo ph mv mm pt mw sl → R (.returned (.int .i64 0)) w') :
    Calls Tryz.prog 73 #[.pointer (some ⟨p, 0, none⟩), .int .i64 tx, .string key] w R := by
  have c2 : w.cell? ⟨p, 7, none⟩ = some (.map (some mo)) := cell_of h.store 7
  cases e : s.txs tx with
  | none => exact delete_none p mo s.nopen _ tx key w c2 h.opn hwx (by rw [encI_at, e]; rfl) (h0 e)
  | some t =>
    cases hb : isKey key with
    | false => exact delete_bad p mo s.nopen _ tx key w c2 h.opn hwx ⟨pt tx, 0, none⟩ (by rw [encI_at, e]; rfl) hkl hb (h1 t e hb)
    | true =>
      refine delete_good p mo s.nopen (pt tx) _ tx key w c2 h.opn hwx (by rw [encI_at, e]; rfl) hb ?_
      refine x_write h tx t e key eb true hb (hnw tx t e) (fun hn w2 hk2 => ⟨3, rfl, ?_⟩) (fun t' ht w2 hk2 hx2 => ⟨0, rfl, ?_⟩)
      · exact h2 t e hb hn w2 (hk2.own_of (fun _ h => h.elim)) (h.kept hk2)
      · exact h3 t t' e hb ht w2 (hk2.own_of (fun b hb => by rw [hb, (h.ownT tx t e).2])) hx2

end

end Go.Proofs.YthbdpfccfcceiaaGreatDoor
