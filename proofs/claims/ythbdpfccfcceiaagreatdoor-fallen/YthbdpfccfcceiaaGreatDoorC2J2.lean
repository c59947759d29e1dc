/-
  Commit of a store, told of its plain state.
  What a record says is done: (*Store).do, told of the store's plain state.
-/
import Derived.Test.YthbdpfccfcceiaaGreatDoorO1C1
import Derived.Test.YthbdpfccfcceiaaGreatDoorJ1F4
namespace Go.Proofs.YthbdpfccfcceiaaGreatDoor
open Go.RowKit Go.Maps

/-- A store of which some of what a transaction wrote is taken in at the next moment: all but the keys that are left. -/
def comm (s : XS) (t : XT) (left : Value → Bool) (nv nm : Nat) : XS :=
  { s with now := s.now + 1, mom := fun k => if ((t.wr k).isSome && !left (.string k)) = true then s.mom k ++ [s.now + 1] else s.mom k, ver := fun k m => if m = s.now + 1 ∧ ((t.wr k).isSome && !left (.string k)) = true then t.wr k else s.ver k m, nv := nv, nm := nm }

theorem comm_start (s : XS) (t : XT) (left : Value → Bool) (h : ∀ k, left (.string k) = (t.wr k).isSome) : comm s t left s.nv s.nm = { s with now := s.now + 1 } := by
  have : ∀ k, ((t.wr k).isSome && !left (.string k)) = false := fun k => by rw [h k]; cases (t.wr k).isSome <;> rfl
  simp [comm, this]

theorem comm_step (s : XS) (t : XT) (left left' : Value → Bool) (nv nm nv' nm' : Nat) (k : ByteArray) (v : ByteArray × Bool) (hk : t.wr k = some v) (hl : left (.string k) = true) (hl1 : left' (.string k) = false) (hl2 : ∀ z, z ≠ .string k → left' z = left z) :
    { comm s t left nv nm with mom := updS (comm s t left nv nm).mom k ((comm s t left nv nm).mom k ++ [s.now + 1]), ver := updP (comm s t left nv nm).ver k (s.now + 1) (some v), nv := nv', nm := nm' } = comm s t left' nv' nm' := by
  have hne : ∀ a : ByteArray, a ≠ k → Value.string a ≠ Value.string k := fun a ha e => ha (by injection e)
  simp only [comm, XS.mk.injEq, true_and, and_true]
  refine ⟨?_, ?_⟩
  · funext a
    by_cases e : a = k
    · subst e; simp [updS, hk, hl, hl1]
    · simp [updS, e, hl2 _ (hne a e)]
  · funext a m
    by_cases e : a = k
    · subst e
      by_cases em : m = s.now + 1
      · subst em; simp [updP, hk, hl1]
      · simp [updP, em]
    · simp [updP, e, hl2 _ (hne a e)]

section
variable {own own' : Nat → Lab} {c : Nat} {w w' : World} {p : Nat} {s : XS} {mo ph mv mm : Nat} {pt mw : Int → Nat} {sl : ByteArray → Value}

theorem XR.tick (h : XR own c w p s mo ph mv mm pt mw sl) (n : Int) : XR own c (w.setCell ⟨p, 2, none⟩ (.int .i64 n)) p { s with now := n } mo ph mv mm pt mw sl := by
  have hb : ∀ b, b ≠ p → (w.setCell ⟨p, 2, none⟩ (.int .i64 n)).heap[b]? = w.heap[b]? := fun b hb => Below.heap_setCell w _ _ b hb
  refine ⟨h.ownP, h.ownO, h.ownH, h.ownV, h.ownM, ?_, ?_, ?_, h.ownT, ?_, ?_, ?_, ?_, h.ownR, fun k hk => ?_, h.log.frame (fun b _ _ hk => hb b (lab_k h.ownP hk (by omega))) (fun _ _ _ _ => rfl), h.bks.frame (fun b _ _ hk => hb b (lab_u h.ownP hk (by omega))) (fun _ _ _ _ => rfl)⟩
  · rw [heap_setCell_at h.store]; rfl
  · exact (hb ph (lab_ne (own := own) (by rw [h.ownH, h.ownP]; simp))).trans h.hist
  · exact h.opn.of_block (hb mo (lab_ne (own := own) (by rw [h.ownO, h.ownP]; simp)))
  · intro n t e
    exact (hb _ (lab_ne (own := own) (by rw [(h.ownT n t e).1, h.ownP]; simp))).trans (h.tx n t e)
  · intro n t e
    exact (h.wr n t e).of_block (hb _ (lab_ne (own := own) (by rw [(h.ownT n t e).2, h.ownP]; simp)))
  · exact h.vers.of_block (hb mv (lab_ne (own := own) (by rw [h.ownV, h.ownP]; simp)))
  · exact h.moms.of_block (hb mm (lab_ne (own := own) (by rw [h.ownM, h.ownP]; simp)))
  · have h0 := h.row k hk
    refine ⟨h0.1, ?_⟩
    rcases h0.2 with h1 | ⟨g, cap, cur, e, hg0, hg, r⟩
    · exact Or.inl h1
    · exact Or.inr ⟨g, cap, cur, e, hg0, (hb g (lab_ne (own := own) (by rw [h.ownR k hk g (by rw [e]; rfl), h.ownP]; simp))).trans hg, r⟩

theorem XR.setHor (h : XR own c w p s mo ph mv mm pt mw sl) (n : Int) : XR own c (w.setCell ⟨p, 1, none⟩ (.int .i64 n)) p { s with hor := n } mo ph mv mm pt mw sl := by
  have hb : ∀ b, b ≠ p → (w.setCell ⟨p, 1, none⟩ (.int .i64 n)).heap[b]? = w.heap[b]? := fun b hb => Below.heap_setCell w _ _ b hb
  refine ⟨h.ownP, h.ownO, h.ownH, h.ownV, h.ownM, ?_, ?_, ?_, h.ownT, ?_, ?_, ?_, ?_, h.ownR, fun k hk => ?_, h.log.frame (fun b _ _ hk => hb b (lab_k h.ownP hk (by omega))) (fun _ _ _ _ => rfl), h.bks.frame (fun b _ _ hk => hb b (lab_u h.ownP hk (by omega))) (fun _ _ _ _ => rfl)⟩
  · rw [heap_setCell_at h.store]; rfl
  · exact (hb ph (lab_ne (own := own) (by rw [h.ownH, h.ownP]; simp))).trans h.hist
  · exact h.opn.of_block (hb mo (lab_ne (own := own) (by rw [h.ownO, h.ownP]; simp)))
  · intro n t e
    exact (hb _ (lab_ne (own := own) (by rw [(h.ownT n t e).1, h.ownP]; simp))).trans (h.tx n t e)
  · intro n t e
    exact (h.wr n t e).of_block (hb _ (lab_ne (own := own) (by rw [(h.ownT n t e).2, h.ownP]; simp)))
  · exact h.vers.of_block (hb mv (lab_ne (own := own) (by rw [h.ownV, h.ownP]; simp)))
  · exact h.moms.of_block (hb mm (lab_ne (own := own) (by rw [h.ownM, h.ownP]; simp)))
  · have h0 := h.row k hk
    refine ⟨h0.1, ?_⟩
    rcases h0.2 with h1 | ⟨g, cap, cur, e, hg0, hg, r⟩
    · exact Or.inl h1
    · exact Or.inr ⟨g, cap, cur, e, hg0, (hb g (lab_ne (own := own) (by rw [h.ownR k hk g (by rw [e]; rfl), h.ownP]; simp))).trans hg, r⟩

variable {R : Ending → World → Prop}

set_option maxRecDepth 20000 in
set_option maxHeartbeats 400000 in
theorem commit_none (p mo n : Nat) (f : Value → Option Value) (tx : Int) (w : World) (c2 : w.cell? ⟨p, 7, none⟩ = some (.map (some mo))) (hown : fmap w Tryz.prog 3 mo n f) (hwx : (Lit.int .i64 tx).wf = true) (hf : f (.int .i64 tx) = none)
    (hR : R (.returned (.tuple #[.int .i64 0, .int .i64 2])) w) :
    Calls Tryz.prog 36 #[.pointer (some ⟨p, 0, none⟩), .int .i64 tx] w R := by
  have hkey : Hid _ := keyOf_int_mk Tryz.underlying3 hwx
  go_enter Tryz.func36, Tryz.ntmps36
  go_wp2_with (first
    | (at_lookup; refine wpL_lookup_ok _ rfl _ _ 99 rfl 3 129 kInt Tryz.underlying99 (zTxP _) mo n f rfl hown (.int .i64 tx) _ rfl hkey.out _ hf ?_)
    | go_in)
  exact hR

/-- What is gone of the open ones. -/
theorem gone_opn (s : XS) (tx : Int) (pt : Int → Nat) : IsDel (encI fun n => (s.txs n).map fun _ => Value.pointer (some ⟨pt n, 0, none⟩)) (.int .i64 tx) (encI fun n => ((updI s.txs tx none) n).map fun _ => Value.pointer (some ⟨pt n, 0, none⟩)) := by
  rw [map_updI]; exact del_encI _ _

theorem sub_upd {txs : Int → Option XT} {tx : Int} : ∀ n t, (updI txs tx none) n = some t → txs n = some t := fun n t e => by
  by_cases en : n = tx
  · subst en; rw [updI_same] at e; cases e
  · rw [updI_other _ en] at e; exact e

set_option maxRecDepth 20000 in
set_option maxHeartbeats 400000 in
theorem x_commit_empty (h : XR own c w p s mo ph mv mm pt mw sl) (tx : Int) (hwx : (Lit.int .i64 tx).wf = true) (t : XT) (e : s.txs tx = some t) (hnw : t.nw = 0)
    (hR : ∀ w', Kp (fun b => (own b).c = c) w w' → XR own c w' p { s with txs := updI s.txs tx none, nopen := s.nopen - 1 } mo ph mv mm pt mw sl → R (.returned (.tuple #[.int .i64 t.sees, .int .i64 0])) w') :
    Calls Tryz.prog 36 #[.pointer (some ⟨p, 0, none⟩), .int .i64 tx] w R := by
  have hkey : Hid _ := keyOf_int_mk Tryz.underlying3 hwx
  have c2 : w.cell? ⟨p, 7, none⟩ = some (.map (some mo)) := cell_of h.store 7
  have d0 : w.cell? ⟨pt tx, 0, none⟩ = some (.int .i64 t.sees) := cell_of (h.tx tx t e) 0
  have d1 : w.cell? ⟨pt tx, 1, none⟩ = some (.map (some (mw tx))) := cell_of (h.tx tx t e) 1
  have hw := h.wr tx t e
  rw [hnw] at hw
  have hf : (encI fun n => (s.txs n).map fun _ => Value.pointer (some ⟨pt n, 0, none⟩)) (.int .i64 tx) = some (.pointer (some ⟨pt tx, 0, none⟩)) := by rw [encI_at, e]; rfl
  have H : Hid (XR own c w p s mo ph mv mm pt mw sl) := h
  have hopn := h.opn
  have nT : pt tx ≠ mo := lab_ne (own := own) (by rw [(h.ownT tx t e).1, h.ownO]; simp)
  have HR : Hid _ := hR
  have hg : Hid _ := gone_opn s tx pt
  clear h hR
  go_enter Tryz.func36, Tryz.ntmps36
  go_wp2_with (first
    | (at_lookup; refine wpL_lookup_ok _ rfl _ _ 99 rfl 3 129 kInt Tryz.underlying99 (zTxP _) mo s.nopen _ rfl hopn (.int .i64 tx) _ rfl hkey.out _ hf ?_)
    | (at_len; refine wpL_len _ rfl _ 130 rfl 9 138 Tryz.underlying130 (mw tx) 0 _ rfl hw ?_)
    | (at_delete; refine wpL_delete _ rfl _ _ 99 3 rfl 129 kInt Tryz.underlying99 mo s.nopen _ rfl hopn (.int .i64 tx) _ rfl hkey.out hg.out ?_; intro w1 hown1 hturn1; have d0' : w1.cell? ⟨pt tx, 0, none⟩ = some (.int .i64 t.sees) := (World.cell?_of_block (w := w) (mapTurned_block hturn1 _ nT)).trans d0)
    | go_in)
  rw [hf] at hown1
  exact HR.out w1 (Kp.of_turned hturn1 (by rw [H.out.ownO])) (H.out.reopen (fun b hb => mapTurned_block hturn1 b hb) _ _ hown1 sub_upd)

end

end Go.Proofs.YthbdpfccfcceiaaGreatDoor

namespace Go.Proofs.YthbdpfccfcceiaaGreatDoor
open Go.RowKit Go.Maps

section
variable {own own' : Nat → Lab} {c : Nat} {w w' : World} {p : Nat} {s : XS} {mo ph mv mm : Nat} {pt mw : Int → Nat} {sl : ByteArray → Value}
variable {R : Ending → World → Prop}

/-- The labels where new blocks are nobody's. -/
def outer (own : Nat → Lab) (c n : Nat) : Nat → Lab := fun b => if b < n then own b else ⟨c + 1, 99, 0, eb⟩
theorem outer_old {n b : Nat} (h : b < n) : outer own c n b = own b := by simp [outer, h]
theorem outer_new {n b : Nat} (h : n ≤ b) : (outer own c n b).c ≠ c := by
  have : ¬ b < n := by omega
  simp [outer, this]
theorem XR.outer (h : XR own c w p s mo ph mv mm pt mw sl) (hk : Kp (fun _ => False) w w') : XR (outer own c w.heap.size) c w' p s mo ph mv mm pt mw sl :=
  h.frame (fun b hb _ => hk.block b hb (fun e => e)) (fun _ hb _ => outer_old hb)
theorem TabN.outer (h : TabN own c) (hT : Tab w) : TabN (outer own c w.heap.size) c := by
  unfold TabN
  rw [outer_old hT.lt.1, outer_old hT.lt.2]
  exact h

set_option maxRecDepth 20000 in
set_option maxHeartbeats 2000000 in
theorem x_do_hor (h : XR own c w p s mo ph mv mm pt mw sl) (hT : Tab w) (hN : TabN own c) (t : Nat) (ht : t < 4294967296) (hl : s.log.lg.length ≤ 4999) (hbs : ∀ b ∈ s.log.lg, b.length ≤ 400)
    (hR : ∀ w' own' l', Kp (fun b => (own b).c = c) w w' → (∀ b, b < w.heap.size → own' b = own b) → l'.lg = s.log.lg ++ [bodyH t] → l'.sy = s.log.sy →
      XR own' c w' p { s with hor := t, log := l' } mo ph mv mm pt mw sl → R (.returned (.tuple #[])) w') :
    Calls Tryz.prog 46 #[.pointer (some ⟨p, 0, none⟩), .agg #[.int .u8 72, .int .i64 t, .slice none 0 0]] w R := by
  have H0 := hid_of h
  have HT := hid_of hT
  have HN := hid_of hN
  have HR := hid_of hR
  have HL := hid_of hl
  have HBS := hid_of hbs
  have HTT := hid_of ht
  have b0 : (w.alloc (.cells #[.int .u8 72, .int .i64 t, .slice none 0 0] 110)).cell? ⟨w.heap.size, 0, none⟩ = some (.int .u8 72) := by go_simp
  have b1 : (w.alloc (.cells #[.int .u8 72, .int .i64 t, .slice none 0 0] 110)).cell? ⟨w.heap.size, 1, none⟩ = some (.int .i64 t) := by go_simp
  have b2 : (w.alloc (.cells #[.int .u8 72, .int .i64 t, .slice none 0 0] 110)).cell? ⟨w.heap.size, 2, none⟩ = some (.slice none 0 0) := by go_simp
  have HKA : Hid (Kp (fun _ => False) w (w.alloc (.cells #[.int .u8 72, .int .i64 t, .slice none 0 0] 110))) := Kp.alloc _ _ _
  clear h hT hN hR hl hbs ht
  go_enter Tryz.func46, Tryz.ntmps46
  go_wp2_with fail
  generalize w.alloc (.cells #[.int .u8 72, .int .i64 t, .slice none 0 0] 110) = A at b0 b1 b2 HKA ⊢
  go_region_law (refine step_call rfl 78 _ _ _ rfl Tryz.func78 (by kernel_rfl) (by kernel_rfl) _ (by simp [Act.eval]; rfl) ?_; refine x_jadd (H0.out.outer (HKA.out.trans (Kp.drew _ _) (fun _ _ h => h))) (HT.out.kept (HKA.out.trans (Kp.drew _ _) (fun _ _ h => h))) (HN.out.outer HT.out) 72 t (.slice none 0 0) (bodyH t) HL.out HBS.out (by rw [bodyH_length]; omega) rfl (Or.inl ⟨t, .slice none 0 0, HTT.out, rfl, rfl, rfl⟩) (fun b e => by simp [Value.ownBlock] at e) ?_; intro w1 own1 l1 hk1 ho1 _ hl1 hs1 hx1; have H1 := hid_of hx1; have HK1 := hid_of hk1; have HO1 := hid_of ho1; have HL1 := hid_of hl1; have HS1 := hid_of hs1; have d0 : w1.cell? ⟨w.heap.size, 0, none⟩ = some (.int .u8 72) := (hk1.cell (a := ⟨w.heap.size, 0, none⟩) (World.block_lt_of_cell? A _ b0) (fun e => outer_new (Nat.le_refl _) e.1)).trans b0; have d1 : w1.cell? ⟨w.heap.size, 1, none⟩ = some (.int .i64 t) := (hk1.cell (a := ⟨w.heap.size, 1, none⟩) (World.block_lt_of_cell? A _ b1) (fun e => outer_new (Nat.le_refl _) e.1)).trans b1; have c1 : w1.cell? ⟨p, 1, none⟩ = some (.int .i64 s.hor) := cell_of hx1.store 1; have f1 : w1.frozen? ⟨p, 1, none⟩ = false := frozen_of hx1.store 1; clear hk1 ho1 hl1 hs1 hx1; refine ⟨_, rfl, ?_⟩)
  all_goals
    clear b0 b1 b2
    go_wp2_with fail
    refine bodyPost_ret (results_none rfl _ _ _) rfl ?_
    refine HR.out _ own1 l1 ((((HKA.out.mono (fun _ _ h => h.elim)).trans (Kp.drew _ _) (fun _ _ h => h)).trans HK1.out (fun b hb e => ?_)).trans (Kp.setCell (S := fun b => (own b).c = c) w1 _ _ (by show (own p).c = c; rw [H0.out.ownP])) (fun _ _ h => h)) (fun b hb => ?_) HL1.out HS1.out (H1.out.setHor t)
    · have := e.1; rw [outer_old hb] at this; exact this
    · rw [HO1.out b (Nat.lt_of_lt_of_le hb HKA.out.size), outer_old hb]

end

end Go.Proofs.YthbdpfccfcceiaaGreatDoor
