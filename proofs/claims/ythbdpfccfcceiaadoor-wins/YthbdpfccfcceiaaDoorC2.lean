/-
  Commit of a store, told of its plain state.
-/
import Derived.Test.YthbdpfccfcceiaaDoorC1
namespace Go.Proofs.YthbdpfccfcceiaaDoor
open Go.RowKit Go.Maps

/-- A store of which some of what a transaction wrote is taken in at the next moment: all but the keys that are left. -/
def comm (s : XS) (t : XT) (left : Value → Bool) (nv nm : Nat) : XS :=
  { s with now := s.now + 1, mom := fun k => if ((t.wr k).isSome && !left (.string k)) = true then s.mom k ++ [s.now + 1] else s.mom k, ver := fun k m => if m = s.now + 1 ∧ ((t.wr k).isSome && !left (.string k)) = true then t.wr k else s.ver k m, nv := nv, nm := nm }

theorem comm_start (s : XS) (t : XT) (left : Value → Bool) (h : ∀ k, left (.string k) = (t.wr k).isSome) : comm s t left s.nv s.nm = { s with now := s.now + 1 } := by
  have : ∀ k, ((t.wr k).isSome && !left (.string k)) = false := fun k => by rw [h k]; cases (t.wr k).isSome <;> rfl
  simp [comm, this]

theorem comm_step (s : XS) (t : XT) (left left' : Value → Bool) (nv nm nv' nm' : Nat) (k : ByteArray) (v : ByteArray × Bool) (hk : t.wr k = some v) (hl : left (.string k) = true) (hl1 : left' (.string k) = false) (hl2 : ∀ z, z ≠ .string k → left' z = left z) :
    { comm s t left nv nm with mom := updS (comm s t left nv nm).mom k ((comm s t left nv nm).mom k ++ [s.now + 1]), ver := updP (comm s t left nv nm).ver k (s.now + 1) (some v), nv := nv', nm := nm' } = comm s t left' nv' nm' := by
  have hne : ∀ a : ByteArray, a ≠ k → Value.string a ≠ Value.string k := fun a ha e => ha (by injection e)
  simp only [comm, XS.mk.injEq, true_and, and_true]
  refine ⟨?_, ?_⟩
  · funext a
    by_cases e : a = k
    · subst e; simp [updS, hk, hl, hl1]
    · simp [updS, e, hl2 _ (hne a e)]
  · funext a m
    by_cases e : a = k
    · subst e
      by_cases em : m = s.now + 1
      · subst em; simp [updP, hk, hl1]
      · simp [updP, em]
    · simp [updP, e, hl2 _ (hne a e)]

section
variable {own own' : Nat → Lab} {c : Nat} {w w' : World} {p : Nat} {s : XS} {mo ph mv mm : Nat} {pt mw : Int → Nat} {sl : ByteArray → Value}

theorem XR.tick (h : XR own c w p s mo ph mv mm pt mw sl) (n : Int) : XR own c (w.setCell ⟨p, 2, none⟩ (.int .i64 n)) p { s with now := n } mo ph mv mm pt mw sl := by
  have hb : ∀ b, b ≠ p → (w.setCell ⟨p, 2, none⟩ (.int .i64 n)).heap[b]? = w.heap[b]? := fun b hb => Below.heap_setCell w _ _ b hb
  refine ⟨h.ownP, h.ownO, h.ownH, h.ownV, h.ownM, ?_, ?_, ?_, h.ownT, ?_, ?_, ?_, ?_, h.ownR, fun k hk => ?_, h.log.frame (fun b _ _ hk => hb b (lab_k h.ownP hk (by omega))) (fun _ _ _ _ => rfl), h.bks.frame (fun b _ _ hk => hb b (lab_u h.ownP hk (by omega))) (fun _ _ _ _ => rfl)⟩
  · rw [heap_setCell_at h.store]; rfl
  · exact (hb ph (lab_ne (own := own) (by rw [h.ownH, h.ownP]; simp))).trans h.hist
  · exact h.opn.of_block (hb mo (lab_ne (own := own) (by rw [h.ownO, h.ownP]; simp)))
  · intro n t e
    exact (hb _ (lab_ne (own := own) (by rw [(h.ownT n t e).1, h.ownP]; simp))).trans (h.tx n t e)
  · intro n t e
    exact (h.wr n t e).of_block (hb _ (lab_ne (own := own) (by rw [(h.ownT n t e).2, h.ownP]; simp)))
  · exact h.vers.of_block (hb mv (lab_ne (own := own) (by rw [h.ownV, h.ownP]; simp)))
  · exact h.moms.of_block (hb mm (lab_ne (own := own) (by rw [h.ownM, h.ownP]; simp)))
  · have h0 := h.row k hk
    refine ⟨h0.1, ?_⟩
    rcases h0.2 with h1 | ⟨g, cap, cur, e, hg0, hg, r⟩
    · exact Or.inl h1
    · exact Or.inr ⟨g, cap, cur, e, hg0, (hb g (lab_ne (own := own) (by rw [h.ownR k hk g (by rw [e]; rfl), h.ownP]; simp))).trans hg, r⟩

theorem XR.setHor (h : XR own c w p s mo ph mv mm pt mw sl) (n : Int) : XR own c (w.setCell ⟨p, 1, none⟩ (.int .i64 n)) p { s with hor := n } mo ph mv mm pt mw sl := by
  have hb : ∀ b, b ≠ p → (w.setCell ⟨p, 1, none⟩ (.int .i64 n)).heap[b]? = w.heap[b]? := fun b hb => Below.heap_setCell w _ _ b hb
  refine ⟨h.ownP, h.ownO, h.ownH, h.ownV, h.ownM, ?_, ?_, ?_, h.ownT, ?_, ?_, ?_, ?_, h.ownR, fun k hk => ?_, h.log.frame (fun b _ _ hk => hb b (lab_k h.ownP hk (by omega))) (fun _ _ _ _ => rfl), h.bks.frame (fun b _ _ hk => hb b (lab_u h.ownP hk (by omega))) (fun _ _ _ _ => rfl)⟩
  · rw [heap_setCell_at h.store]; rfl
  · exact (hb ph (lab_ne (own := own) (by rw [h.ownH, h.ownP]; simp))).trans h.hist
  · exact h.opn.of_block (hb mo (lab_ne (own := own) (by rw [h.ownO, h.ownP]; simp)))
  · intro n t e
    exact (hb _ (lab_ne (own := own) (by rw [(h.ownT n t e).1, h.ownP]; simp))).trans (h.tx n t e)
  · intro n t e
    exact (h.wr n t e).of_block (hb _ (lab_ne (own := own) (by rw [(h.ownT n t e).2, h.ownP]; simp)))
  · exact h.vers.of_block (hb mv (lab_ne (own := own) (by rw [h.ownV, h.ownP]; simp)))
  · exact h.moms.of_block (hb mm (lab_ne (own := own) (by rw [h.ownM, h.ownP]; simp)))
  · have h0 := h.row k hk
    refine ⟨h0.1, ?_⟩
    rcases h0.2 with h1 | ⟨g, cap, cur, e, hg0, hg, r⟩
    · exact Or.inl h1
    · exact Or.inr ⟨g, cap, cur, e, hg0, (hb g (lab_ne (own := own) (by rw [h.ownR k hk g (by rw [e]; rfl), h.ownP]; simp))).trans hg, r⟩

variable {R : Ending → World → Prop}

set_option maxRecDepth 20000 in
set_option maxHeartbeats 400000 in
theorem commit_none (p mo n : Nat) (f : Value → Option Value) (tx : Int) (w : World) (c2 : w.cell? ⟨p, 7, none⟩ = some (.map (some mo))) (hown : fmap w Tryd.prog 3 mo n f) (hwx : (Lit.int .i64 tx).wf = true) (hf : f (.int .i64 tx) = none)
    (hR : R (.returned (.tuple #[.int .i64 0, .int .i64 2])) w) :
    Calls Tryd.prog 18 #[.pointer (some ⟨p, 0, none⟩), .int .i64 tx] w R := by
  have hkey : Hid _ := keyOf_int_mk Tryd.underlying3 hwx
  go_enter Tryd.func18, Tryd.ntmps18
  go_wp2_with (first
    | (at_lookup; refine wpL_lookup_ok _ rfl _ _ 61 rfl 3 65 kInt Tryd.underlying61 (zTxP _) mo n f rfl hown (.int .i64 tx) _ rfl hkey.out _ hf ?_)
    | go_in)
  exact hR

/-- What is gone of the open ones. -/
theorem gone_opn (s : XS) (tx : Int) (pt : Int → Nat) : IsDel (encI fun n => (s.txs n).map fun _ => Value.pointer (some ⟨pt n, 0, none⟩)) (.int .i64 tx) (encI fun n => ((updI s.txs tx none) n).map fun _ => Value.pointer (some ⟨pt n, 0, none⟩)) := by
  rw [map_updI]; exact del_encI _ _

theorem sub_upd {txs : Int → Option XT} {tx : Int} : ∀ n t, (updI txs tx none) n = some t → txs n = some t := fun n t e => by
  by_cases en : n = tx
  · subst en; rw [updI_same] at e; cases e
  · rw [updI_other _ en] at e; exact e

set_option maxRecDepth 20000 in
set_option maxHeartbeats 400000 in
theorem x_commit_empty (h : XR own c w p s mo ph mv mm pt mw sl) (tx : Int) (hwx : (Lit.int .i64 tx).wf = true) (t : XT) (e : s.txs tx = some t) (hnw : t.nw = 0)
    (hR : ∀ w', Kp (fun b => (own b).c = c) w w' → XR own c w' p { s with txs := updI s.txs tx none, nopen := s.nopen - 1 } mo ph mv mm pt mw sl → R (.returned (.tuple #[.int .i64 t.sees, .int .i64 0])) w') :
    Calls Tryd.prog 18 #[.pointer (some ⟨p, 0, none⟩), .int .i64 tx] w R := by
  have hkey : Hid _ := keyOf_int_mk Tryd.underlying3 hwx
  have c2 : w.cell? ⟨p, 7, none⟩ = some (.map (some mo)) := cell_of h.store 7
  have d0 : w.cell? ⟨pt tx, 0, none⟩ = some (.int .i64 t.sees) := cell_of (h.tx tx t e) 0
  have d1 : w.cell? ⟨pt tx, 1, none⟩ = some (.map (some (mw tx))) := cell_of (h.tx tx t e) 1
  have hw := h.wr tx t e
  rw [hnw] at hw
  have hf : (encI fun n => (s.txs n).map fun _ => Value.pointer (some ⟨pt n, 0, none⟩)) (.int .i64 tx) = some (.pointer (some ⟨pt tx, 0, none⟩)) := by rw [encI_at, e]; rfl
  have H : Hid (XR own c w p s mo ph mv mm pt mw sl) := h
  have hopn := h.opn
  have nT : pt tx ≠ mo := lab_ne (own := own) (by rw [(h.ownT tx t e).1, h.ownO]; simp)
  have HR : Hid _ := hR
  have hg : Hid _ := gone_opn s tx pt
  clear h hR
  go_enter Tryd.func18, Tryd.ntmps18
  go_wp2_with (first
    | (at_lookup; refine wpL_lookup_ok _ rfl _ _ 61 rfl 3 65 kInt Tryd.underlying61 (zTxP _) mo s.nopen _ rfl hopn (.int .i64 tx) _ rfl hkey.out _ hf ?_)
    | (at_len; refine wpL_len _ rfl _ 66 rfl 9 88 Tryd.underlying66 (mw tx) 0 _ rfl hw ?_)
    | (at_delete; refine wpL_delete _ rfl _ _ 61 3 rfl 65 kInt Tryd.underlying61 mo s.nopen _ rfl hopn (.int .i64 tx) _ rfl hkey.out hg.out ?_; intro w1 hown1 hturn1; have d0' : w1.cell? ⟨pt tx, 0, none⟩ = some (.int .i64 t.sees) := (World.cell?_of_block (w := w) (mapTurned_block hturn1 _ nT)).trans d0)
    | go_in)
  rw [hf] at hown1
  exact HR.out w1 (Kp.of_turned hturn1 (by rw [H.out.ownO])) (H.out.reopen (fun b hb => mapTurned_block hturn1 b hb) _ _ hown1 sub_upd)

end

end Go.Proofs.YthbdpfccfcceiaaDoor
