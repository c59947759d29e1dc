/-
  A store in memory, the blocks that bear it left unsaid; and which blocks are not its own.
  Commit of a store: overtaken; no more room.
  What a record says is done: (*Store).do, told of the store's plain state.
-/
import Derived.Test.YthbdpfccfcceiaaDoorJ1
import Derived.Test.YthbdpfccfcceiaaDoorC2
namespace Go.Proofs.YthbdpfccfcceiaaDoor
open Go.RowKit

def XE (own : Nat → Lab) (c : Nat) (w : World) (p : Nat) (s : XS) : Prop := ∃ mo ph mv mm pt mw sl, XR own c w p s mo ph mv mm pt mw sl

section
variable {own own' : Nat → Lab} {c : Nat} {w w' : World} {p : Nat} {s s' : XS} {N M : Nat → Prop}

theorem XE.frame (h : XE own c w p s) (hb : ∀ b, b < w.heap.size → (own b).c = c → w'.heap[b]? = w.heap[b]?) (ho : ∀ b, b < w.heap.size → (own b).c = c → own' b = own b) : XE own' c w' p s := by
  obtain ⟨mo, ph, mv, mm, pt, mw, sl, h⟩ := h
  exact ⟨mo, ph, mv, mm, pt, mw, sl, h.frame hb ho⟩

/-- A store, and blocks that are not its own. -/
structure Ns (N : Nat → Prop) (own : Nat → Lab) (w : World) : Prop where
  out : ∀ b, N b → b < w.heap.size ∧ (own b).c ≠ 2
  tab : Tab w
  tabN : TabN own 2
def St (N : Nat → Prop) (w : World) (p : Nat) (s : XS) : Prop := ∃ own, XE own 2 w p s ∧ Ns N own w

theorem St.read (h : St N w p s) (k : Kp (fun _ => False) w w') (hM : ∀ b, M b → N b ∨ (w.heap.size ≤ b ∧ b < w'.heap.size)) : St M w' p s := by
  obtain ⟨own, hx, hN⟩ := h
  refine ⟨fun b => if b < w.heap.size then own b else ⟨0, 9, 0, eb⟩, hx.frame (fun b hb _ => k.block b hb (fun e => e)) (fun b hb _ => by simp [hb]), fun b hb => ?_, hN.tab.kept k, by unfold TabN; simp only [hN.tab.lt.1, hN.tab.lt.2, if_true]; exact hN.tabN⟩
  rcases hM b hb with h1 | ⟨h1, h2⟩
  · have h2 := hN.out b h1
    have := k.size
    refine ⟨by omega, ?_⟩
    simp only [h2.1, if_true]
    exact h2.2
  · refine ⟨h2, ?_⟩
    have : ¬ b < w.heap.size := by omega
    simp [this]

theorem St.kept (h : St N w p s) (k : Kp (fun _ => False) w w') : St N w' p s := h.read k (fun _ h => Or.inl h)

theorem St.up (_hx : XE own 2 w p s) (hN : Ns N own w) (k : Kp (fun b => (own b).c = 2) w w') (ho : ∀ b, b < w.heap.size → own' b = own b) (hx' : XE own' 2 w' p s') : St N w' p s' ∧ Kp (fun b => ¬ N b) w w' := by
  refine ⟨⟨own', hx', fun b hb => ?_, hN.tab.kp k hN.tabN.1 hN.tabN.2, by unfold TabN; rw [ho 0 hN.tab.lt.1, ho 1 hN.tab.lt.2]; exact hN.tabN⟩, k.mono (fun b _ e hn => (hN.out b hn).2 e)⟩
  have h1 := hN.out b hb
  have := k.size
  refine ⟨by omega, ?_⟩
  rw [ho b h1.1]; exact h1.2

end

end Go.Proofs.YthbdpfccfcceiaaDoor

namespace Go.Proofs.YthbdpfccfcceiaaDoor
open Go.RowKit Go.Maps

section
variable {own own' : Nat → Lab} {c : Nat} {w w' : World} {p : Nat} {s : XS} {mo ph mv mm : Nat} {pt mw : Int → Nat} {sl : ByteArray → Value}
variable {R : Ending → World → Prop}

set_option maxRecDepth 20000 in
set_option maxHeartbeats 400000 in
theorem x_commit_over (h : XR own c w p s mo ph mv mm pt mw sl) (tx : Int) (hwx : (Lit.int .i64 tx).wf = true) (t : XT) (e : s.txs tx = some t) (hnw : 0 < t.nw) (hkeys : ∀ k, (t.wr k).isSome = true → k.size ≤ 8) (hmom : ∀ k, (s.mom k).length < 1000000) (hov : overt s t)
    (hR : ∀ w', Kp (fun b => (own b).c = c) w w' → XR own c w' p { s with txs := updI s.txs tx none, nopen := s.nopen - 1 } mo ph mv mm pt mw sl → R (.returned (.tuple #[.int .i64 0, .int .i64 4])) w') :
    Calls Tryd.prog 18 #[.pointer (some ⟨p, 0, none⟩), .int .i64 tx] w R := by
  have hkey : Hid _ := keyOf_int_mk Tryd.underlying3 hwx
  have c2 : w.cell? ⟨p, 7, none⟩ = some (.map (some mo)) := cell_of h.store 7
  have d1 : w.cell? ⟨pt tx, 1, none⟩ = some (.map (some (mw tx))) := cell_of (h.tx tx t e) 1
  have hw := h.wr tx t e
  have hf : (encI fun n => (s.txs n).map fun _ => Value.pointer (some ⟨pt n, 0, none⟩)) (.int .i64 tx) = some (.pointer (some ⟨pt tx, 0, none⟩)) := by rw [encI_at, e]; rfl
  have H : Hid (XR own c w p s mo ph mv mm pt mw sl) := h
  have hopn := h.opn
  have HR : Hid _ := hR
  have hg : Hid _ := gone_opn s tx pt
  have hn : (t.nw : Int) ≠ 0 := by omega
  have hn' : ((t.nw : Int) == 0) = false := by simpa using hn
  clear h hR hnw hn
  go_enter Tryd.func18, Tryd.ntmps18
  go_wp2_with (first
    | (at_lookup; refine wpL_lookup_ok _ rfl _ _ 61 rfl 3 65 kInt Tryd.underlying61 (zTxP _) mo s.nopen _ rfl hopn (.int .i64 tx) _ rfl hkey.out _ hf ?_)
    | (at_len; refine wpL_len _ rfl _ 66 rfl 9 88 Tryd.underlying66 (mw tx) t.nw _ rfl hw ?_)
    | (go_at_call 32; refine x_overtaken H.out tx t e hkeys hmom (fun hno => absurd hov hno) (fun _ w1 hk1 => ?_); have H1 : Hid (XR own c w1 p s mo ph mv mm pt mw sl) := H.out.kept hk1; have hopn1 := H1.out.opn; have c2' : w1.cell? ⟨p, 7, none⟩ = some (.map (some mo)) := cell_of H1.out.store 7)
    | (at_delete; refine wpL_delete _ rfl _ _ 61 3 rfl 65 kInt Tryd.underlying61 mo s.nopen _ rfl hopn1 (.int .i64 tx) _ rfl hkey.out hg.out ?_; intro w2 hown2 hturn2)
    | go_in)
  rw [hf] at hown2
  exact HR.out w2 ((hk1.own_of (fun _ h => h.elim)).trans (Kp.of_turned (S := fun b => (own b).c = c) hturn2 (by rw [H.out.ownO])) (fun _ _ h => h)) (H1.out.reopen (fun b hb => mapTurned_block hturn2 b hb) _ _ hown2 sub_upd)

set_option maxRecDepth 20000 in
set_option maxHeartbeats 400000 in
theorem x_commit_full (h : XR own c w p s mo ph mv mm pt mw sl) (tx : Int) (hwx : (Lit.int .i64 tx).wf = true) (t : XT) (e : s.txs tx = some t) (hnw : 0 < t.nw) (hkeys : ∀ k, (t.wr k).isSome = true → k.size ≤ 8) (hmom : ∀ k, (s.mom k).length < 1000000) (hov : ¬ overt s t) (hnow : 2000 ≤ s.now)
    (hR : ∀ w', Kp (fun _ => False) w w' → R (.returned (.tuple #[.int .i64 0, .int .i64 3])) w') :
    Calls Tryd.prog 18 #[.pointer (some ⟨p, 0, none⟩), .int .i64 tx] w R := by
  have hkey : Hid _ := keyOf_int_mk Tryd.underlying3 hwx
  have c2 : w.cell? ⟨p, 7, none⟩ = some (.map (some mo)) := cell_of h.store 7
  have d1 : w.cell? ⟨pt tx, 1, none⟩ = some (.map (some (mw tx))) := cell_of (h.tx tx t e) 1
  have hw := h.wr tx t e
  have hf : (encI fun n => (s.txs n).map fun _ => Value.pointer (some ⟨pt n, 0, none⟩)) (.int .i64 tx) = some (.pointer (some ⟨pt tx, 0, none⟩)) := by rw [encI_at, e]; rfl
  have H : Hid (XR own c w p s mo ph mv mm pt mw sl) := h
  have hopn := h.opn
  have HR : Hid _ := hR
  have hn : (t.nw : Int) ≠ 0 := by omega
  have hn' : ((t.nw : Int) == 0) = false := by simpa using hn
  clear h hR hnw hn
  go_enter Tryd.func18, Tryd.ntmps18
  go_wp2_with (first
    | (at_lookup; refine wpL_lookup_ok _ rfl _ _ 61 rfl 3 65 kInt Tryd.underlying61 (zTxP _) mo s.nopen _ rfl hopn (.int .i64 tx) _ rfl hkey.out _ hf ?_)
    | (at_len; refine wpL_len _ rfl _ 66 rfl 9 88 Tryd.underlying66 (mw tx) t.nw _ rfl hw ?_)
    | (go_at_call 32; refine x_overtaken H.out tx t e hkeys hmom (fun _ w1 hk1 => ?_) (fun ho => absurd ho hov); have c0' : w1.cell? ⟨p, 2, none⟩ = some (.int .i64 s.now) := cell_of (H.out.kept hk1).store 2)
    | go_in)
  exact HR.out w1 hk1

end

end Go.Proofs.YthbdpfccfcceiaaDoor

namespace Go.Proofs.YthbdpfccfcceiaaDoor
open Go.RowKit Go.Maps

section
variable {own own' : Nat → Lab} {c : Nat} {w w' : World} {p : Nat} {s : XS} {mo ph mv mm : Nat} {pt mw : Int → Nat} {sl : ByteArray → Value}
variable {R : Ending → World → Prop}

/-- The labels where new blocks are nobody's. -/
def outer (own : Nat → Lab) (c n : Nat) : Nat → Lab := fun b => if b < n then own b else ⟨c + 1, 99, 0, eb⟩
theorem outer_old {n b : Nat} (h : b < n) : outer own c n b = own b := by simp [outer, h]
theorem outer_new {n b : Nat} (h : n ≤ b) : (outer own c n b).c ≠ c := by
  have : ¬ b < n := by omega
  simp [outer, this]
theorem XR.outer (h : XR own c w p s mo ph mv mm pt mw sl) (hk : Kp (fun _ => False) w w') : XR (outer own c w.heap.size) c w' p s mo ph mv mm pt mw sl :=
  h.frame (fun b hb _ => hk.block b hb (fun e => e)) (fun _ hb _ => outer_old hb)
theorem TabN.outer (h : TabN own c) (hT : Tab w) : TabN (outer own c w.heap.size) c := by
  unfold TabN
  rw [outer_old hT.lt.1, outer_old hT.lt.2]
  exact h

set_option maxRecDepth 20000 in
set_option maxHeartbeats 2000000 in
theorem x_do_hor (h : XR own c w p s mo ph mv mm pt mw sl) (hT : Tab w) (hN : TabN own c) (t : Nat) (ht : t < 4294967296) (hl : s.log.lg.length ≤ 4999) (hbs : ∀ b ∈ s.log.lg, b.length ≤ 400)
    (hR : ∀ w' own' l', Kp (fun b => (own b).c = c) w w' → (∀ b, b < w.heap.size → own' b = own b) → l'.lg = s.log.lg ++ [bodyH t] → l'.sy = s.log.sy →
      XR own' c w' p { s with hor := t, log := l' } mo ph mv mm pt mw sl → R (.returned (.tuple #[])) w') :
    Calls Tryd.prog 33 #[.pointer (some ⟨p, 0, none⟩), .agg #[.int .u8 72, .int .i64 t, .slice none 0 0]] w R := by
  have H0 := hid_of h
  have HT := hid_of hT
  have HN := hid_of hN
  have HR := hid_of hR
  have HL := hid_of hl
  have HBS := hid_of hbs
  have HTT := hid_of ht
  have b0 : (w.alloc (.cells #[.int .u8 72, .int .i64 t, .slice none 0 0] 81)).cell? ⟨w.heap.size, 0, none⟩ = some (.int .u8 72) := by go_simp
  have b1 : (w.alloc (.cells #[.int .u8 72, .int .i64 t, .slice none 0 0] 81)).cell? ⟨w.heap.size, 1, none⟩ = some (.int .i64 t) := by go_simp
  have b2 : (w.alloc (.cells #[.int .u8 72, .int .i64 t, .slice none 0 0] 81)).cell? ⟨w.heap.size, 2, none⟩ = some (.slice none 0 0) := by go_simp
  have HKA : Hid (Kp (fun _ => False) w (w.alloc (.cells #[.int .u8 72, .int .i64 t, .slice none 0 0] 81))) := Kp.alloc _ _ _
  clear h hT hN hR hl hbs ht
  go_enter Tryd.func33, Tryd.ntmps33
  go_wp2_with fail
  generalize w.alloc (.cells #[.int .u8 72, .int .i64 t, .slice none 0 0] 81) = A at b0 b1 b2 HKA ⊢
  go_region_law (refine step_call rfl 50 _ _ _ rfl Tryd.func50 (by kernel_rfl) (by kernel_rfl) _ (by simp [Act.eval]; rfl) ?_; refine x_jadd (H0.out.outer (HKA.out.trans (Kp.drew _ _) (fun _ _ h => h))) (HT.out.kept (HKA.out.trans (Kp.drew _ _) (fun _ _ h => h))) (HN.out.outer HT.out) 72 t (.slice none 0 0) (bodyH t) HL.out HBS.out (by rw [bodyH_length]; omega) rfl (Or.inl ⟨t, .slice none 0 0, HTT.out, rfl, rfl, rfl⟩) (fun b e => by simp [Value.ownBlock] at e) ?_; intro w1 own1 l1 hk1 ho1 _ hl1 hs1 hx1; have H1 := hid_of hx1; have HK1 := hid_of hk1; have HO1 := hid_of ho1; have HL1 := hid_of hl1; have HS1 := hid_of hs1; have d0 : w1.cell? ⟨w.heap.size, 0, none⟩ = some (.int .u8 72) := (hk1.cell (a := ⟨w.heap.size, 0, none⟩) (World.block_lt_of_cell? A _ b0) (fun e => outer_new (Nat.le_refl _) e.1)).trans b0; have d1 : w1.cell? ⟨w.heap.size, 1, none⟩ = some (.int .i64 t) := (hk1.cell (a := ⟨w.heap.size, 1, none⟩) (World.block_lt_of_cell? A _ b1) (fun e => outer_new (Nat.le_refl _) e.1)).trans b1; have c1 : w1.cell? ⟨p, 1, none⟩ = some (.int .i64 s.hor) := cell_of hx1.store 1; have f1 : w1.frozen? ⟨p, 1, none⟩ = false := frozen_of hx1.store 1; clear hk1 ho1 hl1 hs1 hx1; refine ⟨_, rfl, ?_⟩)
  all_goals
    clear b0 b1 b2
    go_wp2_with fail
    refine bodyPost_ret (results_none rfl _ _ _) rfl ?_
    refine HR.out _ own1 l1 ((((HKA.out.mono (fun _ _ h => h.elim)).trans (Kp.drew _ _) (fun _ _ h => h)).trans HK1.out (fun b hb e => ?_)).trans (Kp.setCell (S := fun b => (own b).c = c) w1 _ _ (by show (own p).c = c; rw [H0.out.ownP])) (fun _ _ h => h)) (fun b hb => ?_) HL1.out HS1.out (H1.out.setHor t)
    · have := e.1; rw [outer_old hb] at this; exact this
    · rw [HO1.out b (Nat.lt_of_lt_of_le hb HKA.out.size), outer_old hb]

end

end Go.Proofs.YthbdpfccfcceiaaDoor
