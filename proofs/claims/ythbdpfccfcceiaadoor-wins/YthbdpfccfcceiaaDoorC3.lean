/-
  Commit of a store: overtaken; no more room.
-/
import Derived.Test.YthbdpfccfcceiaaDoorC2
namespace Go.Proofs.YthbdpfccfcceiaaDoor
open Go.RowKit Go.Maps

section
variable {own own' : Nat → Lab} {c : Nat} {w w' : World} {p : Nat} {s : XS} {mo ph mv mm : Nat} {pt mw : Int → Nat} {sl : ByteArray → Value}
variable {R : Ending → World → Prop}

set_option maxRecDepth 20000 in
set_option maxHeartbeats 400000 in
theorem x_commit_over (h : XR own c w p s mo ph mv mm pt mw sl) (tx : Int) (hwx : (Lit.int .i64 tx).wf = true) (t : XT) (e : s.txs tx = some t) (hnw : 0 < t.nw) (hkeys : ∀ k, (t.wr k).isSome = true → k.size ≤ 8) (hmom : ∀ k, (s.mom k).length < 1000000) (hov : overt s t)
    (hR : ∀ w', Kp (fun b => (own b).c = c) w w' → XR own c w' p { s with txs := updI s.txs tx none, nopen := s.nopen - 1 } mo ph mv mm pt mw sl → R (.returned (.tuple #[.int .i64 0, .int .i64 4])) w') :
    Calls Tryd.prog 18 #[.pointer (some ⟨p, 0, none⟩), .int .i64 tx] w R := by
  have hkey : Hid _ := keyOf_int_mk Tryd.underlying3 hwx
  have c2 : w.cell? ⟨p, 7, none⟩ = some (.map (some mo)) := cell_of h.store 7
  have d1 : w.cell? ⟨pt tx, 1, none⟩ = some (.map (some (mw tx))) := cell_of (h.tx tx t e) 1
  have hw := h.wr tx t e
  have hf : (encI fun n => (s.txs n).map fun _ => Value.pointer (some ⟨pt n, 0, none⟩)) (.int .i64 tx) = some (.pointer (some ⟨pt tx, 0, none⟩)) := by rw [encI_at, e]; rfl
  have H : Hid (XR own c w p s mo ph mv mm pt mw sl) := h
  have hopn := h.opn
  have HR : Hid _ := hR
  have hg : Hid _ := gone_opn s tx pt
  have hn : (t.nw : Int) ≠ 0 := by omega
  have hn' : ((t.nw : Int) == 0) = false := by simpa using hn
  clear h hR hnw hn
  go_enter Tryd.func18, Tryd.ntmps18
  go_wp2_with (first
    | (at_lookup; refine wpL_lookup_ok _ rfl _ _ 61 rfl 3 65 kInt Tryd.underlying61 (zTxP _) mo s.nopen _ rfl hopn (.int .i64 tx) _ rfl hkey.out _ hf ?_)
    | (at_len; refine wpL_len _ rfl _ 66 rfl 9 88 Tryd.underlying66 (mw tx) t.nw _ rfl hw ?_)
    | (go_at_call 32; refine x_overtaken H.out tx t e hkeys hmom (fun hno => absurd hov hno) (fun _ w1 hk1 => ?_); have H1 : Hid (XR own c w1 p s mo ph mv mm pt mw sl) := H.out.kept hk1; have hopn1 := H1.out.opn; have c2' : w1.cell? ⟨p, 7, none⟩ = some (.map (some mo)) := cell_of H1.out.store 7)
    | (at_delete; refine wpL_delete _ rfl _ _ 61 3 rfl 65 kInt Tryd.underlying61 mo s.nopen _ rfl hopn1 (.int .i64 tx) _ rfl hkey.out hg.out ?_; intro w2 hown2 hturn2)
    | go_in)
  rw [hf] at hown2
  exact HR.out w2 ((hk1.own_of (fun _ h => h.elim)).trans (Kp.of_turned (S := fun b => (own b).c = c) hturn2 (by rw [H.out.ownO])) (fun _ _ h => h)) (H1.out.reopen (fun b hb => mapTurned_block hturn2 b hb) _ _ hown2 sub_upd)

set_option maxRecDepth 20000 in
set_option maxHeartbeats 400000 in
theorem x_commit_full (h : XR own c w p s mo ph mv mm pt mw sl) (tx : Int) (hwx : (Lit.int .i64 tx).wf = true) (t : XT) (e : s.txs tx = some t) (hnw : 0 < t.nw) (hkeys : ∀ k, (t.wr k).isSome = true → k.size ≤ 8) (hmom : ∀ k, (s.mom k).length < 1000000) (hov : ¬ overt s t) (hnow : 2000 ≤ s.now)
    (hR : ∀ w', Kp (fun _ => False) w w' → R (.returned (.tuple #[.int .i64 0, .int .i64 3])) w') :
    Calls Tryd.prog 18 #[.pointer (some ⟨p, 0, none⟩), .int .i64 tx] w R := by
  have hkey : Hid _ := keyOf_int_mk Tryd.underlying3 hwx
  have c2 : w.cell? ⟨p, 7, none⟩ = some (.map (some mo)) := cell_of h.store 7
  have d1 : w.cell? ⟨pt tx, 1, none⟩ = some (.map (some (mw tx))) := cell_of (h.tx tx t e) 1
  have hw := h.wr tx t e
  have hf : (encI fun n => (s.txs n).map fun _ => Value.pointer (some ⟨pt n, 0, none⟩)) (.int .i64 tx) = some (.pointer (some ⟨pt tx, 0, none⟩)) := by rw [encI_at, e]; rfl
  have H : Hid (XR own c w p s mo ph mv mm pt mw sl) := h
  have hopn := h.opn
  have HR : Hid _ := hR
  have hn : (t.nw : Int) ≠ 0 := by omega
  have hn' : ((t.nw : Int) == 0) = false := by simpa using hn
  clear h hR hnw hn
  go_enter Tryd.func18, Tryd.ntmps18
  go_wp2_with (first
    | (at_lookup; refine wpL_lookup_ok _ rfl _ _ 61 rfl 3 65 kInt Tryd.underlying61 (zTxP _) mo s.nopen _ rfl hopn (.int .i64 tx) _ rfl hkey.out _ hf ?_)
    | (at_len; refine wpL_len _ rfl _ 66 rfl 9 88 Tryd.underlying66 (mw tx) t.nw _ rfl hw ?_)
    | (go_at_call 32; refine x_overtaken H.out tx t e hkeys hmom (fun _ w1 hk1 => ?_) (fun ho => absurd ho hov); have c0' : w1.cell? ⟨p, 2, none⟩ = some (.int .i64 s.now) := cell_of (H.out.kept hk1).store 2)
    | go_in)
  exact HR.out w1 hk1

end

end Go.Proofs.YthbdpfccfcceiaaDoor
