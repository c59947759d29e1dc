/-
  The document's answer: sees and Get.
-/
import Derived.Test.YtcingdaijfaeeaaGreatR5
namespace Go.Proofs.YtcingdaijfaeeaaGreat
open Go.RowKit

def SeesY (s : YS) (t : YT) (key : ByteArray) (r : ByteArray × Bool) : Prop :=
  (idxK t.l key = none ∧ AtIs s.l t.sees key r) ∨ ∃ i, idxK t.l key = some i ∧ ∃ hi : i < t.l.length, r = (t.l[i].s, !t.l[i].gone)

theorem idxK_lt {l : List YV} {key : ByteArray} {i : Nat} (h : idxK l key = some i) : i < l.length := by
  rw [idxK, List.findIdx?_eq_some_iff_getElem] at h
  exact h.1

section
variable {own own' : Nat → Lab} {c : Nat} {w w' : World} {p : Nat} {s : YS} {vL vT vG : Value} {sv lg : List Value}
variable {R : Ending → World → Prop}

set_option maxRecDepth 20000 in
set_option maxHeartbeats 1000000 in
theorem y_sees (h : YR own c w p s vL vT vG sv lg) (hl : s.l.length < 1000000) (j : Nat) (hj : j < s.txs.length) (hx : (s.txs[j]).l.length < 1000000) (g cap : Nat) (hv : vT = .slice (some ⟨g, 0, none⟩) s.txs.length cap) (key : ByteArray)
    (hR : ∀ r w', SeesY s (s.txs[j]) key r → Kp (fun _ => False) w w' → R (.returned (.tuple #[.string r.1, .bool r.2])) w') :
    Calls Tryz.prog 79 #[.pointer (some ⟨p, 0, none⟩), .pointer (some ⟨g, j * 3, none⟩), .string key] w R := by
  have hsv : j < sv.length := h.len ▸ hj
  obtain ⟨g', cap', hv', k0, k1, k2, kf, hg⟩ := h.txAt j hj
  rw [hv] at hv'; injection hv' with e1 e2 e3; injection e1 with e1; injection e1 with e1 _; subst e1; subst e3
  have hrow := h.rowX j hj hsv
  have c0 : w.cell? ⟨p, 0, none⟩ = some vL := cell_of h.store 0
  have HRL : Hid _ := h.rowL
  have HR : Hid _ := hR
  have HL : Hid _ := hl
  have HX : Hid _ := hx
  have HROW : Hid (w.ownsRow 0 105 4 sv[j] (s.txs[j]).l.length (cellsV (s.txs[j]).l)) := hrow
  cases hi : idxK (s.txs[j]).l key with
  | none =>
    have HI : Hid _ := hi
    generalize hu : sv[j] = u at *
    clear hR h hl hx k0 kf hrow hv
    go_enter Tryz.func79, Tryz.ntmps79
    go_wp2_with (first
      | (go_at_call 84; refine wrote_any g (j * 3) key (s.txs[j]).l u w HX.out k2 HROW.out (fun _ => ?_) (fun i hi' => by rw [HI.out] at hi'; cases hi'))
      | go_in)
    have HRW : Hid (w.drew.ownsRow 0 105 4 vL s.l.length (cellsV s.l)) := ownsRow_kp HRL.out (Kp.drew (fun _ => False) _) (fun _ _ h => h)
    clear hi
    go_region_with (go_at_call 73; refine at_any s.l vL (s.txs[j]).sees key _ HL.out HRW.out (fun r w1 hr hk1 => ?_))
    all_goals
      go_wp2_with fail
      go_ret2
      exact HR.out r w1 (Or.inl ⟨HI.out, hr⟩) ((Kp.drew (fun _ => False) _).trans hk1 (fun _ _ h => h))
  | some i =>
    have hil := idxK_lt hi
    have HI : Hid _ := hi
    rcases vs_of hrow with ⟨_, h0⟩ | ⟨gx, capx, hvs⟩
    · rw [h0] at hil; simp at hil
    · have hval := hvs.val
      have q2 := hvs.c2 i hil
      have q3 := hvs.c3 i hil
      have hil' : (i : Int) < (s.txs[j]).l.length := by omega
      have hi0 : (0 : Int) ≤ i := by omega
      have HR2 : Hid _ := HR.out ((s.txs[j]).l[i].s, !(s.txs[j]).l[i].gone)
      have HS : Hid (SeesY s (s.txs[j]) key ((s.txs[j]).l[i].s, !(s.txs[j]).l[i].gone)) := Or.inr ⟨i, hi, hil, rfl⟩
      rw [hval] at k2 HROW
      generalize (s.txs[j]).l[i].s = ss at q3 HR2 HS
      generalize (s.txs[j]).l[i].gone = gg at q2 HR2 HS
      generalize sv[j] = u at *
      clear hR h hl hx k0 kf hrow hv hi hvs hval
      go_enter Tryz.func79, Tryz.ntmps79
      go_wp2_with (first
        | (go_at_call 84; refine wrote_any g (j * 3) key (s.txs[j]).l _ w HX.out k2 HROW.out (fun hn => by rw [HI.out] at hn; cases hn) (fun i' hi' => ?_); rw [HI.out] at hi'; injection hi' with hi'; subst hi')
        | go_in)
      go_quiet (fail)
      go_wp2_with fail
      exact HR2.out _ HS.out (Kp.drewN _ _ _)

end

end Go.Proofs.YtcingdaijfaeeaaGreat
