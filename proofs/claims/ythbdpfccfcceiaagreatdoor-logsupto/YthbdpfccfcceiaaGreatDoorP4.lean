/-
  Every script of steps of P3 to P13 (New, Begin, Get, Scan, Put, Delete, Commit, Abort, Now, AsOf, Range, Retain, Vacuum, Stored, Files, Sync, Crash, Recover, and Recover of what a crash leaves, of which a byte may be changed; any stores, any arguments) is answered as the document's answer answers, and no argument is changed; where what comes in is of bulk at most 1048576.
-/
import Derived.Test.YthbdpfccfcceiaaGreatDoorP1PTPLPG
import Derived.Test.YthbdpfccfcceiaaGreatDoorTie
import Derived.Test.YthbdpfccfcceiaaGreatDoorCards
import Derived.Deep.DeepHandedRow
namespace Go.Proofs.YthbdpfccfcceiaaGreatDoor
open Go.ChangeShapes Go.WideShapes Go.ChangeAt Go.RowKit

section
variable {R : Ending → World → Prop} {w : World}

theorem logs_any (v : Value) (n : Nat) (f : Nat → S8) (hv : ScrIn w v n f) (hT : Tab w) (hn : n < 120000) (hR : ∀ w', Kp (fun _ => False) w w' → R (.returned (.bool true)) w') :
    Calls Tryz.prog 5 #[v] w R := by
  have HP := hid_of (fun R' (h : ∀ w', Kp (fun _ => False) w w' → R' (.returned (.bool true)) w') => plays_any (R := R') 19 (by decide) v n f hv hT hn h)
  have HR := hid_of hR
  clear hv hR
  go_enter Tryz.func5, Tryz.ntmps5
  go_wp2_with (first
    | (go_at_call 10; refine HP.out _ (fun w' k => ?_); have HF := hid_of (HR.out w' k); clear k)
    | fail)
  exact HF.out

end

set_option maxRecDepth 100000 in
theorem logs_contract (H : Type) (enc : TypeId × Value → H) (W : World) (base : Nat) (args : Array Value) (ds gs : List (DataW H)) (before : List MemPlace)
    (hval : ∀ (j : Nat) t v, Tryz.f5.params[j]? = some t → args[j]? = some v → Value.okWide Tryz.prog W .any base t v)
    (hW : DataW.Whole enc Tryz.prog Tryz.f5.params.toList Rows.logsSpec.vars false W args.toList ds gs before) (hk : Rows.uptoSmall H (ds ++ gs) = true) (hT : Tab W) :
    Calls Tryz.prog 5 args W fun e W' => ∃ v, e = .returned v ∧ Rows.logsSpec.post enc Tryz.prog Tryz.f5 false true false false W args v W' := by
  have hW' := hW
  have hlt := hW.lt
  obtain ⟨p, q, hA0, hV, rfl, hfz, hnd⟩ := hW
  have hA : DataW.TrodAll enc Tryz.prog W 0 (fun _ => true) true Tryz.f5.params.toList args.toList ds p := hA0
  rw [Tryz.params5] at hA hval
  obtain ⟨v0, vs0, d0, ds0, p0, q0, hargs, rfl, rfl, h0, r0⟩ := trodAll_cons hA
  obtain ⟨rfl, rfl, rfl⟩ := trodAll_nil r0
  obtain rfl : args = #[v0] := by cases args; simp_all
  obtain ⟨rfl, rfl⟩ := trodVars_none hV
  clear hA0
  simp only [List.append_nil] at hW' hk hlt
  have hb : Rows.uptoBulk d0 ≤ 1048576 := by
    have h : Rows.uptoBulkAll [d0] ≤ 1048576 := of_decide_eq_true hk
    simp only [Rows.uptoBulkAll] at h
    omega
  obtain ⟨n, f, hs, hn⟩ := open_script (okWide_slice Tryz.underlying22 (hval 0 22 v0 rfl rfl)) h0 hb
  refine logs_any v0 n f hs hT hn (fun W' k => ⟨_, rfl, ?_⟩)
  refine ⟨[d0], [], p0, [], p0, [], hW', trodAll_cons_mk (shut_bool Tryz.underlying4 _) trodAll_mk0, ?_, rfl, kp_keptBut k _, fun h => by cases h⟩
  have hst := Go.WideElems.Trod_stays txs_laid txs_readable txs_row (sp' := fun b => decide (b < W.heap.size)) h0 (fun p hp => kp_sameAt k p (hlt p hp)) (fun p hp => by simpa using hlt p hp)
  have := trodAll_cons_mk hst (trodAll_mk0 (enc := enc) (P := Tryz.prog) (w := W') (base := 0) (spare := fun b => decide (b < W.heap.size)) (held := true))
  rw [List.append_nil] at this
  show DataW.TrodAll enc Tryz.prog W' 0 (fun b => decide (b < W.heap.size)) true Tryz.f5.params.toList [v0] [d0] p0
  rw [Tryz.params5]
  exact this

theorem logs_reads (os : Os) {H : Type} (enc : TypeId × Value → H) : DataW.whole enc Tryz.prog ((World.doorLaid Tryz.prog 400 os).forCall (fun _ _ => 0) ⟨#[], #[.slice none 0 0], []⟩).memory Tryz.f5.params.toList (Rows.OpenSpec.upto Rows.logsSpec).vars false #[Value.slice none 0 0].toList 8 = some ([.nil], [], []) := by kernel_rfl

set_option maxRecDepth 100000 in
theorem logs_lifted (os : Os) (started : os.Started) (H : Type) (enc : TypeId × Value → H) (F : Stop.Interp) :
    ReturnsInHanded {} Tryz.checked os 5 .any ((Rows.OpenSpec.upto Rows.logsSpec).preRow enc Tryz.prog Tryz.f5 Rows.logsUptoRow.domain false Rows.logsUptoRow.laid) (((Rows.OpenSpec.upto Rows.logsSpec).at F).post enc Tryz.prog Tryz.f5 false true false false) := by
  refine returnsInHanded_of_row (C := Tryz.checked) (s := Rows.OpenSpec.upto Rows.logsSpec) txs_own started (by kernel_rfl) Tryz.func5
    (witness_row_at (enc := enc) (C := Tryz.checked) false (World.doorLaid Tryz.prog 400 os) #[.slice none 0 0] rfl (by kernel_rfl) (by kernel_rfl) (by kernel_rfl)
      (OpenSpec.preRow_of_cond 8 (logs_reads os enc) (by kernel_rfl) (fun k hk => by cases hk; kernel_rfl) (by kernel_rfl) (laidMet_of_run' 8 (by kernel_rfl) (by kernel_rfl)))) ?_
  intro W base args ds gs before hval hW _ hcond _ hL _ _
  exact logs_contract H enc W base args ds gs before hval hW (hcond _ rfl) (tab_of_laid hL)

set_option maxRecDepth 100000 in
theorem logs_unf : (Rows.logsUptoRow.unfollowed == Tryz.prog.unfollowed 5) = true := by kernel_rfl
set_option maxRecDepth 100000 in
theorem logs_rec : (Rows.logsUptoRow.recurses == Tryz.prog.recurses 5) = true := by kernel_rfl
set_option maxRecDepth 100000 in
theorem logs_named : (Rows.logsUptoRow.named == Tryz.prog.varsNamed 5) = true := by kernel_rfl
set_option maxRecDepth 100000 in
theorem logs_place : (Rows.logsUptoRow.inPlace == Tryz.prog.inPlace 5) = true := by kernel_rfl
set_option maxRecDepth 100000 in
theorem logs_goes : true = Rows.logsUptoRow.goesBy Tryz.prog := by kernel_rfl

set_option maxRecDepth 100000 in
theorem logs_closed : joinedFacts Tryz.prog 5 Tryz.f5 (Rows.OpenSpec.upto Rows.logsSpec).bare (lv Rows.logsUptoRow false) = true := by
  unfold joinedFacts
  repeat' with_reducible refine and_two ?_ ?_
  · kernel_rfl
  · exact pg_laid
  · exact pg_maps
  · kernel_rfl
  · kernel_rfl
  · kernel_rfl
  · exact pg_stops
  · kernel_rfl
  · exact pg_knobs
  · exact logs_place
  · exact logs_unf
  · exact logs_rec
  · exact logs_named
  · kernel_rfl
  · kernel_rfl
  · kernel_rfl
  · kernel_rfl
  · kernel_rfl
  · kernel_rfl
  · kernel_rfl
  · kernel_rfl
  · kernel_rfl
  · exact pg_keys
  · kernel_rfl
  · exact pg_heard
  · exact pg_enter
  all_goals kernel_rfl

set_option maxRecDepth 100000 in
theorem logsUpto_alone : (lv Rows.logsUptoRow false).holds Tryz.pinned (Rows.OpenSpec.upto Rows.logsSpec) :=
  OpenClaim.holds_of_cond 5 Tryz.f5 rfl rfl rfl rfl rfl rfl rfl ⟨rfl, rfl, rfl, rfl, rfl⟩ rfl rfl rfl rfl rfl (by kernel_rfl) Tryz.func5 logs_closed
    (of_decide_eq_true (by kernel_rfl)) (by unfold Func.isWrapper; first | (rw [if_pos (by decide +kernel)]; kernel_rfl) | (rw [if_neg (by decide +kernel)]; exact ⟨rfl, rfl⟩))
    (fun os started H enc _ F => by rw [OpenClaim.pre_eq_preRow]; exact logs_lifted os started H enc F)

theorem logsUpto_holds : Rows.LogsUptoSaid := holds_leaving (c := Rows.logsUptoRow) rfl rfl (by kernel_rfl) logsUpto_alone

set_option maxRecDepth 100000 in
theorem logsUpto_card : Rows.LogsUptoCardSaid :=
  card_goes [.data, .data] _ false logsUpto_holds (by kernel_rfl) logsUpto_row_tie rfl ⟨rfl, rfl⟩ (by kernel_rfl) rfl
    (fun f fn hf hfn => by
      obtain rfl : f = 5 := Option.some.inj ((show Tryz.prog.funcNamed Rows.logsUptoRow.func = some 5 by kernel_rfl).symm.trans hf) |>.symm
      obtain rfl : fn = Tryz.f5 := (Option.some.inj (Tryz.func5.symm.trans hfn)).symm
      exact ⟨by kernel_rfl, fun j t ht => by
        rw [Tryz.params5] at ht
        obtain rfl : t = 22 := by simpa using Array.mem_of_getElem? ht
        exact (show Tryz.prog.wantsStandIn 22 = false by kernel_rfl)⟩)
    logs_goes

end Go.Proofs.YthbdpfccfcceiaaGreatDoor
