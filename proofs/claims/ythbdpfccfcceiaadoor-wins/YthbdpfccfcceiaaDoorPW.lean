/-
  Of two transactions that begin at one moment and write one key the first that is committed is, alone; of different keys both are; a third one behind them is committed: for every input, and no argument is changed.
-/
import Derived.Test.YthbdpfccfcceiaaDoorE8
import Derived.Test.YthbdpfccfcceiaaDoorPA
import Derived.Test.YthbdpfccfcceiaaDoorPT
import Derived.Test.YthbdpfccfcceiaaDoorTie
import Derived.Test.YthbdpfccfcceiaaDoorCards
namespace Go.Proofs.YthbdpfccfcceiaaDoor
open Go.ChangeShapes Go.WideShapes Go.ChangeAt Go.RowKit

set_option maxRecDepth 100000 in
theorem wins_contract (H : Type) (enc : TypeId × Value → H) (W : World) (base : Nat) (args : Array Value) (ds gs : List (DataW H)) (before : List MemPlace)
    (hval : ∀ (j : Nat) t v, Tryd.f4.params[j]? = some t → args[j]? = some v → Value.okWide Tryd.prog W .any base t v)
    (hW : DataW.Whole enc Tryd.prog Tryd.f4.params.toList Rows.winsSpec.vars false W args.toList ds gs before) (hT : Tab W) :
    Calls Tryd.prog 4 args W fun e W' => ∃ v, e = .returned v ∧ Rows.winsSpec.post enc Tryd.prog Tryd.f4 false true false false W args v W' := by
  have hW' := hW
  have hlt := hW.lt
  obtain ⟨p, q, hA0, hV, rfl, hfz, hnd⟩ := hW
  have hA : DataW.TrodAll enc Tryd.prog W 0 (fun _ => true) true Tryd.f4.params.toList args.toList ds p := hA0
  rw [Tryd.params4] at hA hval
  obtain ⟨v0, vs0, d0, ds0, p0, q0, hargs, rfl, rfl, h0, r0⟩ := trodAll_cons hA
  obtain ⟨v1, vs1, d1, ds1, p1, q1, rfl, rfl, rfl, h1, r1⟩ := trodAll_cons r0
  obtain ⟨v2, vs2, d2, ds2, p2, q2, rfl, rfl, rfl, h2, r2⟩ := trodAll_cons r1
  obtain ⟨v3, vs3, d3, ds3, p3, q3, rfl, rfl, rfl, h3, r3⟩ := trodAll_cons r2
  obtain ⟨rfl, rfl, rfl⟩ := trodAll_nil r3
  obtain rfl : args = #[v0, v1, v2, v3] := by cases args; simp_all
  obtain ⟨rfl, rfl⟩ := trodVars_none hV
  clear hA0
  simp only [List.append_nil] at hW' hlt
  obtain ⟨n, f, hs⟩ := open_acts (okWide_slice Tryd.underlying22 (hval 0 22 v0 rfl rfl)) h0
  obtain ⟨a1, a2, a3, ha, rfl⟩ := open_one (okWide_struct Tryd.underlying24 (hval 1 24 v1 rfl rfl)) h1
  obtain ⟨b1, b2, b3, hb, rfl⟩ := open_one (okWide_struct Tryd.underlying24 (hval 2 24 v2 rfl rfl)) h2
  obtain ⟨c1, c2, c3, hc, rfl⟩ := open_one (okWide_struct Tryd.underlying24 (hval 3 24 v3 rfl rfl)) h3
  refine e_wins W hT v0 n f hs a1 a2 a3 b1 b2 b3 c1 c2 c3 ⟨ha.1, ha.2.1⟩ ⟨hb.1, hb.2.1⟩ hc (fun W' k => ⟨_, rfl, ?_⟩)
  have st : ∀ {t : TypeId} {v : Value} {d : DataW H} {pl : List MemPlace}, Tryd.prog.readableRec t = true → t < Tryd.prog.types.size → DataW.Trod enc Tryd.prog W 0 (fun _ => true) true t v d pl → (∀ p ∈ pl, p.block < W.heap.size) → DataW.Trod enc Tryd.prog W' 0 (fun b => decide (b < W.heap.size)) true t v d pl := fun hr ht h hb =>
    Go.WideElems.Trod_stays k_laid hr ht (sp' := fun b => decide (b < W.heap.size)) h (fun p hp => kp_sameAt k p (hb p hp)) (fun p hp => by simpa using hb p hp)
  refine ⟨[d0, d1, d2, d3], [], p0 ++ (p1 ++ (p2 ++ p3)), [], p0 ++ (p1 ++ (p2 ++ p3)), [], hW', trodAll_cons_mk (shut_bool Tryd.underlying4 _) trodAll_mk0, ?_, rfl, kp_keptBut k _, fun h => by cases h⟩
  have s0 := st acts_readable acts_row h0 (fun p hp => hlt p (by simp [hp]))
  have s1 := st act_readable act_row h1 (fun p hp => hlt p (by simp [hp]))
  have s2 := st act_readable act_row h2 (fun p hp => hlt p (by simp [hp]))
  have s3 := st act_readable act_row h3 (fun p hp => hlt p (by simp [hp]))
  have := trodAll_cons_mk s0 (trodAll_cons_mk s1 (trodAll_cons_mk s2 (trodAll_cons_mk s3 (trodAll_mk0 (enc := enc) (P := Tryd.prog) (w := W') (base := 0) (spare := fun b => decide (b < W.heap.size)) (held := true)))))
  show DataW.TrodAll enc Tryd.prog W' 0 (fun b => decide (b < W.heap.size)) true Tryd.f4.params.toList _ _ _
  rw [Tryd.params4]
  rw [List.append_nil] at this
  exact this

set_option maxRecDepth 100000 in
theorem wins_lifted (os : Os) (started : os.Started) (H : Type) (enc : TypeId × Value → H) :
    ReturnsInHanded {} Tryd.checked os 4 .any (fun w args => (Rows.winsSpec.pre enc Tryd.prog Tryd.f4 [] false w args ∧ laidMetH Tryd.prog laid2 w) ∧ sizedMet enc Tryd.prog Tryd.f4 (OpenSpec.ofChange Rows.winsSpec) false w args) (Rows.winsSpec.post enc Tryd.prog Tryd.f4 false true false false) := by
  refine returnsInHanded_of_change_and (C := Tryd.checked) (X := fun w _ => laidMetH Tryd.prog laid2 w) (fun _ _ _ hh h => h.of_heap hh) kp_own started (by kernel_rfl) Tryd.func4
    (ChangeSpec.witness_shaped (enc := enc) (C := Tryd.checked) (os := os) (X := fun w _ => laidMetH Tryd.prog laid2 w) false (World.doorLaid Tryd.prog 400 os) #[.slice none 0 0, .agg #[.int .i64 0, .int .i64 0, .int .i64 0], .agg #[.int .i64 0, .int .i64 0, .int .i64 0], .agg #[.int .i64 0, .int .i64 0, .int .i64 0]] 8 rfl (World.shaped_of_RefB (by kernel_rfl) (by kernel_rfl)) (by kernel_rfl) (by kernel_rfl) (by kernel_rfl) (door_met os _)) ?_
  intro W base args ds gs before hval hW _ _ hL _
  exact wins_contract H enc W base args ds gs before hval hW (tab_of_laid hL)

set_option maxRecDepth 100000 in
theorem wins_holds : Rows.WinsSaid :=
  OpenClaim.holds_of_wide 4 Tryd.f4 rfl rfl rfl rfl rfl rfl rfl ⟨rfl, rfl, rfl, rfl, rfl⟩ rfl rfl rfl rfl rfl (by kernel_rfl) Tryd.func4 (by kernel_rfl)
    (of_decide_eq_true (by kernel_rfl)) (by unfold Func.isWrapper; first | (rw [if_pos (by decide +kernel)]; kernel_rfl) | (rw [if_neg (by decide +kernel)]; exact ⟨rfl, rfl⟩))
    (fun os started H enc _ => wins_lifted os started H enc)

set_option maxRecDepth 100000 in
theorem wins_card : Rows.WinsCardSaid :=
  Claim7.holds_tied_plain_at .later [] [.data, .data] true _ false
    wins_holds (fun _ h => by cases h) (by kernel_rfl) (fun _ h => by cases h) wins_row_tie rfl ⟨rfl, rfl⟩ (by kernel_rfl) rfl
    (fun f fn hf hfn => by
      obtain rfl : f = 4 := Option.some.inj ((show Tryd.prog.funcNamed Rows.winsRow.func = some 4 by kernel_rfl).symm.trans hf) |>.symm
      obtain rfl : fn = Tryd.f4 := (Option.some.inj (Tryd.func4.symm.trans hfn)).symm
      exact ⟨by kernel_rfl, fun j t ht => by
        rw [Tryd.params4] at ht
        have hall : (Tryd.f4.params.toList.all fun u => !Tryd.prog.wantsStandIn u) = true := by kernel_rfl
        rw [Tryd.params4] at hall
        exact (show Tryd.prog.wantsStandIn t = false by simpa using List.all_eq_true.1 hall t (by simpa using Array.mem_of_getElem? ht))⟩)
    (by kernel_rfl)

end Go.Proofs.YthbdpfccfcceiaaDoor
