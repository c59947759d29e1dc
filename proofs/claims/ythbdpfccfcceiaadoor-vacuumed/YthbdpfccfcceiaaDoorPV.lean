/-
  Vacuum changes no answer: what the store tells at each moment from the horizon on is told behind it, too; ahead of it nothing is; when nothing more may go each key has one version at the most that is not above the horizon: for every input, and no argument is changed.
-/
import Derived.Test.YthbdpfccfcceiaaDoorU5
import Derived.Test.YthbdpfccfcceiaaDoorPAPT
import Derived.Test.YthbdpfccfcceiaaDoorTie
import Derived.Test.YthbdpfccfcceiaaDoorCards
import Derived.SizedLaws
namespace Go.Proofs.YthbdpfccfcceiaaDoor
open Go.ChangeShapes Go.WideShapes Go.ChangeAt Go.RowKit

theorem int_readable : Tryd.prog.readableRec 3 = true := by kernel_rfl
theorem int_row : 3 < Tryd.prog.types.size := of_decide_eq_true (by kernel_rfl)
theorem ints_readable : Tryd.prog.readableRec 46 = true := by kernel_rfl
theorem ints_row : 46 < Tryd.prog.types.size := of_decide_eq_true (by kernel_rfl)
theorem int_bytes : Tryd.prog.bytesOf 3 = 8 := by kernel_rfl

section
variable {H : Type} {enc : TypeId × Value → H} {W : World}

theorem rng64 {z : Int} (h : (Lit.int .i64 z).wf = true) : I64 z := by
  have m0 : IntKind.i64.min = -9223372036854775808 := rfl
  unfold I64
  simp [Lit.wf] at h
  omega

/-- Numbers as they come in. -/
theorem open_ints_in {v : Value} {d : DataW H} {pl : List MemPlace} (hv : ∃ a len cap, v = .slice a len cap) (h : DataW.Trod enc Tryd.prog W 0 (fun _ => true) true 46 v d pl) (hsz : ∀ elems spare, d = .slice elems spare → (elems.length + spare.length) * 8 ≤ reachBytes) : ∃ n m, IntsIn W v n m := by
  obtain ⟨a0, len0, cap0, rfl⟩ := hv
  obtain ⟨fuel, hf⟩ := h
  rcases Deep.open_slice Tryd.underlying46 hf with ⟨hc, _⟩ | ⟨a, len, cap, m, n, D, Pl, hc, hsb, hl, hcp, hm, hx, hel⟩
  · have hc' : Value.slice a0 len0 cap0 = .slice none 0 0 := by simpa [Value.cells] using hc
    rw [hc']
    exact ⟨0, fun _ => 0, none, 0, rfl, Nat.zero_le _, fun h => absurd h (by omega)⟩
  · have hc' : Value.slice a0 len0 cap0 = .slice (some a) len cap := by simpa [Value.cells] using hc
    rw [hc']
    simp only [if_true] at hm
    subst hm
    rw [k_c3] at hel
    have hsz' := hsz _ _ (congrArg Prod.fst hx)
    simp only [List.length_map, List.length_range] at hsz'
    have hb : len ≤ 140737488355328 := by unfold reachBytes at hsz'; omega
    obtain ⟨f, hfs⟩ := Deep.choose_lt (α := Int) (n := len) (p := fun i x => I64 x ∧ W.cells? 0 (a.add (i * 1)) 1 = some [.int .i64 x]) (fun i hi => by
      obtain ⟨cs', h1, h2⟩ := hel i (by omega)
      obtain ⟨z, q, _, wz⟩ := DataW.trod_int Tryd.underlying3 h2
      subst q
      exact ⟨z, rng64 wz, h1⟩)
    refine ⟨len, f, some a, _, rfl, hb, fun h0 => ?_⟩
    have cell : ∀ i, i < len → W.cell? ((a.add (i * 1)).add 0) = some (.int .i64 (f i)) := fun i hi => (World.cells?_some (hfs i hi).2).2.2 0 (by omega)
    have hspot : a.spot = none := by
      have h1 := cell 0 h0
      have h2 : (a.add (0 * 1)).add 0 = a := by simp [Addr.add]
      rw [h2] at h1
      unfold World.cell? at h1
      cases hsp : a.spot with
      | none => rfl
      | some _ =>
        rw [hsp] at h1
        split at h1
        · simp at h1
        · cases h1
    obtain ⟨b, off, spot⟩ := a
    dsimp only at hspot
    subst hspot
    refine ⟨b, off, rfl, ?_, fun i hi => ⟨?_, (hfs i hi).1⟩⟩
    · have h1 : W.cell? ⟨b, off, none⟩ = some (.int .i64 (f 0)) := by simpa [Addr.add] using cell 0 h0
      exact World.block_lt_of_cell? W _ h1
    · have h := cell i hi
      rw [add_plain, add_plain, Nat.mul_one, Nat.add_zero] at h
      exact h

end

set_option maxRecDepth 100000 in
theorem vacuumed_contract (H : Type) (enc : TypeId × Value → H) (W : World) (base : Nat) (args : Array Value) (ds gs : List (DataW H)) (before : List MemPlace)
    (hval : ∀ (j : Nat) t v, Tryd.f5.params[j]? = some t → args[j]? = some v → Value.okWide Tryd.prog W .any base t v)
    (hW : DataW.Whole enc Tryd.prog Tryd.f5.params.toList Rows.vacuumedSpec.vars false W args.toList ds gs before)
    (hsz : (DataW.weightsEach Tryd.prog (Tryd.f5.params.toList ++ Rows.vacuumedSpec.plain.varTypes Tryd.prog) (ds ++ gs)).all (· ≤ reachBytes) = true) (hT : Tab W) :
    Calls Tryd.prog 5 args W fun e W' => ∃ v, e = .returned v ∧ Rows.vacuumedSpec.post enc Tryd.prog Tryd.f5 false true false false W args v W' := by
  have hW' := hW
  have hlt := hW.lt
  obtain ⟨p, q, hA0, hV, rfl, hfz, hnd⟩ := hW
  have hA : DataW.TrodAll enc Tryd.prog W 0 (fun _ => true) true Tryd.f5.params.toList args.toList ds p := hA0
  rw [Tryd.params5] at hA hval
  obtain ⟨v0, vs0, d0, ds0, p0, q0, hargs, rfl, rfl, h0, r0⟩ := trodAll_cons hA
  obtain ⟨v1, vs1, d1, ds1, p1, q1, rfl, rfl, rfl, h1, r1⟩ := trodAll_cons r0
  obtain ⟨v2, vs2, d2, ds2, p2, q2, rfl, rfl, rfl, h2, r2⟩ := trodAll_cons r1
  obtain ⟨rfl, rfl, rfl⟩ := trodAll_nil r2
  obtain rfl : args = #[v0, v1, v2] := by cases args; simp_all
  obtain ⟨rfl, rfl⟩ := trodVars_none hV
  clear hA0
  simp only [List.append_nil] at hW' hlt
  obtain ⟨n, f, hs⟩ := open_acts (okWide_slice Tryd.underlying22 (hval 0 22 v0 rfl rfl)) h0
  obtain ⟨z, hz, rfl⟩ : ∃ z, I64 z ∧ v1 = .int .i64 z := by
    obtain ⟨fuel, hf⟩ := h1
    obtain ⟨z, q, _, wz⟩ := DataW.trod_int Tryd.underlying3 hf
    obtain ⟨z', rfl⟩ := okWide_int Tryd.underlying3 (hval 1 3 v1 rfl rfl)
    have : z' = z := by simpa [Value.cells] using q
    exact ⟨z', this ▸ rng64 wz, rfl⟩
  obtain ⟨n2, f2, hs2⟩ := open_ints_in (okWide_slice Tryd.underlying46 (hval 2 46 v2 rfl rfl)) h2 (fun elems spare e => by
    have := sized_slice hsz (j := 2) (t := 46) (e := 3) (elems := elems) (spare := spare) (by rw [Tryd.params5]; rfl) (by rw [e]; rfl) Tryd.underlying46
    rw [int_bytes] at this
    exact this)
  refine e_vacuumed W hT v0 v2 n n2 f f2 hs hs2 z hz (fun W' k => ⟨_, rfl, ?_⟩)
  have st : ∀ {t : TypeId} {v : Value} {d : DataW H} {pl : List MemPlace}, Tryd.prog.readableRec t = true → t < Tryd.prog.types.size → DataW.Trod enc Tryd.prog W 0 (fun _ => true) true t v d pl → (∀ p ∈ pl, p.block < W.heap.size) → DataW.Trod enc Tryd.prog W' 0 (fun b => decide (b < W.heap.size)) true t v d pl := fun hr ht h hb =>
    Go.WideElems.Trod_stays k_laid hr ht (sp' := fun b => decide (b < W.heap.size)) h (fun p hp => kp_sameAt k p (hb p hp)) (fun p hp => by simpa using hb p hp)
  refine ⟨[d0, d1, d2], [], p0 ++ (p1 ++ p2), [], p0 ++ (p1 ++ p2), [], hW', trodAll_cons_mk (shut_bool Tryd.underlying4 _) trodAll_mk0, ?_, rfl, kp_keptBut k _, fun h => by cases h⟩
  have s0 := st acts_readable acts_row h0 (fun p hp => hlt p (by simp [hp]))
  have s1 := st int_readable int_row h1 (fun p hp => hlt p (by simp [hp]))
  have s2 := st ints_readable ints_row h2 (fun p hp => hlt p (by simp [hp]))
  have := trodAll_cons_mk s0 (trodAll_cons_mk s1 (trodAll_cons_mk s2 (trodAll_mk0 (enc := enc) (P := Tryd.prog) (w := W') (base := 0) (spare := fun b => decide (b < W.heap.size)) (held := true))))
  show DataW.TrodAll enc Tryd.prog W' 0 (fun b => decide (b < W.heap.size)) true Tryd.f5.params.toList _ _ _
  rw [Tryd.params5]
  rw [List.append_nil] at this
  exact this

set_option maxRecDepth 100000 in
theorem vacuumed_lifted (os : Os) (started : os.Started) (H : Type) (enc : TypeId × Value → H) :
    ReturnsInHanded {} Tryd.checked os 5 .any (fun w args => (Rows.vacuumedSpec.pre enc Tryd.prog Tryd.f5 [] false w args ∧ laidMetH Tryd.prog laid2 w) ∧ sizedMet enc Tryd.prog Tryd.f5 (OpenSpec.ofChange Rows.vacuumedSpec) false w args) (Rows.vacuumedSpec.post enc Tryd.prog Tryd.f5 false true false false) := by
  refine returnsInHanded_of_change_and (C := Tryd.checked) (X := fun w _ => laidMetH Tryd.prog laid2 w) (fun _ _ _ hh h => h.of_heap hh) kp_own started (by kernel_rfl) Tryd.func5
    (ChangeSpec.witness_shaped (enc := enc) (C := Tryd.checked) (os := os) (X := fun w _ => laidMetH Tryd.prog laid2 w) false (World.doorLaid Tryd.prog 400 os) #[.slice none 0 0, .int .i64 0, .slice none 0 0] 8 rfl (World.shaped_of_RefB (by kernel_rfl) (by kernel_rfl)) (by kernel_rfl) (by kernel_rfl) (by kernel_rfl) (door_met os _)) ?_
  intro W base args ds gs before hval hW _ hsz hL _
  exact vacuumed_contract H enc W base args ds gs before hval hW hsz (tab_of_laid hL)

set_option maxRecDepth 100000 in
theorem vacuumed_holds : Rows.VacuumedSaid :=
  OpenClaim.holds_of_wide 5 Tryd.f5 rfl rfl rfl rfl rfl rfl rfl ⟨rfl, rfl, rfl, rfl, rfl⟩ rfl rfl rfl rfl rfl (by kernel_rfl) Tryd.func5 (by kernel_rfl)
    (of_decide_eq_true (by kernel_rfl)) (by unfold Func.isWrapper; first | (rw [if_pos (by decide +kernel)]; kernel_rfl) | (rw [if_neg (by decide +kernel)]; exact ⟨rfl, rfl⟩))
    (fun os started H enc _ => vacuumed_lifted os started H enc)

set_option maxRecDepth 100000 in
theorem vacuumed_card : Rows.VacuumedCardSaid :=
  Claim7.holds_tied_plain_at .later [] [.data, .data] true _ false
    vacuumed_holds (fun _ h => by cases h) (by kernel_rfl) (fun _ h => by cases h) vacuumed_row_tie rfl ⟨rfl, rfl⟩ (by kernel_rfl) rfl
    (fun f fn hf hfn => by
      obtain rfl : f = 5 := Option.some.inj ((show Tryd.prog.funcNamed Rows.vacuumedRow.func = some 5 by kernel_rfl).symm.trans hf) |>.symm
      obtain rfl : fn = Tryd.f5 := (Option.some.inj (Tryd.func5.symm.trans hfn)).symm
      exact ⟨by kernel_rfl, fun j t ht => by
        rw [Tryd.params5] at ht
        have hall : (Tryd.f5.params.toList.all fun u => !Tryd.prog.wantsStandIn u) = true := by kernel_rfl
        rw [Tryd.params5] at hall
        exact (show Tryd.prog.wantsStandIn t = false by simpa using List.all_eq_true.1 hall t (by simpa using Array.mem_of_getElem? ht))⟩)
    (by kernel_rfl)

end Go.Proofs.YthbdpfccfcceiaaDoor
