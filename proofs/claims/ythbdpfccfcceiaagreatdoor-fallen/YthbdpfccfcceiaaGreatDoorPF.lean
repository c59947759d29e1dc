/-
  What was synced outlives a crash: a store that falls behind some commits is recovered, of what is left of its log, as it was at one of its moments, not ahead of the last Sync, and goes on from there: for every input, and no argument is changed.
-/
import Derived.Test.YthbdpfccfcceiaaGreatDoorF32PAPTPLPG
import Derived.Test.YthbdpfccfcceiaaGreatDoorTie
import Derived.Test.YthbdpfccfcceiaaGreatDoorCards
import Derived.SizedLaws
namespace Go.Proofs.YthbdpfccfcceiaaGreatDoor
open Go.ChangeShapes Go.WideShapes Go.ChangeAt Go.RowKit

theorem int_readable : Tryz.prog.readableRec 3 = true := by kernel_rfl
theorem int_row : 3 < Tryz.prog.types.size := of_decide_eq_true (by kernel_rfl)
theorem ints_readable : Tryz.prog.readableRec 26 = true := by kernel_rfl
theorem ints_row : 26 < Tryz.prog.types.size := of_decide_eq_true (by kernel_rfl)
theorem int_bytes : Tryz.prog.bytesOf 3 = 8 := by kernel_rfl

section
variable {H : Type} {enc : TypeId × Value → H} {W : World}

theorem rng64 {z : Int} (h : (Lit.int .i64 z).wf = true) : I64 z := by
  have m0 : IntKind.i64.min = -9223372036854775808 := rfl
  unfold I64
  simp [Lit.wf] at h
  omega

/-- Numbers as they come in. -/
theorem open_ints_in {v : Value} {d : DataW H} {pl : List MemPlace} (hv : ∃ a len cap, v = .slice a len cap) (h : DataW.Trod enc Tryz.prog W 0 (fun _ => true) true 26 v d pl) (hsz : ∀ elems spare, d = .slice elems spare → (elems.length + spare.length) * 8 ≤ reachBytes) : ∃ (n : Nat) (m : Nat → Int), ∃ a cap, v = .slice a n cap ∧ n ≤ 140737488355328 ∧ (0 < n → ∃ g off, a = some ⟨g, off, none⟩ ∧ g < W.heap.size ∧ ∀ i, i < n → W.cell? ⟨g, off + i, none⟩ = some (.int .i64 (m i)) ∧ I64 (m i)) := by
  obtain ⟨a0, len0, cap0, rfl⟩ := hv
  obtain ⟨fuel, hf⟩ := h
  rcases Deep.open_slice Tryz.underlying26 hf with ⟨hc, _⟩ | ⟨a, len, cap, m, n, D, Pl, hc, hsb, hl, hcp, hm, hx, hel⟩
  · have hc' : Value.slice a0 len0 cap0 = .slice none 0 0 := by simpa [Value.cells] using hc
    rw [hc']
    exact ⟨0, fun _ => 0, none, 0, rfl, Nat.zero_le _, fun h => absurd h (by omega)⟩
  · have hc' : Value.slice a0 len0 cap0 = .slice (some a) len cap := by simpa [Value.cells] using hc
    rw [hc']
    simp only [if_true] at hm
    subst hm
    rw [k_c3] at hel
    have hsz' := hsz _ _ (congrArg Prod.fst hx)
    simp only [List.length_map, List.length_range] at hsz'
    have hb : len ≤ 140737488355328 := by unfold reachBytes at hsz'; omega
    obtain ⟨f, hfs⟩ := Deep.choose_lt (α := Int) (n := len) (p := fun i x => I64 x ∧ W.cells? 0 (a.add (i * 1)) 1 = some [.int .i64 x]) (fun i hi => by
      obtain ⟨cs', h1, h2⟩ := hel i (by omega)
      obtain ⟨z, q, _, wz⟩ := DataW.trod_int Tryz.underlying3 h2
      subst q
      exact ⟨z, rng64 wz, h1⟩)
    refine ⟨len, f, some a, _, rfl, hb, fun h0 => ?_⟩
    have cell : ∀ i, i < len → W.cell? ((a.add (i * 1)).add 0) = some (.int .i64 (f i)) := fun i hi => (World.cells?_some (hfs i hi).2).2.2 0 (by omega)
    have hspot : a.spot = none := by
      have h1 := cell 0 h0
      have h2 : (a.add (0 * 1)).add 0 = a := by simp [Addr.add]
      rw [h2] at h1
      unfold World.cell? at h1
      cases hsp : a.spot with
      | none => rfl
      | some _ =>
        rw [hsp] at h1
        split at h1
        · simp at h1
        · cases h1
    obtain ⟨b, off, spot⟩ := a
    dsimp only at hspot
    subst hspot
    refine ⟨b, off, rfl, ?_, fun i hi => ⟨?_, (hfs i hi).1⟩⟩
    · have h1 : W.cell? ⟨b, off, none⟩ = some (.int .i64 (f 0)) := by simpa [Addr.add] using cell 0 h0
      exact World.block_lt_of_cell? W _ h1
    · have h := cell i hi
      rw [add_plain, add_plain, Nat.mul_one, Nat.add_zero] at h
      exact h

end

set_option maxRecDepth 100000 in
theorem fallen_contract (H : Type) (enc : TypeId × Value → H) (W : World) (base : Nat) (args : Array Value) (ds gs : List (DataW H)) (before : List MemPlace)
    (hval : ∀ (j : Nat) t v, Tryz.f6.params[j]? = some t → args[j]? = some v → Value.okWide Tryz.prog W .any base t v)
    (hW : DataW.Whole enc Tryz.prog Tryz.f6.params.toList Rows.fallenSpec.vars false W args.toList ds gs before)
    (hsz : (DataW.weightsEach Tryz.prog (Tryz.f6.params.toList ++ Rows.fallenSpec.plain.varTypes Tryz.prog) (ds ++ gs)).all (· ≤ reachBytes) = true) (hT : Tab W) :
    Calls Tryz.prog 6 args W fun e W' => ∃ v, e = .returned v ∧ Rows.fallenSpec.post enc Tryz.prog Tryz.f6 false true false false W args v W' := by
  have hW' := hW
  have hlt := hW.lt
  obtain ⟨p, q, hA0, hV, rfl, hfz, hnd⟩ := hW
  have hA : DataW.TrodAll enc Tryz.prog W 0 (fun _ => true) true Tryz.f6.params.toList args.toList ds p := hA0
  rw [Tryz.params6] at hA hval
  obtain ⟨v0, vs0, d0, ds0, p0, q0, hargs, rfl, rfl, h0, r0⟩ := trodAll_cons hA
  obtain ⟨v1, vs1, d1, ds1, p1, q1, rfl, rfl, rfl, h1, r1⟩ := trodAll_cons r0
  obtain ⟨v2, vs2, d2, ds2, p2, q2, rfl, rfl, rfl, h2, r2⟩ := trodAll_cons r1
  obtain ⟨rfl, rfl, rfl⟩ := trodAll_nil r2
  obtain rfl : args = #[v0, v1, v2] := by cases args; simp_all
  obtain ⟨rfl, rfl⟩ := trodVars_none hV
  clear hA0
  simp only [List.append_nil] at hW' hlt
  obtain ⟨n, f, hs⟩ := open_acts (okWide_slice Tryz.underlying25 (hval 0 25 v0 rfl rfl)) h0
  obtain ⟨z, hz, rfl⟩ : ∃ z, I64 z ∧ v2 = .int .i64 z := by
    obtain ⟨fuel, hf⟩ := h2
    obtain ⟨z, q, _, wz⟩ := DataW.trod_int Tryz.underlying3 hf
    obtain ⟨z', rfl⟩ := okWide_int Tryz.underlying3 (hval 2 3 v2 rfl rfl)
    have : z' = z := by simpa [Value.cells] using q
    exact ⟨z', this ▸ rng64 wz, rfl⟩
  obtain ⟨n2, f2, hs2⟩ := open_ints_in (okWide_slice Tryz.underlying26 (hval 1 26 v1 rfl rfl)) h1 (fun elems spare e => by
    have := sized_slice hsz (j := 1) (t := 26) (e := 3) (elems := elems) (spare := spare) (by rw [Tryz.params6]; rfl) (by rw [e]; rfl) Tryz.underlying26
    rw [int_bytes] at this
    exact this)
  refine e_fallen W hT v0 v1 n n2 f hs f2 hs2 z hz (fun W' k => ⟨_, rfl, ?_⟩)
  have st : ∀ {t : TypeId} {v : Value} {d : DataW H} {pl : List MemPlace}, Tryz.prog.readableRec t = true → t < Tryz.prog.types.size → DataW.Trod enc Tryz.prog W 0 (fun _ => true) true t v d pl → (∀ p ∈ pl, p.block < W.heap.size) → DataW.Trod enc Tryz.prog W' 0 (fun b => decide (b < W.heap.size)) true t v d pl := fun hr ht h hb =>
    Go.WideElems.Trod_stays k_laid hr ht (sp' := fun b => decide (b < W.heap.size)) h (fun p hp => kp_sameAt k p (hb p hp)) (fun p hp => by simpa using hb p hp)
  refine ⟨[d0, d1, d2], [], p0 ++ (p1 ++ p2), [], p0 ++ (p1 ++ p2), [], hW', trodAll_cons_mk (shut_bool Tryz.underlying4 _) trodAll_mk0, ?_, rfl, kp_keptBut k _, fun h => by cases h⟩
  have s0 := st acts_readable acts_row h0 (fun p hp => hlt p (by simp [hp]))
  have s1 := st ints_readable ints_row h1 (fun p hp => hlt p (by simp [hp]))
  have s2 := st int_readable int_row h2 (fun p hp => hlt p (by simp [hp]))
  have := trodAll_cons_mk s0 (trodAll_cons_mk s1 (trodAll_cons_mk s2 (trodAll_mk0 (enc := enc) (P := Tryz.prog) (w := W') (base := 0) (spare := fun b => decide (b < W.heap.size)) (held := true))))
  show DataW.TrodAll enc Tryz.prog W' 0 (fun b => decide (b < W.heap.size)) true Tryz.f6.params.toList _ _ _
  rw [Tryz.params6]
  rw [List.append_nil] at this
  exact this

set_option maxRecDepth 100000 in
theorem fallen_lifted (os : Os) (started : os.Started) (H : Type) (enc : TypeId × Value → H) :
    ReturnsInHanded {} Tryz.checked os 6 .any (fun w args => (Rows.fallenSpec.pre enc Tryz.prog Tryz.f6 [] false w args ∧ laidMetH Tryz.prog laid2 w) ∧ sizedMet enc Tryz.prog Tryz.f6 (OpenSpec.ofChange Rows.fallenSpec) false w args) (Rows.fallenSpec.post enc Tryz.prog Tryz.f6 false true false false) := by
  refine returnsInHanded_of_change_and (C := Tryz.checked) (X := fun w _ => laidMetH Tryz.prog laid2 w) (fun _ _ _ hh h => h.of_heap hh) kp_own started (by kernel_rfl) Tryz.func6
    (ChangeSpec.witness_shaped (enc := enc) (C := Tryz.checked) (os := os) (X := fun w _ => laidMetH Tryz.prog laid2 w) false (World.doorLaid Tryz.prog 400 os) #[.slice none 0 0, .slice none 0 0, .int .i64 0] 8 rfl (World.shaped_of_RefB (by kernel_rfl) (by kernel_rfl)) (by kernel_rfl) (by kernel_rfl) (by kernel_rfl) (door_met os _)) ?_
  intro W base args ds gs before hval hW _ hsz hL _
  exact fallen_contract H enc W base args ds gs before hval hW hsz (tab_of_laid hL)

set_option maxRecDepth 100000 in
theorem fallen_unf : (Rows.fallenRow.unfollowed == Tryz.prog.unfollowed 6) = true := by kernel_rfl
set_option maxRecDepth 100000 in
theorem fallen_rec : (Rows.fallenRow.recurses == Tryz.prog.recurses 6) = true := by kernel_rfl
set_option maxRecDepth 100000 in
theorem fallen_named : (Rows.fallenRow.named == Tryz.prog.varsNamed 6) = true := by kernel_rfl
set_option maxRecDepth 100000 in
theorem fallen_place : (Rows.fallenRow.inPlace == Tryz.prog.inPlace 6) = true := by kernel_rfl
set_option maxRecDepth 100000 in
theorem fallen_goes : true = Rows.fallenRow.goesBy Tryz.prog := by kernel_rfl

set_option maxRecDepth 100000 in
theorem fallen_closed : joinedFacts Tryz.prog 6 Tryz.f6 Rows.fallenSpec (lv Rows.fallenRow false) = true := by
  unfold joinedFacts
  repeat' with_reducible refine and_two ?_ ?_
  · kernel_rfl
  · exact pg_laid
  · exact pg_maps
  · kernel_rfl
  · kernel_rfl
  · kernel_rfl
  · exact pg_stops
  · kernel_rfl
  · exact pg_knobs
  · exact fallen_place
  · exact fallen_unf
  · exact fallen_rec
  · exact fallen_named
  · kernel_rfl
  · kernel_rfl
  · kernel_rfl
  · kernel_rfl
  · kernel_rfl
  · kernel_rfl
  · kernel_rfl
  · kernel_rfl
  · kernel_rfl
  · exact pg_keys
  · kernel_rfl
  · exact pg_heard
  · exact pg_enter
  all_goals kernel_rfl

set_option maxRecDepth 100000 in
theorem fallen_alone : (lv Rows.fallenRow false).holds Tryz.pinned (OpenSpec.ofChange Rows.fallenSpec) :=
  OpenClaim.holds_of_wide 6 Tryz.f6 rfl rfl rfl rfl rfl rfl rfl ⟨rfl, rfl, rfl, rfl, rfl⟩ rfl rfl rfl rfl rfl (by kernel_rfl) Tryz.func6 fallen_closed
    (of_decide_eq_true (by kernel_rfl)) (by unfold Func.isWrapper; first | (rw [if_pos (by decide +kernel)]; kernel_rfl) | (rw [if_neg (by decide +kernel)]; exact ⟨rfl, rfl⟩))
    (fun os started H enc _ => fallen_lifted os started H enc)

theorem fallen_holds : Rows.FallenSaid := holds_leaving (c := Rows.fallenRow) rfl rfl (by kernel_rfl) fallen_alone

set_option maxRecDepth 100000 in
theorem fallen_card : Rows.FallenCardSaid :=
  card_goes [.data, .data] _ false fallen_holds (by kernel_rfl) fallen_row_tie rfl ⟨rfl, rfl⟩ (by kernel_rfl) rfl
    (fun f fn hf hfn => by
      obtain rfl : f = 6 := Option.some.inj ((show Tryz.prog.funcNamed Rows.fallenRow.func = some 6 by kernel_rfl).symm.trans hf) |>.symm
      obtain rfl : fn = Tryz.f6 := (Option.some.inj (Tryz.func6.symm.trans hfn)).symm
      exact ⟨by kernel_rfl, fun j t ht => by
        rw [Tryz.params6] at ht
        have hall : (Tryz.f6.params.toList.all fun u => !Tryz.prog.wantsStandIn u) = true := by kernel_rfl
        rw [Tryz.params6] at hall
        exact (show Tryz.prog.wantsStandIn t = false by simpa using List.all_eq_true.1 hall t (by simpa using Array.mem_of_getElem? ht))⟩)
    fallen_goes

end Go.Proofs.YthbdpfccfcceiaaGreatDoor
