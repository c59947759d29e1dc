/-
  Of two transactions that begin at one moment and write one key the first that is committed is, alone; of different keys both are; a third one behind them is committed: for every input, and no argument is changed.
-/
import Derived.Test.YtnidlcpjjgmclaaE8
import Derived.Test.YtnidlcpjjgmclaaRows
import Derived.ProofKit
import Derived.OpenShut
import Derived.WideKeyArgs
import Derived.Deep.Slices
namespace Go.Proofs.Ytnidlcpjjgmclaa
open Go.ChangeShapes Go.WideShapes Go.ChangeAt Go.RowKit

theorem kp_own : ownKnob Try.prog.godebug = none := by kernel_rfl
theorem act_cells : Try.prog.cellsOf 24 = 3 := by kernel_rfl
theorem k_c3 : Try.prog.cellsOf 3 = 1 := by kernel_rfl
theorem k_laid : laidOutB Try.prog = true := by kernel_rfl
theorem acts_readable : Try.prog.readableRec 22 = true := by kernel_rfl
theorem acts_row : 22 < Try.prog.types.size := of_decide_eq_true (by kernel_rfl)
theorem act_readable : Try.prog.readableRec 24 = true := by kernel_rfl
theorem act_row : 24 < Try.prog.types.size := of_decide_eq_true (by kernel_rfl)

theorem list_three {cs : List Value} (h : cs.length = 3) : ∃ c0 c1 c2, cs = [c0, c1, c2] := by
  match cs, h with
  | [c0, c1, c2], _ => exact ⟨c0, c1, c2, rfl⟩

section
variable {H : Type} {enc : TypeId × Value → H} {W : World}

/-- An act as it comes in. -/
theorem open_act {n : Nat} {cs : List Value} {d : DataW H} {pl : List MemPlace} (h : DataW.trod enc Try.prog W 0 (fun _ => true) true n 24 cs = some (d, pl)) : ∃ x : A3, (I64 x.1 ∧ I64 x.2.1 ∧ I64 x.2.2) ∧ cs = [.int .i64 x.1, .int .i64 x.2.1, .int .i64 x.2.2] := by
  obtain ⟨xs, k, _, hx, hlen, hxl, hf⟩ := DataW.trod_struct Try.underlying24 h
  rw [act_cells] at hlen
  have hxl3 : xs.length = 3 := hxl
  obtain ⟨c0, c1, c2, rfl⟩ := list_three hlen
  have one : ∀ (j : Nat), j < 3 → ∃ y, xs[j]? = some y := fun j hj => ⟨_, List.getElem?_eq_getElem (by omega)⟩
  obtain ⟨y0, e0⟩ := one 0 (by omega)
  obtain ⟨y1, e1⟩ := one 1 (by omega)
  obtain ⟨y2, e2⟩ := one 2 (by omega)
  have g0 : DataW.trod enc Try.prog W 0 (fun _ => true) true k 3 (([c0, c1, c2].drop 0).take (Try.prog.cellsOf 3)) = some y0 := (hf 0 _ rfl).trans e0
  have g1 : DataW.trod enc Try.prog W 0 (fun _ => true) true k 3 (([c0, c1, c2].drop 1).take (Try.prog.cellsOf 3)) = some y1 := (hf 1 _ rfl).trans e1
  have g2 : DataW.trod enc Try.prog W 0 (fun _ => true) true k 3 (([c0, c1, c2].drop 2).take (Try.prog.cellsOf 3)) = some y2 := (hf 2 _ rfl).trans e2
  rw [k_c3] at g0 g1 g2
  obtain ⟨z0, q0, _, w0⟩ := DataW.trod_int Try.underlying3 g0
  obtain ⟨z1, q1, _, w1⟩ := DataW.trod_int Try.underlying3 g1
  obtain ⟨z2, q2, _, w2⟩ := DataW.trod_int Try.underlying3 g2
  simp at q0 q1 q2
  subst q0; subst q1; subst q2
  have rng : ∀ z : Int, (Lit.int .i64 z).wf = true → I64 z := fun z h => by
    have m0 : IntKind.i64.min = -9223372036854775808 := rfl
    unfold I64
    simp [Lit.wf] at h
    omega
  exact ⟨(z0, z1, z2), ⟨rng z0 w0, rng z1 w1, rng z2 w2⟩, rfl⟩

/-- An act that comes in by itself. -/
theorem open_one {v : Value} {d : DataW H} {pl : List MemPlace} (hv : ∃ cs, v = .agg cs ∧ cs.size = Try.prog.cellsOf 24) (h : DataW.Trod enc Try.prog W 0 (fun _ => true) true 24 v d pl) : ∃ a1 a2 a3, (I64 a1 ∧ I64 a2 ∧ I64 a3) ∧ v = actV a1 a2 a3 := by
  obtain ⟨cs, rfl, _⟩ := hv
  obtain ⟨fuel, hf⟩ := h
  obtain ⟨x, hx, e⟩ := open_act hf
  refine ⟨x.1, x.2.1, x.2.2, hx, ?_⟩
  have : cs.toList = [.int .i64 x.1, .int .i64 x.2.1, .int .i64 x.2.2] := by simpa [Value.cells] using e
  unfold actV
  congr 1
  apply Array.toList_inj.1
  simpa using this

theorem add_plain (b off k : Nat) : (⟨b, off, none⟩ : Addr).add k = ⟨b, off + k, none⟩ := by
  unfold Addr.add
  split <;> simp_all

/-- Acts as they come in. -/
theorem open_acts {v : Value} {d : DataW H} {pl : List MemPlace} (hv : ∃ a len cap, v = .slice a len cap) (h : DataW.Trod enc Try.prog W 0 (fun _ => true) true 22 v d pl) : ∃ n f, ActsIn W v n f := by
  obtain ⟨a0, len0, cap0, rfl⟩ := hv
  obtain ⟨fuel, hf⟩ := h
  rcases Deep.open_slice Try.underlying22 hf with ⟨hc, _⟩ | ⟨a, len, cap, m, n, D, Pl, hc, hsz, hl, hcp, hm, hx, hel⟩
  · have hc' : Value.slice a0 len0 cap0 = .slice none 0 0 := by simpa [Value.cells] using hc
    rw [hc']
    exact ⟨0, fun _ => (0, 0, 0), none, 0, rfl, Nat.zero_le _, fun h => absurd h (by omega)⟩
  · have hc' : Value.slice a0 len0 cap0 = .slice (some a) len cap := by simpa [Value.cells] using hc
    rw [hc']
    simp only [if_true] at hm
    subst hm
    rw [act_cells] at hel
    haveI : Inhabited A3 := ⟨(0, 0, 0)⟩
    obtain ⟨f, hfs⟩ := Deep.choose_lt (α := A3) (n := len) (p := fun i x => (I64 x.1 ∧ I64 x.2.1 ∧ I64 x.2.2) ∧ W.cells? 0 (a.add (i * 3)) 3 = some [.int .i64 x.1, .int .i64 x.2.1, .int .i64 x.2.2]) (fun i hi => by
      obtain ⟨cs', h1, h2⟩ := hel i (by omega)
      obtain ⟨x, hx, rfl⟩ := open_act h2
      exact ⟨x, hx, h1⟩)
    refine ⟨len, f, some a, _, rfl, by omega, fun h0 => ?_⟩
    have cell : ∀ i, i < len → ∀ k, k < 3 → W.cell? ((a.add (i * 3)).add k) = [Value.int .i64 (f i).1, .int .i64 (f i).2.1, .int .i64 (f i).2.2][k]? := fun i hi k hk => (World.cells?_some (hfs i hi).2).2.2 k hk
    have hspot : a.spot = none := by
      have h1 := cell 0 h0 0 (by omega)
      have h2 : (a.add (0 * 3)).add 0 = a := by simp [Addr.add]
      rw [h2] at h1
      have h3 : W.cell? a = some (.int .i64 (f 0).1) := h1
      unfold World.cell? at h3
      cases hsp : a.spot with
      | none => rfl
      | some _ =>
        rw [hsp] at h3
        split at h3
        · simp at h3
        · cases h3
    obtain ⟨b, off, spot⟩ := a
    dsimp only at hspot
    subst hspot
    refine ⟨b, off, rfl, ⟨fun i hi => by have h := cell i hi 0 (by omega); rw [add_plain, add_plain] at h; exact h, fun i hi => by have h := cell i hi 1 (by omega); rw [add_plain, add_plain] at h; exact h, fun i hi => by have h := cell i hi 2 (by omega); rw [add_plain, add_plain] at h; exact h, ?_, fun i hi => (hfs i hi).1⟩⟩
    have h1 : W.cell? ⟨b, off, none⟩ = some (.int .i64 (f 0).1) := by simpa [Addr.add] using cell 0 h0 0 (by omega)
    exact World.block_lt_of_cell? W _ h1

theorem kp_keptBut {W W' : World} (k : Kp (fun _ => False) W W') (may : MemPlace → Prop) : W.keptBut W' may := by
  refine ⟨k.os, k.output, fun i hi => ?_⟩
  rw [k.block i hi (fun h => h)]
  split
  · rename_i c t fr c' t' fr' h1 h2
    rw [h1] at h2
    injection h2 with h2
    injection h2 with h2 h3 h4
    subst h2; subst h3; subst h4
    exact ⟨rfl, rfl, rfl, fun _ _ => rfl⟩
  · rename_i es clock es' clock' h1 h2
    rw [h1] at h2
    injection h2 with h2
    injection h2 with h2 h3
    exact Or.inr ⟨h2.symm, h3.symm⟩
  · rfl

theorem kp_sameAt {W W' : World} (k : Kp (fun _ => False) W W') (p : MemPlace) (hp : p.block < W.heap.size) : W.sameAt W' p := by
  cases p with
  | cell b off => exact k.cell (a := ⟨b, off, none⟩) hp (fun h => h)
  | map b => exact k.block b hp (fun h => h)

end

set_option maxRecDepth 100000 in
theorem wins_contract (H : Type) (enc : TypeId × Value → H) (W : World) (base : Nat) (args : Array Value) (ds gs : List (DataW H)) (before : List MemPlace)
    (hval : ∀ (j : Nat) t v, Try.f4.params[j]? = some t → args[j]? = some v → Value.okWide Try.prog W .any base t v)
    (hW : DataW.Whole enc Try.prog Try.f4.params.toList Rows.winsSpec.vars false W args.toList ds gs before) :
    Calls Try.prog 4 args W fun e W' => ∃ v, e = .returned v ∧ Rows.winsSpec.post enc Try.prog Try.f4 false true false false W args v W' := by
  have hW' := hW
  have hlt := hW.lt
  obtain ⟨p, q, hA0, hV, rfl, hfz, hnd⟩ := hW
  have hA : DataW.TrodAll enc Try.prog W 0 (fun _ => true) true Try.f4.params.toList args.toList ds p := hA0
  rw [Try.params4] at hA hval
  obtain ⟨v0, vs0, d0, ds0, p0, q0, hargs, rfl, rfl, h0, r0⟩ := trodAll_cons hA
  obtain ⟨v1, vs1, d1, ds1, p1, q1, rfl, rfl, rfl, h1, r1⟩ := trodAll_cons r0
  obtain ⟨v2, vs2, d2, ds2, p2, q2, rfl, rfl, rfl, h2, r2⟩ := trodAll_cons r1
  obtain ⟨v3, vs3, d3, ds3, p3, q3, rfl, rfl, rfl, h3, r3⟩ := trodAll_cons r2
  obtain ⟨rfl, rfl, rfl⟩ := trodAll_nil r3
  obtain rfl : args = #[v0, v1, v2, v3] := by cases args; simp_all
  obtain ⟨rfl, rfl⟩ := trodVars_none hV
  clear hA0
  simp only [List.append_nil] at hW' hlt
  obtain ⟨n, f, hs⟩ := open_acts (okWide_slice Try.underlying22 (hval 0 22 v0 rfl rfl)) h0
  obtain ⟨a1, a2, a3, ha, rfl⟩ := open_one (okWide_struct Try.underlying24 (hval 1 24 v1 rfl rfl)) h1
  obtain ⟨b1, b2, b3, hb, rfl⟩ := open_one (okWide_struct Try.underlying24 (hval 2 24 v2 rfl rfl)) h2
  obtain ⟨c1, c2, c3, hc, rfl⟩ := open_one (okWide_struct Try.underlying24 (hval 3 24 v3 rfl rfl)) h3
  refine e_wins W v0 n f hs a1 a2 a3 b1 b2 b3 c1 c2 c3 ⟨ha.1, ha.2.1⟩ ⟨hb.1, hb.2.1⟩ hc (fun W' k => ⟨_, rfl, ?_⟩)
  have st : ∀ {t : TypeId} {v : Value} {d : DataW H} {pl : List MemPlace}, Try.prog.readableRec t = true → t < Try.prog.types.size → DataW.Trod enc Try.prog W 0 (fun _ => true) true t v d pl → (∀ p ∈ pl, p.block < W.heap.size) → DataW.Trod enc Try.prog W' 0 (fun b => decide (b < W.heap.size)) true t v d pl := fun hr ht h hb =>
    Go.WideElems.Trod_stays k_laid hr ht (sp' := fun b => decide (b < W.heap.size)) h (fun p hp => kp_sameAt k p (hb p hp)) (fun p hp => by simpa using hb p hp)
  refine ⟨[d0, d1, d2, d3], [], p0 ++ (p1 ++ (p2 ++ p3)), [], p0 ++ (p1 ++ (p2 ++ p3)), [], hW', trodAll_cons_mk (shut_bool Try.underlying4 _) trodAll_mk0, ?_, rfl, kp_keptBut k _, fun h => by cases h⟩
  have s0 := st acts_readable acts_row h0 (fun p hp => hlt p (by simp [hp]))
  have s1 := st act_readable act_row h1 (fun p hp => hlt p (by simp [hp]))
  have s2 := st act_readable act_row h2 (fun p hp => hlt p (by simp [hp]))
  have s3 := st act_readable act_row h3 (fun p hp => hlt p (by simp [hp]))
  have := trodAll_cons_mk s0 (trodAll_cons_mk s1 (trodAll_cons_mk s2 (trodAll_cons_mk s3 (trodAll_mk0 (enc := enc) (P := Try.prog) (w := W') (base := 0) (spare := fun b => decide (b < W.heap.size)) (held := true)))))
  show DataW.TrodAll enc Try.prog W' 0 (fun b => decide (b < W.heap.size)) true Try.f4.params.toList _ _ _
  rw [Try.params4]
  rw [List.append_nil] at this
  exact this

set_option maxRecDepth 100000 in
theorem wins_lifted (os : Os) (started : os.Started) (H : Type) (enc : TypeId × Value → H) :
    ReturnsInHanded {} Try.checked os 4 .any (Rows.winsSpec.pre6 enc Try.prog Try.f4 Rows.winsRow.domain false) (Rows.winsSpec.post enc Try.prog Try.f4 false true false false) := by
  refine returnsInHanded_of_change (C := Try.checked) kp_own started (by kernel_rfl) Try.func4
    (ChangeSpec.witness6 (enc := enc) (C := Try.checked) false ⟨#[], #[.slice none 0 0, .agg #[.int .i64 0, .int .i64 0, .int .i64 0], .agg #[.int .i64 0, .int .i64 0, .int .i64 0], .agg #[.int .i64 0, .int .i64 0, .int .i64 0]], []⟩ 8 (by kernel_rfl) (by kernel_rfl) (by kernel_rfl) (by kernel_rfl)) ?_
  intro W base args ds gs before hval hW _ _
  exact wins_contract H enc W base args ds gs before hval hW

set_option maxRecDepth 100000 in
theorem wins_holds : Rows.WinsSaid :=
  OpenClaim.holds_of_wide 4 Try.f4 rfl rfl rfl rfl rfl rfl rfl ⟨rfl, rfl, rfl, rfl, rfl⟩ rfl rfl rfl rfl rfl (by kernel_rfl) Try.func4 (by kernel_rfl)
    (of_decide_eq_true (by kernel_rfl)) (by unfold Func.isWrapper; first | (rw [if_pos (by decide +kernel)]; kernel_rfl) | (rw [if_neg (by decide +kernel)]; exact ⟨rfl, rfl⟩))
    (fun os started H enc _ => wins_lifted os started H enc)

end Go.Proofs.Ytnidlcpjjgmclaa
