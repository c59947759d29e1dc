/-
  Acts as they come in: how the arguments of the laws lie in memory.
  The tables of the program, as the row lists them: what the walks ask of memory.
-/
import Derived.Test.YthbdpfccfcceiaaDoorE6
import Derived.Test.YthbdpfccfcceiaaDoorRows
import Derived.ProofKit
import Derived.OpenShut
import Derived.WideKeyArgs
import Derived.Deep.Slices
import Derived.Test.YthbdpfccfcceiaaDoorY2D1
import Derived.LaidMore
import Derived.Stop.Joined
namespace Go.Proofs.YthbdpfccfcceiaaDoor
open Go.ChangeShapes Go.WideShapes Go.ChangeAt Go.RowKit

theorem kp_own : ownKnob Tryd.prog.godebug = none := by kernel_rfl
theorem act_cells : Tryd.prog.cellsOf 24 = 3 := by kernel_rfl
theorem k_c3 : Tryd.prog.cellsOf 3 = 1 := by kernel_rfl
theorem k_laid : laidOutB Tryd.prog = true := by kernel_rfl
theorem acts_readable : Tryd.prog.readableRec 22 = true := by kernel_rfl
theorem acts_row : 22 < Tryd.prog.types.size := of_decide_eq_true (by kernel_rfl)
theorem act_readable : Tryd.prog.readableRec 24 = true := by kernel_rfl
theorem act_row : 24 < Tryd.prog.types.size := of_decide_eq_true (by kernel_rfl)

theorem list_three {cs : List Value} (h : cs.length = 3) : ∃ c0 c1 c2, cs = [c0, c1, c2] := by
  match cs, h with
  | [c0, c1, c2], _ => exact ⟨c0, c1, c2, rfl⟩

section
variable {H : Type} {enc : TypeId × Value → H} {W : World}

/-- An act as it comes in. -/
theorem open_act {n : Nat} {cs : List Value} {d : DataW H} {pl : List MemPlace} (h : DataW.trod enc Tryd.prog W 0 (fun _ => true) true n 24 cs = some (d, pl)) : ∃ x : A3, (I64 x.1 ∧ I64 x.2.1 ∧ I64 x.2.2) ∧ cs = [.int .i64 x.1, .int .i64 x.2.1, .int .i64 x.2.2] := by
  obtain ⟨xs, k, _, hx, hlen, hxl, hf⟩ := DataW.trod_struct Tryd.underlying24 h
  rw [act_cells] at hlen
  have hxl3 : xs.length = 3 := hxl
  obtain ⟨c0, c1, c2, rfl⟩ := list_three hlen
  have one : ∀ (j : Nat), j < 3 → ∃ y, xs[j]? = some y := fun j hj => ⟨_, List.getElem?_eq_getElem (by omega)⟩
  obtain ⟨y0, e0⟩ := one 0 (by omega)
  obtain ⟨y1, e1⟩ := one 1 (by omega)
  obtain ⟨y2, e2⟩ := one 2 (by omega)
  have g0 : DataW.trod enc Tryd.prog W 0 (fun _ => true) true k 3 (([c0, c1, c2].drop 0).take (Tryd.prog.cellsOf 3)) = some y0 := (hf 0 _ rfl).trans e0
  have g1 : DataW.trod enc Tryd.prog W 0 (fun _ => true) true k 3 (([c0, c1, c2].drop 1).take (Tryd.prog.cellsOf 3)) = some y1 := (hf 1 _ rfl).trans e1
  have g2 : DataW.trod enc Tryd.prog W 0 (fun _ => true) true k 3 (([c0, c1, c2].drop 2).take (Tryd.prog.cellsOf 3)) = some y2 := (hf 2 _ rfl).trans e2
  rw [k_c3] at g0 g1 g2
  obtain ⟨z0, q0, _, w0⟩ := DataW.trod_int Tryd.underlying3 g0
  obtain ⟨z1, q1, _, w1⟩ := DataW.trod_int Tryd.underlying3 g1
  obtain ⟨z2, q2, _, w2⟩ := DataW.trod_int Tryd.underlying3 g2
  simp at q0 q1 q2
  subst q0; subst q1; subst q2
  have rng : ∀ z : Int, (Lit.int .i64 z).wf = true → I64 z := fun z h => by
    have m0 : IntKind.i64.min = -9223372036854775808 := rfl
    unfold I64
    simp [Lit.wf] at h
    omega
  exact ⟨(z0, z1, z2), ⟨rng z0 w0, rng z1 w1, rng z2 w2⟩, rfl⟩

/-- An act that comes in by itself. -/
theorem open_one {v : Value} {d : DataW H} {pl : List MemPlace} (hv : ∃ cs, v = .agg cs ∧ cs.size = Tryd.prog.cellsOf 24) (h : DataW.Trod enc Tryd.prog W 0 (fun _ => true) true 24 v d pl) : ∃ a1 a2 a3, (I64 a1 ∧ I64 a2 ∧ I64 a3) ∧ v = actV a1 a2 a3 := by
  obtain ⟨cs, rfl, _⟩ := hv
  obtain ⟨fuel, hf⟩ := h
  obtain ⟨x, hx, e⟩ := open_act hf
  refine ⟨x.1, x.2.1, x.2.2, hx, ?_⟩
  have : cs.toList = [.int .i64 x.1, .int .i64 x.2.1, .int .i64 x.2.2] := by simpa [Value.cells] using e
  unfold actV
  congr 1
  apply Array.toList_inj.1
  simpa using this

theorem add_plain (b off k : Nat) : (⟨b, off, none⟩ : Addr).add k = ⟨b, off + k, none⟩ := by
  unfold Addr.add
  split <;> simp_all

/-- Acts as they come in. -/
theorem open_acts {v : Value} {d : DataW H} {pl : List MemPlace} (hv : ∃ a len cap, v = .slice a len cap) (h : DataW.Trod enc Tryd.prog W 0 (fun _ => true) true 22 v d pl) : ∃ n f, ActsIn W v n f := by
  obtain ⟨a0, len0, cap0, rfl⟩ := hv
  obtain ⟨fuel, hf⟩ := h
  rcases Deep.open_slice Tryd.underlying22 hf with ⟨hc, _⟩ | ⟨a, len, cap, m, n, D, Pl, hc, hsz, hl, hcp, hm, hx, hel⟩
  · have hc' : Value.slice a0 len0 cap0 = .slice none 0 0 := by simpa [Value.cells] using hc
    rw [hc']
    exact ⟨0, fun _ => (0, 0, 0), none, 0, rfl, Nat.zero_le _, fun h => absurd h (by omega)⟩
  · have hc' : Value.slice a0 len0 cap0 = .slice (some a) len cap := by simpa [Value.cells] using hc
    rw [hc']
    simp only [if_true] at hm
    subst hm
    rw [act_cells] at hel
    haveI : Inhabited A3 := ⟨(0, 0, 0)⟩
    obtain ⟨f, hfs⟩ := Deep.choose_lt (α := A3) (n := len) (p := fun i x => (I64 x.1 ∧ I64 x.2.1 ∧ I64 x.2.2) ∧ W.cells? 0 (a.add (i * 3)) 3 = some [.int .i64 x.1, .int .i64 x.2.1, .int .i64 x.2.2]) (fun i hi => by
      obtain ⟨cs', h1, h2⟩ := hel i (by omega)
      obtain ⟨x, hx, rfl⟩ := open_act h2
      exact ⟨x, hx, h1⟩)
    refine ⟨len, f, some a, _, rfl, by omega, fun h0 => ?_⟩
    have cell : ∀ i, i < len → ∀ k, k < 3 → W.cell? ((a.add (i * 3)).add k) = [Value.int .i64 (f i).1, .int .i64 (f i).2.1, .int .i64 (f i).2.2][k]? := fun i hi k hk => (World.cells?_some (hfs i hi).2).2.2 k hk
    have hspot : a.spot = none := by
      have h1 := cell 0 h0 0 (by omega)
      have h2 : (a.add (0 * 3)).add 0 = a := by simp [Addr.add]
      rw [h2] at h1
      have h3 : W.cell? a = some (.int .i64 (f 0).1) := h1
      unfold World.cell? at h3
      cases hsp : a.spot with
      | none => rfl
      | some _ =>
        rw [hsp] at h3
        split at h3
        · simp at h3
        · cases h3
    obtain ⟨b, off, spot⟩ := a
    dsimp only at hspot
    subst hspot
    refine ⟨b, off, rfl, ⟨fun i hi => by have h := cell i hi 0 (by omega); rw [add_plain, add_plain] at h; exact h, fun i hi => by have h := cell i hi 1 (by omega); rw [add_plain, add_plain] at h; exact h, fun i hi => by have h := cell i hi 2 (by omega); rw [add_plain, add_plain] at h; exact h, ?_, fun i hi => (hfs i hi).1⟩⟩
    have h1 : W.cell? ⟨b, off, none⟩ = some (.int .i64 (f 0).1) := by simpa [Addr.add] using cell 0 h0 0 (by omega)
    exact World.block_lt_of_cell? W _ h1

theorem kp_keptBut {W W' : World} (k : Kp (fun _ => False) W W') (may : MemPlace → Prop) : W.keptBut W' may := by
  refine ⟨k.os, k.output, fun i hi => ?_⟩
  rw [k.block i hi (fun h => h)]
  split
  · rename_i c t fr c' t' fr' h1 h2
    rw [h1] at h2
    injection h2 with h2
    injection h2 with h2 h3 h4
    subst h2; subst h3; subst h4
    exact ⟨rfl, rfl, rfl, fun _ _ => rfl⟩
  · rename_i es clock es' clock' h1 h2
    rw [h1] at h2
    injection h2 with h2
    injection h2 with h2 h3
    exact Or.inr ⟨h2.symm, h3.symm⟩
  · rfl

theorem kp_sameAt {W W' : World} (k : Kp (fun _ => False) W W') (p : MemPlace) (hp : p.block < W.heap.size) : W.sameAt W' p := by
  cases p with
  | cell b off => exact k.cell (a := ⟨b, off, none⟩) hp (fun h => h)
  | map b => exact k.block b hp (fun h => h)

end

end Go.Proofs.YthbdpfccfcceiaaDoor

namespace Go.Proofs.YthbdpfccfcceiaaDoor
open Go.ChangeShapes Go.WideShapes Go.ChangeAt Go.RowKit

abbrev laid2 : List (String × DataW Unit) := Rows.winsRow.laid
def nLow : String := match laid2 with | x :: _ => x.1 | [] => Rows.winsRow.func
def nHigh : String := match laid2 with | _ :: x :: _ => x.1 | _ => Rows.winsRow.func

theorem gLow : Tryd.prog.globalNamed nLow = some 0 := by kernel_rfl
theorem gHigh : Tryd.prog.globalNamed nHigh = some 1 := by kernel_rfl
theorem tLow : (Tryd.prog.globals[0]?).map (·.type) = some 160 := by kernel_rfl
theorem tHigh : (Tryd.prog.globals[1]?).map (·.type) = some 160 := by kernel_rfl
theorem c_u32 : Tryd.prog.cellsOf 138 = 1 := by kernel_rfl

def litI : DataW Unit → Int
  | .lit (.int _ n) => n
  | _ => 0
def partsI : DataW Unit → List Int
  | .agg l => l.map litI
  | _ => []
theorem low_crc : partsI Rows.laid_palimpsest_sums_lowSums = (List.range 128).map fun i => (crc8 i : Int) := by decide +kernel
theorem high_crc : partsI Rows.laid_palimpsest_sums_highSums = (List.range 128).map fun i => (crc8 (i + 128) : Int) := by decide +kernel

/-- A table that reads as a list of numbers. -/
theorem table_cells {W : World} {n : String} {g : Nat} {d : DataW Unit} {cs : Array Value} {fuel : Nat} {ps : List MemPlace} {f : Nat → Nat} (hg : Tryd.prog.globalNamed n = some g) (hv : W.var? Tryd.prog n = some cs) (hd : DataW.trod (fun _ => ()) Tryd.prog W 0 (fun _ => true) false fuel 160 cs.toList = some (d, ps)) (hp : partsI d = (List.range 128).map fun i => (f i : Int)) :
    ∀ i : Nat, i < 128 → W.cell? ⟨g, i, none⟩ = some (.int .u32 (f i : Nat)) := by
  intro i hi
  obtain ⟨xs, m, _, hx, _, hxl, hel⟩ := DataW.trod_array Tryd.underlying160 hd
  have h0 := hel i hi
  rw [c_u32, Nat.mul_one] at h0
  rw [List.getElem?_eq_getElem (by omega)] at h0
  obtain ⟨k, e1, e2, _⟩ := DataW.trod_int Tryd.underlying138 h0
  have hk : k = (f i : Int) := by
    have h1 : (partsI d)[i]? = some (f i : Int) := by rw [hp, List.getElem?_map, List.getElem?_range hi]; rfl
    have hd' : d = .agg (xs.map (·.1)) := by injection hx
    rw [hd'] at h1
    simp only [partsI, List.map_map, List.getElem?_map] at h1
    rw [List.getElem?_eq_getElem (by omega), e2] at h1
    simpa [litI] using h1
  subst hk
  rw [World.var?_cell hg hv i]
  rw [← Array.getElem?_toList]
  have : (cs.toList.drop i).head? = some (.int .u32 (f i : Nat)) := by
    have h2 := congrArg List.head? e1
    rw [List.head?_take] at h2
    simpa using h2
  rw [List.head?_drop] at this
  exact this

theorem tab_of_laid {W : World} (h : laidMetH Tryd.prog laid2 W) : Tab W := by
  rw [MakeChecks.laidMetH_plain _ _ _ (by kernel_rfl)] at h
  obtain ⟨ps, ⟨g0, t0, cs0, f0, p0, q0, hg0, ht0, hv0, hd0, ⟨g1, t1, cs1, f1, p1, q1, hg1, ht1, hv1, hd1, _, _⟩, _⟩, _, _⟩ := h
  obtain rfl := Option.some.inj (gLow.symm.trans hg0)
  obtain rfl := Option.some.inj (gHigh.symm.trans hg1)
  obtain rfl := Option.some.inj (tLow.symm.trans ht0)
  obtain rfl := Option.some.inj (tHigh.symm.trans ht1)
  exact fun i hi => ⟨table_cells gLow hv0 hd0 low_crc i hi, table_cells (f := fun i => crc8 (i + 128)) gHigh hv1 hd1 high_crc i hi⟩

theorem door_met (os : Os) (args : Array Value) : laidMetH Tryd.prog laid2 ((World.doorLaid Tryd.prog 400 os).forCall (fun _ _ => 0) ⟨#[], args, []⟩).memory :=
  laidMetH_of_parts3 (fuel := 8) (laidMet_of_run' 8 (by kernel_rfl) (by kernel_rfl)) (by kernel_rfl) (by kernel_rfl)

end Go.Proofs.YthbdpfccfcceiaaDoor
