/-
  The tables of the program, as the row lists them: what the walks ask of memory.
-/
import Derived.Test.YthbdpfccfcceiaaDoorD1
import Derived.Test.YthbdpfccfcceiaaDoorRows
import Derived.ProofKit
import Derived.LaidMore
import Derived.OpenShut
import Derived.Stop.Joined
namespace Go.Proofs.YthbdpfccfcceiaaDoor
open Go.ChangeShapes Go.WideShapes Go.ChangeAt Go.RowKit

abbrev laid2 : List (String × DataW Unit) := Rows.winsRow.laid
def nLow : String := match laid2 with | x :: _ => x.1 | [] => Rows.winsRow.func
def nHigh : String := match laid2 with | _ :: x :: _ => x.1 | _ => Rows.winsRow.func

theorem gLow : Tryd.prog.globalNamed nLow = some 0 := by kernel_rfl
theorem gHigh : Tryd.prog.globalNamed nHigh = some 1 := by kernel_rfl
theorem tLow : (Tryd.prog.globals[0]?).map (·.type) = some 160 := by kernel_rfl
theorem tHigh : (Tryd.prog.globals[1]?).map (·.type) = some 160 := by kernel_rfl
theorem c_u32 : Tryd.prog.cellsOf 138 = 1 := by kernel_rfl

def litI : DataW Unit → Int
  | .lit (.int _ n) => n
  | _ => 0
def partsI : DataW Unit → List Int
  | .agg l => l.map litI
  | _ => []
theorem low_crc : partsI Rows.laid_palimpsest_sums_lowSums = (List.range 128).map fun i => (crc8 i : Int) := by decide +kernel
theorem high_crc : partsI Rows.laid_palimpsest_sums_highSums = (List.range 128).map fun i => (crc8 (i + 128) : Int) := by decide +kernel

/-- A table that reads as a list of numbers. -/
theorem table_cells {W : World} {n : String} {g : Nat} {d : DataW Unit} {cs : Array Value} {fuel : Nat} {ps : List MemPlace} {f : Nat → Nat} (hg : Tryd.prog.globalNamed n = some g) (hv : W.var? Tryd.prog n = some cs) (hd : DataW.trod (fun _ => ()) Tryd.prog W 0 (fun _ => true) false fuel 160 cs.toList = some (d, ps)) (hp : partsI d = (List.range 128).map fun i => (f i : Int)) :
    ∀ i : Nat, i < 128 → W.cell? ⟨g, i, none⟩ = some (.int .u32 (f i : Nat)) := by
  intro i hi
  obtain ⟨xs, m, _, hx, _, hxl, hel⟩ := DataW.trod_array Tryd.underlying160 hd
  have h0 := hel i hi
  rw [c_u32, Nat.mul_one] at h0
  rw [List.getElem?_eq_getElem (by omega)] at h0
  obtain ⟨k, e1, e2, _⟩ := DataW.trod_int Tryd.underlying138 h0
  have hk : k = (f i : Int) := by
    have h1 : (partsI d)[i]? = some (f i : Int) := by rw [hp, List.getElem?_map, List.getElem?_range hi]; rfl
    have hd' : d = .agg (xs.map (·.1)) := by injection hx
    rw [hd'] at h1
    simp only [partsI, List.map_map, List.getElem?_map] at h1
    rw [List.getElem?_eq_getElem (by omega), e2] at h1
    simpa [litI] using h1
  subst hk
  rw [World.var?_cell hg hv i]
  rw [← Array.getElem?_toList]
  have : (cs.toList.drop i).head? = some (.int .u32 (f i : Nat)) := by
    have h2 := congrArg List.head? e1
    rw [List.head?_take] at h2
    simpa using h2
  rw [List.head?_drop] at this
  exact this

theorem tab_of_laid {W : World} (h : laidMetH Tryd.prog laid2 W) : Tab W := by
  rw [MakeChecks.laidMetH_plain _ _ _ (by kernel_rfl)] at h
  obtain ⟨ps, ⟨g0, t0, cs0, f0, p0, q0, hg0, ht0, hv0, hd0, ⟨g1, t1, cs1, f1, p1, q1, hg1, ht1, hv1, hd1, _, _⟩, _⟩, _, _⟩ := h
  obtain rfl := Option.some.inj (gLow.symm.trans hg0)
  obtain rfl := Option.some.inj (gHigh.symm.trans hg1)
  obtain rfl := Option.some.inj (tLow.symm.trans ht0)
  obtain rfl := Option.some.inj (tHigh.symm.trans ht1)
  exact fun i hi => ⟨table_cells gLow hv0 hd0 low_crc i hi, table_cells (f := fun i => crc8 (i + 128)) gHigh hv1 hd1 high_crc i hi⟩

theorem door_met (os : Os) (args : Array Value) : laidMetH Tryd.prog laid2 ((World.doorLaid Tryd.prog 400 os).forCall (fun _ _ => 0) ⟨#[], args, []⟩).memory :=
  laidMetH_of_parts3 (fuel := 8) (laidMet_of_run' 8 (by kernel_rfl) (by kernel_rfl)) (by kernel_rfl) (by kernel_rfl)

end Go.Proofs.YthbdpfccfcceiaaDoor
