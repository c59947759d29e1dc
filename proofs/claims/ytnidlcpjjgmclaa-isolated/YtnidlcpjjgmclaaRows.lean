/-
  No cell of these rows narrows 'for every input' (looked for: loops, veiled, ifaces, maps, wideKeys, modest, calm, conditions, laid).
  DERIVED. THE GIVEN ROWS OF THIS SEAT. 3 by the template 'for every input the law returns true; each argument reads behind the call as it read before'; 0 by the template 'total and deterministic' (their statements: YtnidlcpjjgmclaaTotals.lean).
  GIVEN WITH THE SEED: the statements are not yours to turn. If you find one false, say at which input.
  Laid BY PROGRAM, IN A SANDBOX (cutbox-rows.mjs): the forced cells as the released guide's own fill.sh prints them over the translation 52f4cd2dedd50707… (all of the seat's roots in one cut). By AI agents, Wed Nov 11 2026. No macro, syntax, notation, axiom, sorry.
-/
import Derived.Test.YtnidlcpjjgmclaaChecked
import GoSem.Claim
import GoSem.ClaimJoined
import GoSem.ClaimMapViews
import Derived.JoinedTies
import Derived.KernelRfl
namespace Go.Proofs.Ytnidlcpjjgmclaa
/- THE CELL 'sum', in the pinned program and in every row, IS THE sha256 OF THE DUMP (.gsa) THAT YtnidlcpjjgmclaaProg.lean LOADS. Nothing in Lean hashes anything: it is a label: what it is worth is what the hold of that sum in a sandbox is worth. -/
noncomputable def Try.pinned : Pinned := { name := "ytnidlcpjjgmclaa", sum := "52f4cd2dedd507078c21b7f35e54f0449d0a2e9bef624449c2fb97993c68a9ad", checked := Try.checked }
namespace Rows
def none {H : Type} : Left H := { results := [], args := [] }

/-- 'palimpsestkeep.Isolated': WHATEVER THE INPUT: true; the input reads as it did. -/
def isolatedSpec : ChangeSpec := { name := "isolated", fn := fun _ => fun
  | [d1, d2, d3] => { results := [.lit (.bool true)], args := [d1, d2, d3] }
  | _ => none }
def isolatedRow : OpenClaim := { program := "ytnidlcpjjgmclaa", sum := "52f4cd2dedd507078c21b7f35e54f0449d0a2e9bef624449c2fb97993c68a9ad", func := "palimpsest/palimpsestkeep.Isolated", spec := "isolated", recurses := true, plainKeys := false, apart := false }
def IsolatedSaid : Prop := isolatedRow.holds Try.pinned (OpenSpec.ofChange isolatedSpec)

/-- ITS FALSE NEIGHBOUR: 'it returns false'. Refute it at one input. -/
def isolatedWrong : ChangeSpec := { name := "isolated", fn := fun _ => fun
  | [d1, d2, d3] => { results := [.lit (.bool false)], args := [d1, d2, d3] }
  | _ => none }
def IsolatedWrongFalsely : Prop := isolatedRow.holds Try.pinned (OpenSpec.ofChange isolatedWrong)

/-- 'palimpsestkeep.Wins': WHATEVER THE INPUT: true; the input reads as it did. -/
def winsSpec : ChangeSpec := { name := "wins", fn := fun _ => fun
  | [d1, d2, d3, d4] => { results := [.lit (.bool true)], args := [d1, d2, d3, d4] }
  | _ => none }
def winsRow : OpenClaim := { program := "ytnidlcpjjgmclaa", sum := "52f4cd2dedd507078c21b7f35e54f0449d0a2e9bef624449c2fb97993c68a9ad", func := "palimpsest/palimpsestkeep.Wins", spec := "wins", plainKeys := false, apart := false }
def WinsSaid : Prop := winsRow.holds Try.pinned (OpenSpec.ofChange winsSpec)

/-- ITS FALSE NEIGHBOUR: 'it returns false'. Refute it at one input. -/
def winsWrong : ChangeSpec := { name := "wins", fn := fun _ => fun
  | [d1, d2, d3, d4] => { results := [.lit (.bool false)], args := [d1, d2, d3, d4] }
  | _ => none }
def WinsWrongFalsely : Prop := winsRow.holds Try.pinned (OpenSpec.ofChange winsWrong)

/-- 'palimpsestkeep.Vacuumed': WHATEVER THE INPUT: true; the input reads as it did. -/
def vacuumedSpec : ChangeSpec := { name := "vacuumed", fn := fun _ => fun
  | [d1, d2, d3] => { results := [.lit (.bool true)], args := [d1, d2, d3] }
  | _ => none }
def vacuumedRow : OpenClaim := { program := "ytnidlcpjjgmclaa", sum := "52f4cd2dedd507078c21b7f35e54f0449d0a2e9bef624449c2fb97993c68a9ad", func := "palimpsest/palimpsestkeep.Vacuumed", spec := "vacuumed", recurses := true, plainKeys := false, apart := false }
def VacuumedSaid : Prop := vacuumedRow.holds Try.pinned (OpenSpec.ofChange vacuumedSpec)

/-- ITS FALSE NEIGHBOUR: 'it returns false'. Refute it at one input. -/
def vacuumedWrong : ChangeSpec := { name := "vacuumed", fn := fun _ => fun
  | [d1, d2, d3] => { results := [.lit (.bool false)], args := [d1, d2, d3] }
  | _ => none }
def VacuumedWrongFalsely : Prop := vacuumedRow.holds Try.pinned (OpenSpec.ofChange vacuumedWrong)

/- THE SECOND FORM. 'bulk': how many values and letters a reading holds, each counted each time it is reached (what is shared counts as often as it is met; a slice's spare places count too). A statement '..UptoSaid' is the law's where the arguments, and the package variables that the reading takes, are together of bulk at most 1048576: NARROWER than '..Said'. Prove '..Said' where nothing that the law and all that it calls make is longer than what came in: it says more and counts as full. Else prove '..UptoSaid'. A law counts once. -/
mutual
def uptoBulk {H : Type} : DataW H → Nat
  | .lit (.string bytes) => bytes.length + 1
  | .lit _ => 1
  | .nil => 1
  | .ptr d => uptoBulk d + 1
  | .slice elems spare => uptoBulkAll elems + uptoBulkAll spare + 1
  | .agg parts => uptoBulkAll parts + 1
  | .iface _ d => uptoBulk d + 1
  | .map entries => uptoBulkEntries entries + 1
  | .held _ => 1
def uptoBulkAll {H : Type} : List (DataW H) → Nat
  | [] => 0
  | d :: r => uptoBulk d + uptoBulkAll r
def uptoBulkEntries {H : Type} : List (Lit × DataW H) → Nat
  | [] => 0
  | x :: r => uptoBulkEntry x + uptoBulkEntries r
def uptoBulkEntry {H : Type} : Lit × DataW H → Nat
  | (.string bytes, d) => bytes.length + uptoBulk d + 1
  | (_, d) => uptoBulk d + 1
 end
def uptoSmall : (H : Type) → List (DataW H) → Bool := fun _ ds => decide (uptoBulkAll ds ≤ 1048576)
def OpenSpec.upto (s : _root_.Go.ChangeSpec) : _root_.Go.OpenSpec := { _root_.Go.OpenSpec.ofChange s with cond := some uptoSmall }

/-- 'palimpsestkeep.Isolated', WHERE WHAT IT READS IS OF BULK AT MOST 1048576: true; the input reads as it did. -/
def isolatedUptoRow : OpenClaim := { program := "ytnidlcpjjgmclaa", sum := "52f4cd2dedd507078c21b7f35e54f0449d0a2e9bef624449c2fb97993c68a9ad", func := "palimpsest/palimpsestkeep.Isolated", spec := "isolated", recurses := true, plainKeys := false, apart := false, narrowed := true }
def IsolatedUptoSaid : Prop := isolatedUptoRow.holds Try.pinned (OpenSpec.upto isolatedSpec)

/-- 'palimpsestkeep.Wins', WHERE WHAT IT READS IS OF BULK AT MOST 1048576: true; the input reads as it did. -/
def winsUptoRow : OpenClaim := { program := "ytnidlcpjjgmclaa", sum := "52f4cd2dedd507078c21b7f35e54f0449d0a2e9bef624449c2fb97993c68a9ad", func := "palimpsest/palimpsestkeep.Wins", spec := "wins", plainKeys := false, apart := false, narrowed := true }
def WinsUptoSaid : Prop := winsUptoRow.holds Try.pinned (OpenSpec.upto winsSpec)

/-- 'palimpsestkeep.Vacuumed', WHERE WHAT IT READS IS OF BULK AT MOST 1048576: true; the input reads as it did. -/
def vacuumedUptoRow : OpenClaim := { program := "ytnidlcpjjgmclaa", sum := "52f4cd2dedd507078c21b7f35e54f0449d0a2e9bef624449c2fb97993c68a9ad", func := "palimpsest/palimpsestkeep.Vacuumed", spec := "vacuumed", recurses := true, plainKeys := false, apart := false, narrowed := true }
def VacuumedUptoSaid : Prop := vacuumedUptoRow.holds Try.pinned (OpenSpec.upto vacuumedSpec)

end Rows
end Go.Proofs.Ytnidlcpjjgmclaa
