/-
  DERIVED. GIVEN WITH THE SEED: THE CARDS: each row of YthbdpfccfcceiaaDoorRows.lean that lists a variable, with what it lists TIED to the program's text (the seventh form; the later family's looks); each row that meets fmt, with fmt's text TOLD by the authors' own Lean function (tested against real Go, not proved from fmt's source: count such statements apart). THE CARD IS WHAT COUNTS. Prove the row's statement (the work); the ties are given (YthbdpfccfcceiaaDoorTie.lean); close each card by the builder's one call (the guide's Derived/Test/ToyasCard.lean, 'card_holds'). Laid BY PROGRAM, IN A SANDBOX (cutbox-door.mjs). By AI agents, Wed Nov 11 2026. No macro, syntax, notation, axiom, sorry.
-/
import Derived.Test.YthbdpfccfcceiaaDoorRows
import GoSem.ClaimSeven
namespace Go.Proofs.YthbdpfccfcceiaaDoor
namespace Rows

/-- THE TIED CARD OF 'palimpsestkeep.Isolated'. -/
def isolatedCard : Claim7 := { stood := { row := isolatedRow, standIns := [], harness := (true, "fbb192662be4b05aa5caccc0a9171622f84404226f72520e90673f6cb1c08686"), looks := false }, kinds := [], alts := [], laidByText := true, laidKinds := [.data, .data], laidTests := true, laidLooks := .later }
def IsolatedCardSaid : Prop := Claim7.holds Tryd.pinned (.plain (OpenSpec.ofChange isolatedSpec)) isolatedCard

/-- THE TIED CARD OF 'palimpsestkeep.Wins'. -/
def winsCard : Claim7 := { stood := { row := winsRow, standIns := [], harness := (true, "fbb192662be4b05aa5caccc0a9171622f84404226f72520e90673f6cb1c08686"), looks := false }, kinds := [], alts := [], laidByText := true, laidKinds := [.data, .data], laidTests := true, laidLooks := .later }
def WinsCardSaid : Prop := Claim7.holds Tryd.pinned (.plain (OpenSpec.ofChange winsSpec)) winsCard

/-- THE TIED CARD OF 'palimpsestkeep.Vacuumed'. -/
def vacuumedCard : Claim7 := { stood := { row := vacuumedRow, standIns := [], harness := (true, "fbb192662be4b05aa5caccc0a9171622f84404226f72520e90673f6cb1c08686"), looks := false }, kinds := [], alts := [], laidByText := true, laidKinds := [.data, .data], laidTests := true, laidLooks := .later }
def VacuumedCardSaid : Prop := Claim7.holds Tryd.pinned (.plain (OpenSpec.ofChange vacuumedSpec)) vacuumedCard

/-- THE SECOND FORM's CARD OF 'palimpsestkeep.Isolated'. -/
def isolatedUptoCard : Claim7 := { stood := { row := isolatedUptoRow, standIns := [], harness := (true, "fbb192662be4b05aa5caccc0a9171622f84404226f72520e90673f6cb1c08686"), looks := false }, kinds := [], alts := [], laidByText := true, laidKinds := [.data, .data], laidTests := true, laidLooks := .later }
def IsolatedUptoCardSaid : Prop := Claim7.holds Tryd.pinned (.plain (OpenSpec.upto isolatedSpec)) isolatedUptoCard

/-- THE SECOND FORM's CARD OF 'palimpsestkeep.Wins'. -/
def winsUptoCard : Claim7 := { stood := { row := winsUptoRow, standIns := [], harness := (true, "fbb192662be4b05aa5caccc0a9171622f84404226f72520e90673f6cb1c08686"), looks := false }, kinds := [], alts := [], laidByText := true, laidKinds := [.data, .data], laidTests := true, laidLooks := .later }
def WinsUptoCardSaid : Prop := Claim7.holds Tryd.pinned (.plain (OpenSpec.upto winsSpec)) winsUptoCard

/-- THE SECOND FORM's CARD OF 'palimpsestkeep.Vacuumed'. -/
def vacuumedUptoCard : Claim7 := { stood := { row := vacuumedUptoRow, standIns := [], harness := (true, "fbb192662be4b05aa5caccc0a9171622f84404226f72520e90673f6cb1c08686"), looks := false }, kinds := [], alts := [], laidByText := true, laidKinds := [.data, .data], laidTests := true, laidLooks := .later }
def VacuumedUptoCardSaid : Prop := Claim7.holds Tryd.pinned (.plain (OpenSpec.upto vacuumedSpec)) vacuumedUptoCard
end Rows
end Go.Proofs.YthbdpfccfcceiaaDoor
