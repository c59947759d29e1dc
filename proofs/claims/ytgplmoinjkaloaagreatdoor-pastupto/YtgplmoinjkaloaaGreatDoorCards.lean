/-
  DERIVED. GIVEN WITH THE SEED: THE CARDS: each row of YtgplmoinjkaloaaGreatDoorRows.lean that lists a variable, with what it lists TIED to the program's text (the seventh form; the later family's looks); each row that meets fmt, with fmt's text TOLD by the authors' own Lean function (tested against real Go, not proved from fmt's source: count such statements apart). THE CARD IS WHAT COUNTS. Prove the row's statement (the work); the ties are given (YtgplmoinjkaloaaGreatDoorTie.lean); close each card by the builder's one call (the guide's Derived/Test/ToyasCard.lean, 'card_holds'). Laid BY PROGRAM, IN A SANDBOX (cutbox-door.mjs). By AI agents, Wed Nov 11 2026. No macro, syntax, notation, axiom, sorry.
-/
import Derived.Test.YtgplmoinjkaloaaGreatDoorRows
import GoSem.ClaimSeven
namespace Go.Proofs.YtgplmoinjkaloaaGreatDoor
namespace Rows

/-- THE TIED CARD OF 'palimpsestlaw.Txs'. -/
def txsCard : Claim7 := { stood := { row := txsRow, standIns := [], harness := (true, "3545e8dc49139814fcffb1e81d23cb0d1500a16a487e4f8d2bf6bedcd9d07f35"), looks := false }, kinds := [], alts := [], laidByText := true, laidKinds := [.data, .data], laidTests := true, laidLooks := .later }
def TxsCardSaid : Prop := Claim7.holds Tryz.pinned (.plain (OpenSpec.ofChange txsSpec)) txsCard

/-- THE TIED CARD OF 'palimpsestlaw.Past'. -/
def pastCard : Claim7 := { stood := { row := pastRow, standIns := [], harness := (true, "3545e8dc49139814fcffb1e81d23cb0d1500a16a487e4f8d2bf6bedcd9d07f35"), looks := false }, kinds := [], alts := [], laidByText := true, laidKinds := [.data, .data], laidTests := true, laidLooks := .later }
def PastCardSaid : Prop := Claim7.holds Tryz.pinned (.plain (OpenSpec.ofChange pastSpec)) pastCard

/-- THE TIED CARD OF 'palimpsestlaw.Logs'. -/
def logsCard : Claim7 := { stood := { row := logsRow, standIns := [], harness := (true, "3545e8dc49139814fcffb1e81d23cb0d1500a16a487e4f8d2bf6bedcd9d07f35"), looks := false }, kinds := [], alts := [], laidByText := true, laidKinds := [.data, .data], laidTests := true, laidLooks := .later }
def LogsCardSaid : Prop := Claim7.holds Tryz.pinned (.plain (OpenSpec.ofChange logsSpec)) logsCard

/-- THE TIED CARD OF 'palimpsestkeep.Fallen'. -/
def fallenCard : Claim7 := { stood := { row := fallenRow, standIns := [], harness := (true, "3545e8dc49139814fcffb1e81d23cb0d1500a16a487e4f8d2bf6bedcd9d07f35"), looks := false }, kinds := [], alts := [], laidByText := true, laidKinds := [.data, .data], laidTests := true, laidLooks := .later }
def FallenCardSaid : Prop := Claim7.holds Tryz.pinned (.plain (OpenSpec.ofChange fallenSpec)) fallenCard

/-- THE SECOND FORM's CARD OF 'palimpsestlaw.Txs'. -/
def txsUptoCard : Claim7 := { stood := { row := txsUptoRow, standIns := [], harness := (true, "3545e8dc49139814fcffb1e81d23cb0d1500a16a487e4f8d2bf6bedcd9d07f35"), looks := false }, kinds := [], alts := [], laidByText := true, laidKinds := [.data, .data], laidTests := true, laidLooks := .later }
def TxsUptoCardSaid : Prop := Claim7.holds Tryz.pinned (.plain (OpenSpec.upto txsSpec)) txsUptoCard

/-- THE SECOND FORM's CARD OF 'palimpsestlaw.Past'. -/
def pastUptoCard : Claim7 := { stood := { row := pastUptoRow, standIns := [], harness := (true, "3545e8dc49139814fcffb1e81d23cb0d1500a16a487e4f8d2bf6bedcd9d07f35"), looks := false }, kinds := [], alts := [], laidByText := true, laidKinds := [.data, .data], laidTests := true, laidLooks := .later }
def PastUptoCardSaid : Prop := Claim7.holds Tryz.pinned (.plain (OpenSpec.upto pastSpec)) pastUptoCard

/-- THE SECOND FORM's CARD OF 'palimpsestlaw.Logs'. -/
def logsUptoCard : Claim7 := { stood := { row := logsUptoRow, standIns := [], harness := (true, "3545e8dc49139814fcffb1e81d23cb0d1500a16a487e4f8d2bf6bedcd9d07f35"), looks := false }, kinds := [], alts := [], laidByText := true, laidKinds := [.data, .data], laidTests := true, laidLooks := .later }
def LogsUptoCardSaid : Prop := Claim7.holds Tryz.pinned (.plain (OpenSpec.upto logsSpec)) logsUptoCard

/-- THE SECOND FORM's CARD OF 'palimpsestkeep.Fallen'. -/
def fallenUptoCard : Claim7 := { stood := { row := fallenUptoRow, standIns := [], harness := (true, "3545e8dc49139814fcffb1e81d23cb0d1500a16a487e4f8d2bf6bedcd9d07f35"), looks := false }, kinds := [], alts := [], laidByText := true, laidKinds := [.data, .data], laidTests := true, laidLooks := .later }
def FallenUptoCardSaid : Prop := Claim7.holds Tryz.pinned (.plain (OpenSpec.upto fallenSpec)) fallenUptoCard
end Rows
end Go.Proofs.YtgplmoinjkaloaaGreatDoor
