/-
  DERIVED. GIVEN WITH THE SEED: THE CARDS: each row of YthbdpfccfcceiaaGreatDoorRows.lean that lists a variable, with what it lists TIED to the program's text (the seventh form; the later family's looks); each row that meets fmt, with fmt's text TOLD by the authors' own Lean function (tested against real Go, not proved from fmt's source: count such statements apart). THE CARD IS WHAT COUNTS. Prove the row's statement (the work); the ties are given (YthbdpfccfcceiaaGreatDoorTie.lean); close each card by the builder's one call (the guide's Derived/Test/ToyasCard.lean, 'card_holds'). Laid BY PROGRAM, IN A SANDBOX (cutbox-door.mjs). By AI agents, Wed Nov 11 2026. No macro, syntax, notation, axiom, sorry.
-/
import Derived.Test.YthbdpfccfcceiaaGreatDoorRows
import GoSem.ClaimSeven
namespace Go.Proofs.YthbdpfccfcceiaaGreatDoor
namespace Rows

/-- THE TIED CARD OF 'palimpsestlaw.Txs'. -/
def txsCard : Claim7 := { stood := { row := txsRow, standIns := [], harness := (true, "157e5769b4ea37ed7d104a7b13e671eb0661d794ffa42e4b7e4f41c96f4f6188"), looks := false }, kinds := [], alts := [], goes := true, laidByText := true, laidKinds := [.data, .data], laidTests := true, laidLooks := .later }
def TxsCardSaid : Prop := Claim7.holds Tryz.pinned (.plain (OpenSpec.ofChange txsSpec)) txsCard

/-- THE TIED CARD OF 'palimpsestlaw.Past'. -/
def pastCard : Claim7 := { stood := { row := pastRow, standIns := [], harness := (true, "157e5769b4ea37ed7d104a7b13e671eb0661d794ffa42e4b7e4f41c96f4f6188"), looks := false }, kinds := [], alts := [], goes := true, laidByText := true, laidKinds := [.data, .data], laidTests := true, laidLooks := .later }
def PastCardSaid : Prop := Claim7.holds Tryz.pinned (.plain (OpenSpec.ofChange pastSpec)) pastCard

/-- THE TIED CARD OF 'palimpsestlaw.Logs'. -/
def logsCard : Claim7 := { stood := { row := logsRow, standIns := [], harness := (true, "157e5769b4ea37ed7d104a7b13e671eb0661d794ffa42e4b7e4f41c96f4f6188"), looks := false }, kinds := [], alts := [], goes := true, laidByText := true, laidKinds := [.data, .data], laidTests := true, laidLooks := .later }
def LogsCardSaid : Prop := Claim7.holds Tryz.pinned (.plain (OpenSpec.ofChange logsSpec)) logsCard

/-- THE TIED CARD OF 'palimpsestkeep.Fallen'. -/
def fallenCard : Claim7 := { stood := { row := fallenRow, standIns := [], harness := (true, "157e5769b4ea37ed7d104a7b13e671eb0661d794ffa42e4b7e4f41c96f4f6188"), looks := false }, kinds := [], alts := [], goes := true, laidByText := true, laidKinds := [.data, .data], laidTests := true, laidLooks := .later }
def FallenCardSaid : Prop := Claim7.holds Tryz.pinned (.plain (OpenSpec.ofChange fallenSpec)) fallenCard

/-- THE TIED CARD OF 'palimpsestlaw.All'. -/
def allCard : Claim7 := { stood := { row := allRow, standIns := [], harness := (true, "157e5769b4ea37ed7d104a7b13e671eb0661d794ffa42e4b7e4f41c96f4f6188"), looks := false }, kinds := [], alts := [], goes := true, laidByText := true, laidKinds := [.data, .data], laidTests := true, laidLooks := .later }
def AllCardSaid : Prop := Claim7.holds Tryz.pinned (.plain (OpenSpec.ofChange allSpec)) allCard

/-- THE TIED CARD OF 'palimpsestkeep.Rebuilt'. -/
def rebuiltCard : Claim7 := { stood := { row := rebuiltRow, standIns := [], harness := (true, "157e5769b4ea37ed7d104a7b13e671eb0661d794ffa42e4b7e4f41c96f4f6188"), looks := false }, kinds := [], alts := [], goes := true, laidByText := true, laidKinds := [.data, .data], laidTests := true, laidLooks := .later }
def RebuiltCardSaid : Prop := Claim7.holds Tryz.pinned (.plain (OpenSpec.ofChange rebuiltSpec)) rebuiltCard

/-- THE TIED CARD OF 'palimpsestkeep.Hurt'. -/
def hurtCard : Claim7 := { stood := { row := hurtRow, standIns := [], harness := (true, "157e5769b4ea37ed7d104a7b13e671eb0661d794ffa42e4b7e4f41c96f4f6188"), looks := false }, kinds := [], alts := [], goes := true, laidByText := true, laidKinds := [.data, .data], laidTests := true, laidLooks := .later }
def HurtCardSaid : Prop := Claim7.holds Tryz.pinned (.plain (OpenSpec.ofChange hurtSpec)) hurtCard

/-- THE SECOND FORM's CARD OF 'palimpsestlaw.Txs'. -/
def txsUptoCard : Claim7 := { stood := { row := txsUptoRow, standIns := [], harness := (true, "157e5769b4ea37ed7d104a7b13e671eb0661d794ffa42e4b7e4f41c96f4f6188"), looks := false }, kinds := [], alts := [], goes := true, laidByText := true, laidKinds := [.data, .data], laidTests := true, laidLooks := .later }
def TxsUptoCardSaid : Prop := Claim7.holds Tryz.pinned (.plain (OpenSpec.upto txsSpec)) txsUptoCard

/-- THE SECOND FORM's CARD OF 'palimpsestlaw.Past'. -/
def pastUptoCard : Claim7 := { stood := { row := pastUptoRow, standIns := [], harness := (true, "157e5769b4ea37ed7d104a7b13e671eb0661d794ffa42e4b7e4f41c96f4f6188"), looks := false }, kinds := [], alts := [], goes := true, laidByText := true, laidKinds := [.data, .data], laidTests := true, laidLooks := .later }
def PastUptoCardSaid : Prop := Claim7.holds Tryz.pinned (.plain (OpenSpec.upto pastSpec)) pastUptoCard

/-- THE SECOND FORM's CARD OF 'palimpsestlaw.Logs'. -/
def logsUptoCard : Claim7 := { stood := { row := logsUptoRow, standIns := [], harness := (true, "157e5769b4ea37ed7d104a7b13e671eb0661d794ffa42e4b7e4f41c96f4f6188"), looks := false }, kinds := [], alts := [], goes := true, laidByText := true, laidKinds := [.data, .data], laidTests := true, laidLooks := .later }
def LogsUptoCardSaid : Prop := Claim7.holds Tryz.pinned (.plain (OpenSpec.upto logsSpec)) logsUptoCard

/-- THE SECOND FORM's CARD OF 'palimpsestkeep.Fallen'. -/
def fallenUptoCard : Claim7 := { stood := { row := fallenUptoRow, standIns := [], harness := (true, "157e5769b4ea37ed7d104a7b13e671eb0661d794ffa42e4b7e4f41c96f4f6188"), looks := false }, kinds := [], alts := [], goes := true, laidByText := true, laidKinds := [.data, .data], laidTests := true, laidLooks := .later }
def FallenUptoCardSaid : Prop := Claim7.holds Tryz.pinned (.plain (OpenSpec.upto fallenSpec)) fallenUptoCard

/-- THE SECOND FORM's CARD OF 'palimpsestlaw.All'. -/
def allUptoCard : Claim7 := { stood := { row := allUptoRow, standIns := [], harness := (true, "157e5769b4ea37ed7d104a7b13e671eb0661d794ffa42e4b7e4f41c96f4f6188"), looks := false }, kinds := [], alts := [], goes := true, laidByText := true, laidKinds := [.data, .data], laidTests := true, laidLooks := .later }
def AllUptoCardSaid : Prop := Claim7.holds Tryz.pinned (.plain (OpenSpec.upto allSpec)) allUptoCard

/-- THE SECOND FORM's CARD OF 'palimpsestkeep.Rebuilt'. -/
def rebuiltUptoCard : Claim7 := { stood := { row := rebuiltUptoRow, standIns := [], harness := (true, "157e5769b4ea37ed7d104a7b13e671eb0661d794ffa42e4b7e4f41c96f4f6188"), looks := false }, kinds := [], alts := [], goes := true, laidByText := true, laidKinds := [.data, .data], laidTests := true, laidLooks := .later }
def RebuiltUptoCardSaid : Prop := Claim7.holds Tryz.pinned (.plain (OpenSpec.upto rebuiltSpec)) rebuiltUptoCard

/-- THE SECOND FORM's CARD OF 'palimpsestkeep.Hurt'. -/
def hurtUptoCard : Claim7 := { stood := { row := hurtUptoRow, standIns := [], harness := (true, "157e5769b4ea37ed7d104a7b13e671eb0661d794ffa42e4b7e4f41c96f4f6188"), looks := false }, kinds := [], alts := [], goes := true, laidByText := true, laidKinds := [.data, .data], laidTests := true, laidLooks := .later }
def HurtUptoCardSaid : Prop := Claim7.holds Tryz.pinned (.plain (OpenSpec.upto hurtSpec)) hurtUptoCard
end Rows
end Go.Proofs.YthbdpfccfcceiaaGreatDoor
