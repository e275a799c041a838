/-
  DERIVED. GIVEN WITH THE SEED: THE CARDS: each row of YtkfhhlhcphddiaaGreatDoorRows.lean that lists a variable, with what it lists TIED to the program's text (the seventh form; the later family's looks); each row that meets fmt, with fmt's text TOLD by the authors' own Lean function (tested against real Go, not proved from fmt's source: count such statements apart). THE CARD IS WHAT COUNTS. Prove the row's statement (the work); the ties are given (YtkfhhlhcphddiaaGreatDoorTie.lean); close each card by the builder's one call (the guide's Derived/Test/ToyasCard.lean, 'card_holds'). Laid BY PROGRAM, IN A SANDBOX (cutbox-door.mjs). By AI agents, Wed Nov 11 2026. No macro, syntax, notation, axiom, sorry.
-/
import Derived.Test.YtkfhhlhcphddiaaGreatDoorRows
import GoSem.ClaimSeven
namespace Go.Proofs.YtkfhhlhcphddiaaGreatDoor
namespace Rows

/-- THE TIED CARD OF 'bidiguardlaw.Classes'. -/
def classesCard : Claim7 := { stood := { row := classesRow, standIns := [], harness := (true, "cdce162222c670987569179c6afffed80fa9335ac1abe84cb7f86b6ff1305079"), looks := true }, kinds := [], alts := [], laidByText := true, laidKinds := [.data, .handle, .data, .data, .sentinel, .sentinel, .sentinel, .pinned], laidTests := true, laidLooks := .later }
def ClassesCardSaid : Prop := Claim7.holds Tryz.pinned (.plain (OpenSpec.ofChange classesSpec)) classesCard

/-- THE TIED CARD OF 'bidiguardlaw.Levels'. -/
def levelsCard : Claim7 := { stood := { row := levelsRow, standIns := [], harness := (true, "cdce162222c670987569179c6afffed80fa9335ac1abe84cb7f86b6ff1305079"), looks := true }, kinds := [], alts := [], laidByText := true, laidKinds := [.data, .handle, .data, .data, .sentinel, .sentinel, .sentinel, .pinned], laidTests := true, laidLooks := .later }
def LevelsCardSaid : Prop := Claim7.holds Tryz.pinned (.plain (OpenSpec.ofChange levelsSpec)) levelsCard

/-- THE TIED CARD OF 'bidiguardlaw.Orders'. -/
def ordersCard : Claim7 := { stood := { row := ordersRow, standIns := [], harness := (true, "cdce162222c670987569179c6afffed80fa9335ac1abe84cb7f86b6ff1305079"), looks := true }, kinds := [], alts := [], laidByText := true, laidKinds := [.data, .handle, .data, .data, .sentinel, .sentinel, .sentinel, .pinned], laidTests := true, laidLooks := .later }
def OrdersCardSaid : Prop := Claim7.holds Tryz.pinned (.plain (OpenSpec.ofChange ordersSpec)) ordersCard

/-- THE TIED CARD OF 'bidiguardlaw.Turned'. -/
def turnedCard : Claim7 := { stood := { row := turnedRow, standIns := [], harness := (true, "cdce162222c670987569179c6afffed80fa9335ac1abe84cb7f86b6ff1305079"), looks := true }, kinds := [], alts := [], laidByText := true, laidKinds := [.data, .handle, .data, .data, .sentinel, .sentinel, .sentinel, .pinned], laidTests := true, laidLooks := .later }
def TurnedCardSaid : Prop := Claim7.holds Tryz.pinned (.plain (OpenSpec.ofChange turnedSpec)) turnedCard

/-- THE SECOND FORM's CARD OF 'bidiguardlaw.Classes'. -/
def classesUptoCard : Claim7 := { stood := { row := classesUptoRow, standIns := [], harness := (true, "cdce162222c670987569179c6afffed80fa9335ac1abe84cb7f86b6ff1305079"), looks := true }, kinds := [], alts := [], laidByText := true, laidKinds := [.data, .handle, .data, .data, .sentinel, .sentinel, .sentinel, .pinned], laidTests := true, laidLooks := .later }
def ClassesUptoCardSaid : Prop := Claim7.holds Tryz.pinned (.plain (OpenSpec.upto classesSpec)) classesUptoCard

/-- THE SECOND FORM's CARD OF 'bidiguardlaw.Levels'. -/
def levelsUptoCard : Claim7 := { stood := { row := levelsUptoRow, standIns := [], harness := (true, "cdce162222c670987569179c6afffed80fa9335ac1abe84cb7f86b6ff1305079"), looks := true }, kinds := [], alts := [], laidByText := true, laidKinds := [.data, .handle, .data, .data, .sentinel, .sentinel, .sentinel, .pinned], laidTests := true, laidLooks := .later }
def LevelsUptoCardSaid : Prop := Claim7.holds Tryz.pinned (.plain (OpenSpec.upto levelsSpec)) levelsUptoCard

/-- THE SECOND FORM's CARD OF 'bidiguardlaw.Orders'. -/
def ordersUptoCard : Claim7 := { stood := { row := ordersUptoRow, standIns := [], harness := (true, "cdce162222c670987569179c6afffed80fa9335ac1abe84cb7f86b6ff1305079"), looks := true }, kinds := [], alts := [], laidByText := true, laidKinds := [.data, .handle, .data, .data, .sentinel, .sentinel, .sentinel, .pinned], laidTests := true, laidLooks := .later }
def OrdersUptoCardSaid : Prop := Claim7.holds Tryz.pinned (.plain (OpenSpec.upto ordersSpec)) ordersUptoCard

/-- THE SECOND FORM's CARD OF 'bidiguardlaw.Turned'. -/
def turnedUptoCard : Claim7 := { stood := { row := turnedUptoRow, standIns := [], harness := (true, "cdce162222c670987569179c6afffed80fa9335ac1abe84cb7f86b6ff1305079"), looks := true }, kinds := [], alts := [], laidByText := true, laidKinds := [.data, .handle, .data, .data, .sentinel, .sentinel, .sentinel, .pinned], laidTests := true, laidLooks := .later }
def TurnedUptoCardSaid : Prop := Claim7.holds Tryz.pinned (.plain (OpenSpec.upto turnedSpec)) turnedUptoCard
end Rows
end Go.Proofs.YtkfhhlhcphddiaaGreatDoor
