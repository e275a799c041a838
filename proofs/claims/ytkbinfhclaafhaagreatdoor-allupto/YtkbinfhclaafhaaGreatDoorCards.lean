/-
  DERIVED. GIVEN WITH THE SEED: THE CARDS: each row of YtkbinfhclaafhaaGreatDoorRows.lean that lists a variable, with what it lists TIED to the program's text (the seventh form; the later family's looks); each row that meets fmt, with fmt's text TOLD by the authors' own Lean function (tested against real Go, not proved from fmt's source: count such statements apart). THE CARD IS WHAT COUNTS. Prove the row's statement (the work); the ties are given (YtkbinfhclaafhaaGreatDoorTie.lean); close each card by the builder's one call (the guide's Derived/Test/ToyasCard.lean, 'card_holds'). Laid BY PROGRAM, IN A SANDBOX (cutbox-door.mjs). By AI agents, Wed Nov 11 2026. No macro, syntax, notation, axiom, sorry.
-/
import Derived.Test.YtkbinfhclaafhaaGreatDoorRows
import GoSem.ClaimSeven
namespace Go.Proofs.YtkbinfhclaafhaaGreatDoor
namespace Rows

/-- THE TIED CARD OF 'bidiguardlaw.Classes'. -/
def classesCard : Claim7 := { stood := { row := classesRow, standIns := [], harness := (true, "2d24fb5c4d9912b5349b120f77c5da9e440f6410b89f018ed68e3fd5b09e6461"), looks := true }, kinds := [], alts := [], laidByText := true, laidKinds := [.data, .data, .data, .data, .data, .data, .data, .handle, .data, .data, .sentinel, .sentinel, .sentinel, .pinned, .pinned], laidTests := true, laidLooks := .later }
def ClassesCardSaid : Prop := Claim7.holds Tryz.pinned (.plain (OpenSpec.ofChange classesSpec)) classesCard

/-- THE TIED CARD OF 'bidiguardlaw.Levels'. -/
def levelsCard : Claim7 := { stood := { row := levelsRow, standIns := [], harness := (true, "2d24fb5c4d9912b5349b120f77c5da9e440f6410b89f018ed68e3fd5b09e6461"), looks := true }, kinds := [], alts := [], laidByText := true, laidKinds := [.data, .data, .data, .data, .data, .data, .data, .handle, .data, .data, .sentinel, .sentinel, .sentinel, .pinned, .pinned], laidTests := true, laidLooks := .later }
def LevelsCardSaid : Prop := Claim7.holds Tryz.pinned (.plain (OpenSpec.ofChange levelsSpec)) levelsCard

/-- THE TIED CARD OF 'bidiguardlaw.Orders'. -/
def ordersCard : Claim7 := { stood := { row := ordersRow, standIns := [], harness := (true, "2d24fb5c4d9912b5349b120f77c5da9e440f6410b89f018ed68e3fd5b09e6461"), looks := true }, kinds := [], alts := [], laidByText := true, laidKinds := [.data, .data, .data, .data, .data, .data, .data, .handle, .data, .data, .sentinel, .sentinel, .sentinel, .pinned, .pinned], laidTests := true, laidLooks := .later }
def OrdersCardSaid : Prop := Claim7.holds Tryz.pinned (.plain (OpenSpec.ofChange ordersSpec)) ordersCard

/-- THE TIED CARD OF 'bidiguardlaw.Turned'. -/
def turnedCard : Claim7 := { stood := { row := turnedRow, standIns := [], harness := (true, "2d24fb5c4d9912b5349b120f77c5da9e440f6410b89f018ed68e3fd5b09e6461"), looks := true }, kinds := [], alts := [], laidByText := true, laidKinds := [.data, .handle, .data, .data, .sentinel, .sentinel, .sentinel, .pinned], laidTests := true, laidLooks := .later }
def TurnedCardSaid : Prop := Claim7.holds Tryz.pinned (.plain (OpenSpec.ofChange turnedSpec)) turnedCard

/-- THE TIED CARD OF 'bidiguardlaw.Parts'. -/
def partsCard : Claim7 := { stood := { row := partsRow, standIns := [], harness := (true, "2d24fb5c4d9912b5349b120f77c5da9e440f6410b89f018ed68e3fd5b09e6461"), looks := true }, kinds := [], alts := [], laidByText := true, laidKinds := [.data, .data, .data, .data, .data, .data, .data, .handle, .data, .data, .sentinel, .sentinel, .sentinel, .pinned, .pinned], laidTests := true, laidLooks := .later }
def PartsCardSaid : Prop := Claim7.holds Tryz.pinned (.plain (OpenSpec.ofChange partsSpec)) partsCard

/-- THE TIED CARD OF 'bidiguardlaw.Safes'. -/
def safesCard : Claim7 := { stood := { row := safesRow, standIns := [], harness := (true, "2d24fb5c4d9912b5349b120f77c5da9e440f6410b89f018ed68e3fd5b09e6461"), looks := true }, kinds := [], alts := [], laidByText := true, laidKinds := [.data, .data, .data, .data, .data, .data, .data, .handle, .data, .data, .sentinel, .sentinel, .sentinel, .pinned, .pinned], laidTests := true, laidLooks := .later }
def SafesCardSaid : Prop := Claim7.holds Tryz.pinned (.plain (OpenSpec.ofChange safesSpec)) safesCard

/-- THE TIED CARD OF 'bidiguardlaw.Sanitizes'. -/
def sanitizesCard : Claim7 := { stood := { row := sanitizesRow, standIns := [], harness := (true, "2d24fb5c4d9912b5349b120f77c5da9e440f6410b89f018ed68e3fd5b09e6461"), looks := true }, kinds := [], alts := [], laidByText := true, laidKinds := [.data, .data, .data, .data, .data, .data, .data, .handle, .data, .data, .sentinel, .sentinel, .sentinel, .pinned, .pinned], laidTests := true, laidLooks := .later }
def SanitizesCardSaid : Prop := Claim7.holds Tryz.pinned (.plain (OpenSpec.ofChange sanitizesSpec)) sanitizesCard

/-- THE TIED CARD OF 'bidiguardlaw.Applies'. -/
def appliesCard : Claim7 := { stood := { row := appliesRow, standIns := [], harness := (true, "2d24fb5c4d9912b5349b120f77c5da9e440f6410b89f018ed68e3fd5b09e6461"), looks := true }, kinds := [], alts := [], laidByText := true, laidKinds := [.data, .data, .data, .data, .data, .data, .data, .handle, .data, .data, .sentinel, .sentinel, .sentinel, .pinned, .pinned], laidTests := true, laidLooks := .later }
def AppliesCardSaid : Prop := Claim7.holds Tryz.pinned (.plain (OpenSpec.ofChange appliesSpec)) appliesCard

/-- THE TIED CARD OF 'bidiguardlaw.Guarded'. -/
def guardedCard : Claim7 := { stood := { row := guardedRow, standIns := [], harness := (true, "2d24fb5c4d9912b5349b120f77c5da9e440f6410b89f018ed68e3fd5b09e6461"), looks := true }, kinds := [], alts := [], laidByText := true, laidKinds := [.data, .data, .data, .data, .data, .data, .data, .handle, .data, .data, .sentinel, .sentinel, .sentinel, .pinned, .pinned], laidTests := true, laidLooks := .later }
def GuardedCardSaid : Prop := Claim7.holds Tryz.pinned (.plain (OpenSpec.ofChange guardedSpec)) guardedCard

/-- THE TIED CARD OF 'bidiguardlaw.All'. -/
def allCard : Claim7 := { stood := { row := allRow, standIns := [], harness := (true, "2d24fb5c4d9912b5349b120f77c5da9e440f6410b89f018ed68e3fd5b09e6461"), looks := true }, kinds := [], alts := [], laidByText := true, laidKinds := [.data, .data, .data, .data, .data, .data, .data, .handle, .data, .data, .sentinel, .sentinel, .sentinel, .pinned, .pinned], laidTests := true, laidLooks := .later }
def AllCardSaid : Prop := Claim7.holds Tryz.pinned (.plain (OpenSpec.ofChange allSpec)) allCard

/-- THE SECOND FORM's CARD OF 'bidiguardlaw.Classes'. -/
def classesUptoCard : Claim7 := { stood := { row := classesUptoRow, standIns := [], harness := (true, "2d24fb5c4d9912b5349b120f77c5da9e440f6410b89f018ed68e3fd5b09e6461"), looks := true }, kinds := [], alts := [], laidByText := true, laidKinds := [.data, .data, .data, .data, .data, .data, .data, .handle, .data, .data, .sentinel, .sentinel, .sentinel, .pinned, .pinned], laidTests := true, laidLooks := .later }
def ClassesUptoCardSaid : Prop := Claim7.holds Tryz.pinned (.plain (OpenSpec.upto classesSpec)) classesUptoCard

/-- THE SECOND FORM's CARD OF 'bidiguardlaw.Levels'. -/
def levelsUptoCard : Claim7 := { stood := { row := levelsUptoRow, standIns := [], harness := (true, "2d24fb5c4d9912b5349b120f77c5da9e440f6410b89f018ed68e3fd5b09e6461"), looks := true }, kinds := [], alts := [], laidByText := true, laidKinds := [.data, .data, .data, .data, .data, .data, .data, .handle, .data, .data, .sentinel, .sentinel, .sentinel, .pinned, .pinned], laidTests := true, laidLooks := .later }
def LevelsUptoCardSaid : Prop := Claim7.holds Tryz.pinned (.plain (OpenSpec.upto levelsSpec)) levelsUptoCard

/-- THE SECOND FORM's CARD OF 'bidiguardlaw.Orders'. -/
def ordersUptoCard : Claim7 := { stood := { row := ordersUptoRow, standIns := [], harness := (true, "2d24fb5c4d9912b5349b120f77c5da9e440f6410b89f018ed68e3fd5b09e6461"), looks := true }, kinds := [], alts := [], laidByText := true, laidKinds := [.data, .data, .data, .data, .data, .data, .data, .handle, .data, .data, .sentinel, .sentinel, .sentinel, .pinned, .pinned], laidTests := true, laidLooks := .later }
def OrdersUptoCardSaid : Prop := Claim7.holds Tryz.pinned (.plain (OpenSpec.upto ordersSpec)) ordersUptoCard

/-- THE SECOND FORM's CARD OF 'bidiguardlaw.Turned'. -/
def turnedUptoCard : Claim7 := { stood := { row := turnedUptoRow, standIns := [], harness := (true, "2d24fb5c4d9912b5349b120f77c5da9e440f6410b89f018ed68e3fd5b09e6461"), looks := true }, kinds := [], alts := [], laidByText := true, laidKinds := [.data, .handle, .data, .data, .sentinel, .sentinel, .sentinel, .pinned], laidTests := true, laidLooks := .later }
def TurnedUptoCardSaid : Prop := Claim7.holds Tryz.pinned (.plain (OpenSpec.upto turnedSpec)) turnedUptoCard

/-- THE SECOND FORM's CARD OF 'bidiguardlaw.Parts'. -/
def partsUptoCard : Claim7 := { stood := { row := partsUptoRow, standIns := [], harness := (true, "2d24fb5c4d9912b5349b120f77c5da9e440f6410b89f018ed68e3fd5b09e6461"), looks := true }, kinds := [], alts := [], laidByText := true, laidKinds := [.data, .data, .data, .data, .data, .data, .data, .handle, .data, .data, .sentinel, .sentinel, .sentinel, .pinned, .pinned], laidTests := true, laidLooks := .later }
def PartsUptoCardSaid : Prop := Claim7.holds Tryz.pinned (.plain (OpenSpec.upto partsSpec)) partsUptoCard

/-- THE SECOND FORM's CARD OF 'bidiguardlaw.Safes'. -/
def safesUptoCard : Claim7 := { stood := { row := safesUptoRow, standIns := [], harness := (true, "2d24fb5c4d9912b5349b120f77c5da9e440f6410b89f018ed68e3fd5b09e6461"), looks := true }, kinds := [], alts := [], laidByText := true, laidKinds := [.data, .data, .data, .data, .data, .data, .data, .handle, .data, .data, .sentinel, .sentinel, .sentinel, .pinned, .pinned], laidTests := true, laidLooks := .later }
def SafesUptoCardSaid : Prop := Claim7.holds Tryz.pinned (.plain (OpenSpec.upto safesSpec)) safesUptoCard

/-- THE SECOND FORM's CARD OF 'bidiguardlaw.Sanitizes'. -/
def sanitizesUptoCard : Claim7 := { stood := { row := sanitizesUptoRow, standIns := [], harness := (true, "2d24fb5c4d9912b5349b120f77c5da9e440f6410b89f018ed68e3fd5b09e6461"), looks := true }, kinds := [], alts := [], laidByText := true, laidKinds := [.data, .data, .data, .data, .data, .data, .data, .handle, .data, .data, .sentinel, .sentinel, .sentinel, .pinned, .pinned], laidTests := true, laidLooks := .later }
def SanitizesUptoCardSaid : Prop := Claim7.holds Tryz.pinned (.plain (OpenSpec.upto sanitizesSpec)) sanitizesUptoCard

/-- THE SECOND FORM's CARD OF 'bidiguardlaw.Applies'. -/
def appliesUptoCard : Claim7 := { stood := { row := appliesUptoRow, standIns := [], harness := (true, "2d24fb5c4d9912b5349b120f77c5da9e440f6410b89f018ed68e3fd5b09e6461"), looks := true }, kinds := [], alts := [], laidByText := true, laidKinds := [.data, .data, .data, .data, .data, .data, .data, .handle, .data, .data, .sentinel, .sentinel, .sentinel, .pinned, .pinned], laidTests := true, laidLooks := .later }
def AppliesUptoCardSaid : Prop := Claim7.holds Tryz.pinned (.plain (OpenSpec.upto appliesSpec)) appliesUptoCard

/-- THE SECOND FORM's CARD OF 'bidiguardlaw.Guarded'. -/
def guardedUptoCard : Claim7 := { stood := { row := guardedUptoRow, standIns := [], harness := (true, "2d24fb5c4d9912b5349b120f77c5da9e440f6410b89f018ed68e3fd5b09e6461"), looks := true }, kinds := [], alts := [], laidByText := true, laidKinds := [.data, .data, .data, .data, .data, .data, .data, .handle, .data, .data, .sentinel, .sentinel, .sentinel, .pinned, .pinned], laidTests := true, laidLooks := .later }
def GuardedUptoCardSaid : Prop := Claim7.holds Tryz.pinned (.plain (OpenSpec.upto guardedSpec)) guardedUptoCard

/-- THE SECOND FORM's CARD OF 'bidiguardlaw.All'. -/
def allUptoCard : Claim7 := { stood := { row := allUptoRow, standIns := [], harness := (true, "2d24fb5c4d9912b5349b120f77c5da9e440f6410b89f018ed68e3fd5b09e6461"), looks := true }, kinds := [], alts := [], laidByText := true, laidKinds := [.data, .data, .data, .data, .data, .data, .data, .handle, .data, .data, .sentinel, .sentinel, .sentinel, .pinned, .pinned], laidTests := true, laidLooks := .later }
def AllUptoCardSaid : Prop := Claim7.holds Tryz.pinned (.plain (OpenSpec.upto allSpec)) allUptoCard
end Rows
end Go.Proofs.YtkbinfhclaafhaaGreatDoor
