/-
  DERIVED. GIVEN WITH THE SEED: THE CARDS: each row of YtkbinfhclaafhaaDoorRows.lean that lists a variable, with what it lists TIED to the program's text (the seventh form; the later family's looks); each row that meets fmt, with fmt's text TOLD by the authors' own Lean function (tested against real Go, not proved from fmt's source: count such statements apart). THE CARD IS WHAT COUNTS. Prove the row's statement (the work); the ties are given (YtkbinfhclaafhaaDoorTie.lean); close each card by the builder's one call (the guide's Derived/Test/ToyasCard.lean, 'card_holds'). Laid BY PROGRAM, IN A SANDBOX (cutbox-door.mjs). By AI agents, Wed Nov 11 2026. No macro, syntax, notation, axiom, sorry.
-/
import Derived.Test.YtkbinfhclaafhaaDoorRows
import GoSem.ClaimSeven
namespace Go.Proofs.YtkbinfhclaafhaaDoor
namespace Rows

/-- THE TIED CARD OF 'bidiguardlaw.Names'. -/
def namesCard : Claim7 := { stood := { row := namesRow, standIns := [], harness := (true, "00cfa06a48225fe6938d93fbefc6cc378875478557ac16a9dc9c76fa51206849"), looks := true }, kinds := [], alts := [], laidByText := true, laidKinds := [.sentinel, .sentinel, .sentinel], laidTests := true, laidLooks := .later }
def NamesCardSaid : Prop := Claim7.holds Tryd.pinned (.plain (OpenSpec.ofChange namesSpec)) namesCard

/-- THE TIED CARD OF 'bidiguardlaw.Joined'. -/
def joinedCard : Claim7 := { stood := { row := joinedRow, standIns := [], harness := (true, "00cfa06a48225fe6938d93fbefc6cc378875478557ac16a9dc9c76fa51206849"), looks := true }, kinds := [], alts := [], laidByText := true, laidKinds := [.data, .data, .data], laidTests := true, laidLooks := .later }
def JoinedCardSaid : Prop := Claim7.holds Tryd.pinned (.plain (OpenSpec.ofChange joinedSpec)) joinedCard

/-- THE SECOND FORM's CARD OF 'bidiguardlaw.Names'. -/
def namesUptoCard : Claim7 := { stood := { row := namesUptoRow, standIns := [], harness := (true, "00cfa06a48225fe6938d93fbefc6cc378875478557ac16a9dc9c76fa51206849"), looks := true }, kinds := [], alts := [], laidByText := true, laidKinds := [.sentinel, .sentinel, .sentinel], laidTests := true, laidLooks := .later }
def NamesUptoCardSaid : Prop := Claim7.holds Tryd.pinned (.plain (OpenSpec.upto namesSpec)) namesUptoCard

/-- THE SECOND FORM's CARD OF 'bidiguardlaw.Joined'. -/
def joinedUptoCard : Claim7 := { stood := { row := joinedUptoRow, standIns := [], harness := (true, "00cfa06a48225fe6938d93fbefc6cc378875478557ac16a9dc9c76fa51206849"), looks := true }, kinds := [], alts := [], laidByText := true, laidKinds := [.data, .data, .data], laidTests := true, laidLooks := .later }
def JoinedUptoCardSaid : Prop := Claim7.holds Tryd.pinned (.plain (OpenSpec.upto joinedSpec)) joinedUptoCard
end Rows
end Go.Proofs.YtkbinfhclaafhaaDoor
