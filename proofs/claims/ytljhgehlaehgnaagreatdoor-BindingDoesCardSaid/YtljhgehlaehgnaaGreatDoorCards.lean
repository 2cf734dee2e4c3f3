/-
  DERIVED. GIVEN WITH THE SEED: THE CARDS: each row of YtljhgehlaehgnaaGreatDoorRows.lean that lists a variable, with what it lists TIED to the program's text (the seventh form; the later family's looks); each row that meets fmt, with fmt's text TOLD by the authors' own Lean function (tested against real Go, not proved from fmt's source: count such statements apart). THE CARD IS WHAT COUNTS. Prove the row's statement (the work); the ties are given (YtljhgehlaehgnaaGreatDoorTie.lean); close each card by the builder's one call (the guide's Derived/Test/ToyasCard.lean, 'card_holds'). Laid BY PROGRAM, IN A SANDBOX (cutbox-door.mjs). By AI agents, Wed Nov 11 2026. No macro, syntax, notation, axiom, sorry.
-/
import Derived.Test.YtljhgehlaehgnaaGreatDoorRows
import GoSem.ClaimSeven
namespace Go.Proofs.YtljhgehlaehgnaaGreatDoor
namespace Rows

/-- THE TIED CARD OF 'gangwaylaw12.BindingDoes'. -/
def bindingDoesCard : Claim7 := { stood := { row := bindingDoesRow, standIns := [], harness := (true, "6591482e55b0b85de7ddb33e16e55424417c630a49dc9ee78bfc5b16efee608b"), looks := true }, kinds := [], alts := [], laidByText := true, laidKinds := [.handle], laidTests := true, laidLooks := .later }
def BindingDoesCardSaid : Prop := Claim7.holds Tryz.pinned (.plain (OpenSpec.ofChange bindingDoesSpec)) bindingDoesCard

/-- THE SECOND FORM's CARD OF 'gangwaylaw12.BindingDoes'. -/
def bindingDoesUptoCard : Claim7 := { stood := { row := bindingDoesUptoRow, standIns := [], harness := (true, "6591482e55b0b85de7ddb33e16e55424417c630a49dc9ee78bfc5b16efee608b"), looks := true }, kinds := [], alts := [], laidByText := true, laidKinds := [.handle], laidTests := true, laidLooks := .later }
def BindingDoesUptoCardSaid : Prop := Claim7.holds Tryz.pinned (.plain (OpenSpec.upto bindingDoesSpec)) bindingDoesUptoCard
end Rows
end Go.Proofs.YtljhgehlaehgnaaGreatDoor
