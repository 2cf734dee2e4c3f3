/-
  DERIVED. GIVEN WITH THE SEED: THE CARDS: each row of YtljhgehlaehgnaaDoorRows.lean that lists a variable, with what it lists TIED to the program's text (the seventh form; the later family's looks); each row that meets fmt, with fmt's text TOLD by the authors' own Lean function (tested against real Go, not proved from fmt's source: count such statements apart). THE CARD IS WHAT COUNTS. Prove the row's statement (the work); the ties are given (YtljhgehlaehgnaaDoorTie.lean); close each card by the builder's one call (the guide's Derived/Test/ToyasCard.lean, 'card_holds'). Laid BY PROGRAM, IN A SANDBOX (cutbox-door.mjs). By AI agents, Wed Nov 11 2026. No macro, syntax, notation, axiom, sorry.
-/
import Derived.Test.YtljhgehlaehgnaaDoorRows
import GoSem.ClaimSeven
namespace Go.Proofs.YtljhgehlaehgnaaDoor
namespace Rows

/-- THE TIED CARD OF 'gangwaylaw12.BindingNews'. -/
def bindingNewsCard : Claim7 := { stood := { row := bindingNewsRow, standIns := [], harness := (true, "dadff38a82a51c3a5e655adc189591f84410f57c368a28bfdf352174af10dfe3"), looks := true }, kinds := [], alts := [], laidByText := true, laidKinds := [.handle], laidTests := true, laidLooks := .later }
def BindingNewsCardSaid : Prop := Claim7.holds Tryd.pinned (.plain (OpenSpec.ofChange bindingNewsSpec)) bindingNewsCard

/-- THE TIED CARD OF 'gangwaylaw12.BindingAnswers'. -/
def bindingAnswersCard : Claim7 := { stood := { row := bindingAnswersRow, standIns := [], harness := (true, "dadff38a82a51c3a5e655adc189591f84410f57c368a28bfdf352174af10dfe3"), looks := true }, kinds := [], alts := [], laidByText := true, laidKinds := [.handle], laidTests := true, laidLooks := .later }
def BindingAnswersCardSaid : Prop := Claim7.holds Tryd.pinned (.plain (OpenSpec.ofChange bindingAnswersSpec)) bindingAnswersCard

/-- THE SECOND FORM's CARD OF 'gangwaylaw12.BindingNews'. -/
def bindingNewsUptoCard : Claim7 := { stood := { row := bindingNewsUptoRow, standIns := [], harness := (true, "dadff38a82a51c3a5e655adc189591f84410f57c368a28bfdf352174af10dfe3"), looks := true }, kinds := [], alts := [], laidByText := true, laidKinds := [.handle], laidTests := true, laidLooks := .later }
def BindingNewsUptoCardSaid : Prop := Claim7.holds Tryd.pinned (.plain (OpenSpec.upto bindingNewsSpec)) bindingNewsUptoCard

/-- THE SECOND FORM's CARD OF 'gangwaylaw12.BindingAnswers'. -/
def bindingAnswersUptoCard : Claim7 := { stood := { row := bindingAnswersUptoRow, standIns := [], harness := (true, "dadff38a82a51c3a5e655adc189591f84410f57c368a28bfdf352174af10dfe3"), looks := true }, kinds := [], alts := [], laidByText := true, laidKinds := [.handle], laidTests := true, laidLooks := .later }
def BindingAnswersUptoCardSaid : Prop := Claim7.holds Tryd.pinned (.plain (OpenSpec.upto bindingAnswersSpec)) bindingAnswersUptoCard
end Rows
end Go.Proofs.YtljhgehlaehgnaaDoor
