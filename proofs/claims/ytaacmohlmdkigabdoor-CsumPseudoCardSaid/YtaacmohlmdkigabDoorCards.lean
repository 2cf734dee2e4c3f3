/-
  DERIVED. GIVEN WITH THE SEED: THE CARDS: each row of YtaacmohlmdkigabDoorRows.lean that lists a variable, with what it lists TIED to the program's text (the seventh form; the later family's looks); each row that meets fmt, with fmt's text TOLD by the authors' own Lean function (tested against real Go, not proved from fmt's source: count such statements apart). THE CARD IS WHAT COUNTS. Prove the row's statement (the work); the ties are given (YtaacmohlmdkigabDoorTie.lean); close each card by the builder's one call (the guide's Derived/Test/ToyasCard.lean, 'card_holds'). Laid BY PROGRAM, IN A SANDBOX (cutbox-door.mjs). By AI agents, Wed Nov 11 2026. No macro, syntax, notation, axiom, sorry.
-/
import Derived.Test.YtaacmohlmdkigabDoorRows
import GoSem.ClaimSeven
namespace Go.Proofs.YtaacmohlmdkigabDoor
namespace Rows

/-- THE TIED CARD OF 'gangwaylaw03.CsumPseudo'. -/
def csumPseudoCard : Claim7 := { stood := { row := csumPseudoRow, standIns := [], harness := (true, "a18fa799cb7bf4b127ac5a7fb774688c4fc3633e5ca44e87087686f8e04d72f0"), looks := true }, kinds := [], alts := [], laidByText := true, laidKinds := [.handle], laidTests := true, laidLooks := .later }
def CsumPseudoCardSaid : Prop := Claim7.holds Tryd.pinned (.plain (OpenSpec.ofChange csumPseudoSpec)) csumPseudoCard

/-- THE SECOND FORM's CARD OF 'gangwaylaw03.CsumPseudo'. -/
def csumPseudoUptoCard : Claim7 := { stood := { row := csumPseudoUptoRow, standIns := [], harness := (true, "a18fa799cb7bf4b127ac5a7fb774688c4fc3633e5ca44e87087686f8e04d72f0"), looks := true }, kinds := [], alts := [], laidByText := true, laidKinds := [.handle], laidTests := true, laidLooks := .later }
def CsumPseudoUptoCardSaid : Prop := Claim7.holds Tryd.pinned (.plain (OpenSpec.upto csumPseudoSpec)) csumPseudoUptoCard
end Rows
end Go.Proofs.YtaacmohlmdkigabDoor
