/-
  DERIVED. GIVEN WITH THE SEED: THE CARDS: each row of YtfndofbkfinnmaaDoorRows.lean that lists a variable, with what it lists TIED to the program's text (the seventh form; the later family's looks); each row that meets fmt, with fmt's text TOLD by the authors' own Lean function (tested against real Go, not proved from fmt's source: count such statements apart). THE CARD IS WHAT COUNTS. Prove the row's statement (the work); the ties are given (YtfndofbkfinnmaaDoorTie.lean); close each card by the builder's one call (the guide's Derived/Test/ToyasCard.lean, 'card_holds'). Laid BY PROGRAM, IN A SANDBOX (cutbox-door.mjs). By AI agents, Wed Nov 11 2026. No macro, syntax, notation, axiom, sorry.
-/
import Derived.Test.YtfndofbkfinnmaaDoorRows
import GoSem.ClaimSeven
namespace Go.Proofs.YtfndofbkfinnmaaDoor
namespace Rows

/-- THE TIED CARD OF 'gangwaylaw04.EtherBuilds'. -/
def etherBuildsCard : Claim7 := { stood := { row := etherBuildsRow, standIns := [], harness := (true, "b8f7f70dd0969f95e1fe010f0687946ecf76994f21d970ca69f2f6b6a9ccd76f"), looks := true }, kinds := [], alts := [], laidByText := true, laidKinds := [.handle], laidTests := true, laidLooks := .later }
def EtherBuildsCardSaid : Prop := Claim7.holds Tryd.pinned (.plain (OpenSpec.ofChange etherBuildsSpec)) etherBuildsCard

/-- THE TIED CARD OF 'gangwaylaw04.EtherParses'. -/
def etherParsesCard : Claim7 := { stood := { row := etherParsesRow, standIns := [], harness := (true, "b8f7f70dd0969f95e1fe010f0687946ecf76994f21d970ca69f2f6b6a9ccd76f"), looks := true }, kinds := [], alts := [], laidByText := true, laidKinds := [.handle], laidTests := true, laidLooks := .later }
def EtherParsesCardSaid : Prop := Claim7.holds Tryd.pinned (.plain (OpenSpec.ofChange etherParsesSpec)) etherParsesCard

/-- THE TIED CARD OF 'gangwaylaw04.EtherBack'. -/
def etherBackCard : Claim7 := { stood := { row := etherBackRow, standIns := [], harness := (true, "b8f7f70dd0969f95e1fe010f0687946ecf76994f21d970ca69f2f6b6a9ccd76f"), looks := true }, kinds := [], alts := [], laidByText := true, laidKinds := [.handle], laidTests := true, laidLooks := .later }
def EtherBackCardSaid : Prop := Claim7.holds Tryd.pinned (.plain (OpenSpec.ofChange etherBackSpec)) etherBackCard

/-- THE TIED CARD OF 'gangwaylaw04.EtherMore'. -/
def etherMoreCard : Claim7 := { stood := { row := etherMoreRow, standIns := [], harness := (true, "b8f7f70dd0969f95e1fe010f0687946ecf76994f21d970ca69f2f6b6a9ccd76f"), looks := true }, kinds := [], alts := [], laidByText := true, laidKinds := [.handle], laidTests := true, laidLooks := .later }
def EtherMoreCardSaid : Prop := Claim7.holds Tryd.pinned (.plain (OpenSpec.ofChange etherMoreSpec)) etherMoreCard

/-- THE TIED CARD OF 'gangwaylaw04.EtherTags'. -/
def etherTagsCard : Claim7 := { stood := { row := etherTagsRow, standIns := [], harness := (true, "b8f7f70dd0969f95e1fe010f0687946ecf76994f21d970ca69f2f6b6a9ccd76f"), looks := true }, kinds := [], alts := [], laidByText := true, laidKinds := [.handle], laidTests := true, laidLooks := .later }
def EtherTagsCardSaid : Prop := Claim7.holds Tryd.pinned (.plain (OpenSpec.ofChange etherTagsSpec)) etherTagsCard

/-- THE SECOND FORM's CARD OF 'gangwaylaw04.EtherBuilds'. -/
def etherBuildsUptoCard : Claim7 := { stood := { row := etherBuildsUptoRow, standIns := [], harness := (true, "b8f7f70dd0969f95e1fe010f0687946ecf76994f21d970ca69f2f6b6a9ccd76f"), looks := true }, kinds := [], alts := [], laidByText := true, laidKinds := [.handle], laidTests := true, laidLooks := .later }
def EtherBuildsUptoCardSaid : Prop := Claim7.holds Tryd.pinned (.plain (OpenSpec.upto etherBuildsSpec)) etherBuildsUptoCard

/-- THE SECOND FORM's CARD OF 'gangwaylaw04.EtherParses'. -/
def etherParsesUptoCard : Claim7 := { stood := { row := etherParsesUptoRow, standIns := [], harness := (true, "b8f7f70dd0969f95e1fe010f0687946ecf76994f21d970ca69f2f6b6a9ccd76f"), looks := true }, kinds := [], alts := [], laidByText := true, laidKinds := [.handle], laidTests := true, laidLooks := .later }
def EtherParsesUptoCardSaid : Prop := Claim7.holds Tryd.pinned (.plain (OpenSpec.upto etherParsesSpec)) etherParsesUptoCard

/-- THE SECOND FORM's CARD OF 'gangwaylaw04.EtherBack'. -/
def etherBackUptoCard : Claim7 := { stood := { row := etherBackUptoRow, standIns := [], harness := (true, "b8f7f70dd0969f95e1fe010f0687946ecf76994f21d970ca69f2f6b6a9ccd76f"), looks := true }, kinds := [], alts := [], laidByText := true, laidKinds := [.handle], laidTests := true, laidLooks := .later }
def EtherBackUptoCardSaid : Prop := Claim7.holds Tryd.pinned (.plain (OpenSpec.upto etherBackSpec)) etherBackUptoCard

/-- THE SECOND FORM's CARD OF 'gangwaylaw04.EtherMore'. -/
def etherMoreUptoCard : Claim7 := { stood := { row := etherMoreUptoRow, standIns := [], harness := (true, "b8f7f70dd0969f95e1fe010f0687946ecf76994f21d970ca69f2f6b6a9ccd76f"), looks := true }, kinds := [], alts := [], laidByText := true, laidKinds := [.handle], laidTests := true, laidLooks := .later }
def EtherMoreUptoCardSaid : Prop := Claim7.holds Tryd.pinned (.plain (OpenSpec.upto etherMoreSpec)) etherMoreUptoCard

/-- THE SECOND FORM's CARD OF 'gangwaylaw04.EtherTags'. -/
def etherTagsUptoCard : Claim7 := { stood := { row := etherTagsUptoRow, standIns := [], harness := (true, "b8f7f70dd0969f95e1fe010f0687946ecf76994f21d970ca69f2f6b6a9ccd76f"), looks := true }, kinds := [], alts := [], laidByText := true, laidKinds := [.handle], laidTests := true, laidLooks := .later }
def EtherTagsUptoCardSaid : Prop := Claim7.holds Tryd.pinned (.plain (OpenSpec.upto etherTagsSpec)) etherTagsUptoCard
end Rows
end Go.Proofs.YtfndofbkfinnmaaDoor
