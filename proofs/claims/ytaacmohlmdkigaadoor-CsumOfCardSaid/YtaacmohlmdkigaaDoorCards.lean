/-
  DERIVED. GIVEN WITH THE SEED: THE CARDS: each row of YtaacmohlmdkigaaDoorRows.lean that lists a variable, with what it lists TIED to the program's text (the seventh form; the later family's looks); each row that meets fmt, with fmt's text TOLD by the authors' own Lean function (tested against real Go, not proved from fmt's source: count such statements apart). THE CARD IS WHAT COUNTS. Prove the row's statement (the work); the ties are given (YtaacmohlmdkigaaDoorTie.lean); close each card by the builder's one call (the guide's Derived/Test/ToyasCard.lean, 'card_holds'). Laid BY PROGRAM, IN A SANDBOX (cutbox-door.mjs). By AI agents, Wed Nov 11 2026. No macro, syntax, notation, axiom, sorry.
-/
import Derived.Test.YtaacmohlmdkigaaDoorRows
import GoSem.ClaimSeven
namespace Go.Proofs.YtaacmohlmdkigaaDoor
namespace Rows

/-- THE TIED CARD OF 'gangwaylaw03.CsumOf'. -/
def csumOfCard : Claim7 := { stood := { row := csumOfRow, standIns := [], harness := (true, "3734d33554ec19804f51ff56db0fbbcbf0f5e9162c509dc9deb0f47576408760"), looks := true }, kinds := [], alts := [], laidByText := true, laidKinds := [.handle], laidTests := true, laidLooks := .later }
def CsumOfCardSaid : Prop := Claim7.holds Tryd.pinned (.plain (OpenSpec.ofChange csumOfSpec)) csumOfCard

/-- THE TIED CARD OF 'gangwaylaw03.CsumPatch'. -/
def csumPatchCard : Claim7 := { stood := { row := csumPatchRow, standIns := [], harness := (true, "3734d33554ec19804f51ff56db0fbbcbf0f5e9162c509dc9deb0f47576408760"), looks := true }, kinds := [], alts := [], laidByText := true, laidKinds := [.handle], laidTests := true, laidLooks := .later }
def CsumPatchCardSaid : Prop := Claim7.holds Tryd.pinned (.plain (OpenSpec.ofChange csumPatchSpec)) csumPatchCard

/-- THE TIED CARD OF 'gangwaylaw03.CsumSeals'. -/
def csumSealsCard : Claim7 := { stood := { row := csumSealsRow, standIns := [], harness := (true, "3734d33554ec19804f51ff56db0fbbcbf0f5e9162c509dc9deb0f47576408760"), looks := true }, kinds := [], alts := [], laidByText := true, laidKinds := [.handle], laidTests := true, laidLooks := .later }
def CsumSealsCardSaid : Prop := Claim7.holds Tryd.pinned (.plain (OpenSpec.ofChange csumSealsSpec)) csumSealsCard

/-- THE TIED CARD OF 'gangwaylaw03.CsumPatches'. -/
def csumPatchesCard : Claim7 := { stood := { row := csumPatchesRow, standIns := [], harness := (true, "3734d33554ec19804f51ff56db0fbbcbf0f5e9162c509dc9deb0f47576408760"), looks := true }, kinds := [], alts := [], laidByText := true, laidKinds := [.handle], laidTests := true, laidLooks := .later }
def CsumPatchesCardSaid : Prop := Claim7.holds Tryd.pinned (.plain (OpenSpec.ofChange csumPatchesSpec)) csumPatchesCard

/-- THE TIED CARD OF 'gangwaylaw03.CsumOrder'. -/
def csumOrderCard : Claim7 := { stood := { row := csumOrderRow, standIns := [], harness := (true, "3734d33554ec19804f51ff56db0fbbcbf0f5e9162c509dc9deb0f47576408760"), looks := true }, kinds := [], alts := [], laidByText := true, laidKinds := [.handle], laidTests := true, laidLooks := .later }
def CsumOrderCardSaid : Prop := Claim7.holds Tryd.pinned (.plain (OpenSpec.ofChange csumOrderSpec)) csumOrderCard

/-- THE TIED CARD OF 'gangwaylaw03.CsumHalves'. -/
def csumHalvesCard : Claim7 := { stood := { row := csumHalvesRow, standIns := [], harness := (true, "3734d33554ec19804f51ff56db0fbbcbf0f5e9162c509dc9deb0f47576408760"), looks := true }, kinds := [], alts := [], laidByText := true, laidKinds := [.handle], laidTests := true, laidLooks := .later }
def CsumHalvesCardSaid : Prop := Claim7.holds Tryd.pinned (.plain (OpenSpec.ofChange csumHalvesSpec)) csumHalvesCard

/-- THE SECOND FORM's CARD OF 'gangwaylaw03.CsumOf'. -/
def csumOfUptoCard : Claim7 := { stood := { row := csumOfUptoRow, standIns := [], harness := (true, "3734d33554ec19804f51ff56db0fbbcbf0f5e9162c509dc9deb0f47576408760"), looks := true }, kinds := [], alts := [], laidByText := true, laidKinds := [.handle], laidTests := true, laidLooks := .later }
def CsumOfUptoCardSaid : Prop := Claim7.holds Tryd.pinned (.plain (OpenSpec.upto csumOfSpec)) csumOfUptoCard

/-- THE SECOND FORM's CARD OF 'gangwaylaw03.CsumPatch'. -/
def csumPatchUptoCard : Claim7 := { stood := { row := csumPatchUptoRow, standIns := [], harness := (true, "3734d33554ec19804f51ff56db0fbbcbf0f5e9162c509dc9deb0f47576408760"), looks := true }, kinds := [], alts := [], laidByText := true, laidKinds := [.handle], laidTests := true, laidLooks := .later }
def CsumPatchUptoCardSaid : Prop := Claim7.holds Tryd.pinned (.plain (OpenSpec.upto csumPatchSpec)) csumPatchUptoCard

/-- THE SECOND FORM's CARD OF 'gangwaylaw03.CsumSeals'. -/
def csumSealsUptoCard : Claim7 := { stood := { row := csumSealsUptoRow, standIns := [], harness := (true, "3734d33554ec19804f51ff56db0fbbcbf0f5e9162c509dc9deb0f47576408760"), looks := true }, kinds := [], alts := [], laidByText := true, laidKinds := [.handle], laidTests := true, laidLooks := .later }
def CsumSealsUptoCardSaid : Prop := Claim7.holds Tryd.pinned (.plain (OpenSpec.upto csumSealsSpec)) csumSealsUptoCard

/-- THE SECOND FORM's CARD OF 'gangwaylaw03.CsumPatches'. -/
def csumPatchesUptoCard : Claim7 := { stood := { row := csumPatchesUptoRow, standIns := [], harness := (true, "3734d33554ec19804f51ff56db0fbbcbf0f5e9162c509dc9deb0f47576408760"), looks := true }, kinds := [], alts := [], laidByText := true, laidKinds := [.handle], laidTests := true, laidLooks := .later }
def CsumPatchesUptoCardSaid : Prop := Claim7.holds Tryd.pinned (.plain (OpenSpec.upto csumPatchesSpec)) csumPatchesUptoCard

/-- THE SECOND FORM's CARD OF 'gangwaylaw03.CsumOrder'. -/
def csumOrderUptoCard : Claim7 := { stood := { row := csumOrderUptoRow, standIns := [], harness := (true, "3734d33554ec19804f51ff56db0fbbcbf0f5e9162c509dc9deb0f47576408760"), looks := true }, kinds := [], alts := [], laidByText := true, laidKinds := [.handle], laidTests := true, laidLooks := .later }
def CsumOrderUptoCardSaid : Prop := Claim7.holds Tryd.pinned (.plain (OpenSpec.upto csumOrderSpec)) csumOrderUptoCard

/-- THE SECOND FORM's CARD OF 'gangwaylaw03.CsumHalves'. -/
def csumHalvesUptoCard : Claim7 := { stood := { row := csumHalvesUptoRow, standIns := [], harness := (true, "3734d33554ec19804f51ff56db0fbbcbf0f5e9162c509dc9deb0f47576408760"), looks := true }, kinds := [], alts := [], laidByText := true, laidKinds := [.handle], laidTests := true, laidLooks := .later }
def CsumHalvesUptoCardSaid : Prop := Claim7.holds Tryd.pinned (.plain (OpenSpec.upto csumHalvesSpec)) csumHalvesUptoCard
end Rows
end Go.Proofs.YtaacmohlmdkigaaDoor
