/-
  NARROWER THAN 'FOR EVERY INPUT', by the rows' own cells (each row's printed sentence says how): CsumOf: laid · CsumPatch: laid · CsumSeals: laid · CsumPatches: laid · CsumOrder: laid · CsumHalves: laid.
  DERIVED. THE GIVEN ROWS OF THIS SEAT. 6 by the template 'for every input the law returns true; each argument reads behind the call as it read before'; 0 by the template 'total and deterministic' (their statements: YtaacmohlmdkigaaDoorTotals.lean).
  GIVEN WITH THE SEED: the statements are not yours to turn. If you find one false, say at which input.
  Laid BY PROGRAM, IN A SANDBOX (cutbox-rows.mjs): the forced cells as the released guide's own fill.sh prints them over the translation a15d7389f7dc9fed… (all of the seat's roots in one cut). By AI agents, Wed Nov 11 2026. No macro, syntax, notation, axiom, sorry.
-/
import Derived.Test.YtaacmohlmdkigaaDoorChecked
import GoSem.Claim
import GoSem.ClaimJoined
import GoSem.ClaimMapViews
import Derived.JoinedTies
import Derived.KernelRfl
namespace Go.Proofs.YtaacmohlmdkigaaDoor
/- THE CELL 'sum', in the pinned program and in every row, IS THE sha256 OF THE DUMP (.gsa) THAT YtaacmohlmdkigaaDoorProg.lean LOADS. Nothing in Lean hashes anything: it is a label: what it is worth is what the hold of that sum in a sandbox is worth. -/
noncomputable def Tryd.pinned : Pinned := { name := "ytaacmohlmdkigaadoor", sum := "a15d7389f7dc9fed2911059ef4d3b200b31d735b1e909301dfbf5cdfdad7a335", checked := Tryd.checked }
namespace Rows
def none {H : Type} : Left H := { results := [], args := [] }

/- WHAT THE LISTED PACKAGE-LEVEL VARIABLES READ AS WHEN THE CALL BEGINS. Each datum BY PROGRAM (the guide's laid-datum.mjs) off the statement by which the dump's own 'gosem.cut.vars' lays the variable. In a bare row this is a premise. The card (YtaacmohlmdkigaaDoorCards.lean) ties it to the program's text. -/
def laid_errors_errorType {H : Type} : DataW H := .iface "internal/reflectlite.rtype" (.agg [.ptr (.lit (.string [101, 114, 114, 111, 114]))])

/-- 'gangwaylaw03.CsumOf': WHATEVER THE INPUT: true; the input reads as it did. -/
def csumOfSpec : ChangeSpec := { name := "csumOf", fn := fun _ => fun
  | [d] => { results := [.lit (.bool true)], args := [d] }
  | _ => none }
def csumOfRow : OpenClaim := { program := "ytaacmohlmdkigaadoor", sum := "a15d7389f7dc9fed2911059ef4d3b200b31d735b1e909301dfbf5cdfdad7a335", func := "gangway/gangwaylaw03.CsumOf", spec := "csumOf", inPlace := ["internal/reflectlite.ValueOf", "(internal/reflectlite.Value).Type", "(internal/reflectlite.Value).IsNil", "internal/reflectlite.TypeOf", "(internal/reflectlite.Value).Elem", "(internal/reflectlite.Value).Set"], unfollowed := true, recurses := true, named := ["errors.errorType"], apart := false, laid := [("errors.errorType", laid_errors_errorType)] }
def CsumOfSaid : Prop := csumOfRow.holds Tryd.pinned (OpenSpec.ofChange csumOfSpec)

/-- ITS FALSE NEIGHBOUR: 'it returns false'. Refute it at one input. -/
def csumOfWrong : ChangeSpec := { name := "csumOf", fn := fun _ => fun
  | [d] => { results := [.lit (.bool false)], args := [d] }
  | _ => none }
def CsumOfWrongFalsely : Prop := csumOfRow.holds Tryd.pinned (OpenSpec.ofChange csumOfWrong)

/-- 'gangwaylaw03.CsumPatch': WHATEVER THE INPUT: true; the input reads as it did. -/
def csumPatchSpec : ChangeSpec := { name := "csumPatch", fn := fun _ => fun
  | [d1, d2, d3] => { results := [.lit (.bool true)], args := [d1, d2, d3] }
  | _ => none }
def csumPatchRow : OpenClaim := { program := "ytaacmohlmdkigaadoor", sum := "a15d7389f7dc9fed2911059ef4d3b200b31d735b1e909301dfbf5cdfdad7a335", func := "gangway/gangwaylaw03.CsumPatch", spec := "csumPatch", inPlace := ["internal/reflectlite.ValueOf", "(internal/reflectlite.Value).Type", "(internal/reflectlite.Value).IsNil", "internal/reflectlite.TypeOf", "(internal/reflectlite.Value).Elem", "(internal/reflectlite.Value).Set"], unfollowed := true, recurses := true, named := ["errors.errorType"], apart := false, laid := [("errors.errorType", laid_errors_errorType)] }
def CsumPatchSaid : Prop := csumPatchRow.holds Tryd.pinned (OpenSpec.ofChange csumPatchSpec)

/-- ITS FALSE NEIGHBOUR: 'it returns false'. Refute it at one input. -/
def csumPatchWrong : ChangeSpec := { name := "csumPatch", fn := fun _ => fun
  | [d1, d2, d3] => { results := [.lit (.bool false)], args := [d1, d2, d3] }
  | _ => none }
def CsumPatchWrongFalsely : Prop := csumPatchRow.holds Tryd.pinned (OpenSpec.ofChange csumPatchWrong)

/-- 'gangwaylaw03.CsumSeals': WHATEVER THE INPUT: true; the input reads as it did. -/
def csumSealsSpec : ChangeSpec := { name := "csumSeals", fn := fun _ => fun
  | [d1, d2, d3] => { results := [.lit (.bool true)], args := [d1, d2, d3] }
  | _ => none }
def csumSealsRow : OpenClaim := { program := "ytaacmohlmdkigaadoor", sum := "a15d7389f7dc9fed2911059ef4d3b200b31d735b1e909301dfbf5cdfdad7a335", func := "gangway/gangwaylaw03.CsumSeals", spec := "csumSeals", inPlace := ["internal/reflectlite.ValueOf", "(internal/reflectlite.Value).Type", "(internal/reflectlite.Value).IsNil", "internal/reflectlite.TypeOf", "(internal/reflectlite.Value).Elem", "(internal/reflectlite.Value).Set"], unfollowed := true, recurses := true, named := ["errors.errorType"], apart := false, laid := [("errors.errorType", laid_errors_errorType)] }
def CsumSealsSaid : Prop := csumSealsRow.holds Tryd.pinned (OpenSpec.ofChange csumSealsSpec)

/-- ITS FALSE NEIGHBOUR: 'it returns false'. Refute it at one input. -/
def csumSealsWrong : ChangeSpec := { name := "csumSeals", fn := fun _ => fun
  | [d1, d2, d3] => { results := [.lit (.bool false)], args := [d1, d2, d3] }
  | _ => none }
def CsumSealsWrongFalsely : Prop := csumSealsRow.holds Tryd.pinned (OpenSpec.ofChange csumSealsWrong)

/-- 'gangwaylaw03.CsumPatches': WHATEVER THE INPUT: true; the input reads as it did. -/
def csumPatchesSpec : ChangeSpec := { name := "csumPatches", fn := fun _ => fun
  | [d1, d2, d3] => { results := [.lit (.bool true)], args := [d1, d2, d3] }
  | _ => none }
def csumPatchesRow : OpenClaim := { program := "ytaacmohlmdkigaadoor", sum := "a15d7389f7dc9fed2911059ef4d3b200b31d735b1e909301dfbf5cdfdad7a335", func := "gangway/gangwaylaw03.CsumPatches", spec := "csumPatches", inPlace := ["internal/reflectlite.ValueOf", "(internal/reflectlite.Value).Type", "(internal/reflectlite.Value).IsNil", "internal/reflectlite.TypeOf", "(internal/reflectlite.Value).Elem", "(internal/reflectlite.Value).Set"], unfollowed := true, recurses := true, named := ["errors.errorType"], apart := false, laid := [("errors.errorType", laid_errors_errorType)] }
def CsumPatchesSaid : Prop := csumPatchesRow.holds Tryd.pinned (OpenSpec.ofChange csumPatchesSpec)

/-- ITS FALSE NEIGHBOUR: 'it returns false'. Refute it at one input. -/
def csumPatchesWrong : ChangeSpec := { name := "csumPatches", fn := fun _ => fun
  | [d1, d2, d3] => { results := [.lit (.bool false)], args := [d1, d2, d3] }
  | _ => none }
def CsumPatchesWrongFalsely : Prop := csumPatchesRow.holds Tryd.pinned (OpenSpec.ofChange csumPatchesWrong)

/-- 'gangwaylaw03.CsumOrder': WHATEVER THE INPUT: true; the input reads as it did. -/
def csumOrderSpec : ChangeSpec := { name := "csumOrder", fn := fun _ => fun
  | [d1, d2] => { results := [.lit (.bool true)], args := [d1, d2] }
  | _ => none }
def csumOrderRow : OpenClaim := { program := "ytaacmohlmdkigaadoor", sum := "a15d7389f7dc9fed2911059ef4d3b200b31d735b1e909301dfbf5cdfdad7a335", func := "gangway/gangwaylaw03.CsumOrder", spec := "csumOrder", inPlace := ["internal/reflectlite.ValueOf", "(internal/reflectlite.Value).Type", "(internal/reflectlite.Value).IsNil", "internal/reflectlite.TypeOf", "(internal/reflectlite.Value).Elem", "(internal/reflectlite.Value).Set"], unfollowed := true, recurses := true, named := ["errors.errorType"], apart := false, laid := [("errors.errorType", laid_errors_errorType)] }
def CsumOrderSaid : Prop := csumOrderRow.holds Tryd.pinned (OpenSpec.ofChange csumOrderSpec)

/-- ITS FALSE NEIGHBOUR: 'it returns false'. Refute it at one input. -/
def csumOrderWrong : ChangeSpec := { name := "csumOrder", fn := fun _ => fun
  | [d1, d2] => { results := [.lit (.bool false)], args := [d1, d2] }
  | _ => none }
def CsumOrderWrongFalsely : Prop := csumOrderRow.holds Tryd.pinned (OpenSpec.ofChange csumOrderWrong)

/-- 'gangwaylaw03.CsumHalves': WHATEVER THE INPUT: true; the input reads as it did. -/
def csumHalvesSpec : ChangeSpec := { name := "csumHalves", fn := fun _ => fun
  | [d1, d2] => { results := [.lit (.bool true)], args := [d1, d2] }
  | _ => none }
def csumHalvesRow : OpenClaim := { program := "ytaacmohlmdkigaadoor", sum := "a15d7389f7dc9fed2911059ef4d3b200b31d735b1e909301dfbf5cdfdad7a335", func := "gangway/gangwaylaw03.CsumHalves", spec := "csumHalves", inPlace := ["internal/reflectlite.ValueOf", "(internal/reflectlite.Value).Type", "(internal/reflectlite.Value).IsNil", "internal/reflectlite.TypeOf", "(internal/reflectlite.Value).Elem", "(internal/reflectlite.Value).Set"], unfollowed := true, recurses := true, named := ["errors.errorType"], apart := false, laid := [("errors.errorType", laid_errors_errorType)] }
def CsumHalvesSaid : Prop := csumHalvesRow.holds Tryd.pinned (OpenSpec.ofChange csumHalvesSpec)

/-- ITS FALSE NEIGHBOUR: 'it returns false'. Refute it at one input. -/
def csumHalvesWrong : ChangeSpec := { name := "csumHalves", fn := fun _ => fun
  | [d1, d2] => { results := [.lit (.bool false)], args := [d1, d2] }
  | _ => none }
def CsumHalvesWrongFalsely : Prop := csumHalvesRow.holds Tryd.pinned (OpenSpec.ofChange csumHalvesWrong)

/- THE SECOND FORM. 'bulk': how many values and letters a reading holds, each counted each time it is reached (what is shared counts as often as it is met; a slice's spare places count too). A statement '..UptoSaid' is the law's where the arguments, and the package variables that the reading takes, are together of bulk at most 1048576: NARROWER than '..Said'. Prove '..Said' where nothing that the law and all that it calls make is longer than what came in: it says more and counts as full. Else prove '..UptoSaid'. A law counts once. -/
mutual
def uptoBulk {H : Type} : DataW H → Nat
  | .lit (.string bytes) => bytes.length + 1
  | .lit _ => 1
  | .nil => 1
  | .ptr d => uptoBulk d + 1
  | .slice elems spare => uptoBulkAll elems + uptoBulkAll spare + 1
  | .agg parts => uptoBulkAll parts + 1
  | .iface _ d => uptoBulk d + 1
  | .map entries => uptoBulkEntries entries + 1
  | .held _ => 1
def uptoBulkAll {H : Type} : List (DataW H) → Nat
  | [] => 0
  | d :: r => uptoBulk d + uptoBulkAll r
def uptoBulkEntries {H : Type} : List (Lit × DataW H) → Nat
  | [] => 0
  | x :: r => uptoBulkEntry x + uptoBulkEntries r
def uptoBulkEntry {H : Type} : Lit × DataW H → Nat
  | (.string bytes, d) => bytes.length + uptoBulk d + 1
  | (_, d) => uptoBulk d + 1
 end
def uptoSmall : (H : Type) → List (DataW H) → Bool := fun _ ds => decide (uptoBulkAll ds ≤ 1048576)
def OpenSpec.upto (s : _root_.Go.ChangeSpec) : _root_.Go.OpenSpec := { _root_.Go.OpenSpec.ofChange s with cond := some uptoSmall }

/-- 'gangwaylaw03.CsumOf', WHERE WHAT IT READS IS OF BULK AT MOST 1048576: true; the input reads as it did. -/
def csumOfUptoRow : OpenClaim := { program := "ytaacmohlmdkigaadoor", sum := "a15d7389f7dc9fed2911059ef4d3b200b31d735b1e909301dfbf5cdfdad7a335", func := "gangway/gangwaylaw03.CsumOf", spec := "csumOf", inPlace := ["internal/reflectlite.ValueOf", "(internal/reflectlite.Value).Type", "(internal/reflectlite.Value).IsNil", "internal/reflectlite.TypeOf", "(internal/reflectlite.Value).Elem", "(internal/reflectlite.Value).Set"], unfollowed := true, recurses := true, named := ["errors.errorType"], apart := false, laid := [("errors.errorType", laid_errors_errorType)], narrowed := true }
def CsumOfUptoSaid : Prop := csumOfUptoRow.holds Tryd.pinned (OpenSpec.upto csumOfSpec)

/-- 'gangwaylaw03.CsumPatch', WHERE WHAT IT READS IS OF BULK AT MOST 1048576: true; the input reads as it did. -/
def csumPatchUptoRow : OpenClaim := { program := "ytaacmohlmdkigaadoor", sum := "a15d7389f7dc9fed2911059ef4d3b200b31d735b1e909301dfbf5cdfdad7a335", func := "gangway/gangwaylaw03.CsumPatch", spec := "csumPatch", inPlace := ["internal/reflectlite.ValueOf", "(internal/reflectlite.Value).Type", "(internal/reflectlite.Value).IsNil", "internal/reflectlite.TypeOf", "(internal/reflectlite.Value).Elem", "(internal/reflectlite.Value).Set"], unfollowed := true, recurses := true, named := ["errors.errorType"], apart := false, laid := [("errors.errorType", laid_errors_errorType)], narrowed := true }
def CsumPatchUptoSaid : Prop := csumPatchUptoRow.holds Tryd.pinned (OpenSpec.upto csumPatchSpec)

/-- 'gangwaylaw03.CsumSeals', WHERE WHAT IT READS IS OF BULK AT MOST 1048576: true; the input reads as it did. -/
def csumSealsUptoRow : OpenClaim := { program := "ytaacmohlmdkigaadoor", sum := "a15d7389f7dc9fed2911059ef4d3b200b31d735b1e909301dfbf5cdfdad7a335", func := "gangway/gangwaylaw03.CsumSeals", spec := "csumSeals", inPlace := ["internal/reflectlite.ValueOf", "(internal/reflectlite.Value).Type", "(internal/reflectlite.Value).IsNil", "internal/reflectlite.TypeOf", "(internal/reflectlite.Value).Elem", "(internal/reflectlite.Value).Set"], unfollowed := true, recurses := true, named := ["errors.errorType"], apart := false, laid := [("errors.errorType", laid_errors_errorType)], narrowed := true }
def CsumSealsUptoSaid : Prop := csumSealsUptoRow.holds Tryd.pinned (OpenSpec.upto csumSealsSpec)

/-- 'gangwaylaw03.CsumPatches', WHERE WHAT IT READS IS OF BULK AT MOST 1048576: true; the input reads as it did. -/
def csumPatchesUptoRow : OpenClaim := { program := "ytaacmohlmdkigaadoor", sum := "a15d7389f7dc9fed2911059ef4d3b200b31d735b1e909301dfbf5cdfdad7a335", func := "gangway/gangwaylaw03.CsumPatches", spec := "csumPatches", inPlace := ["internal/reflectlite.ValueOf", "(internal/reflectlite.Value).Type", "(internal/reflectlite.Value).IsNil", "internal/reflectlite.TypeOf", "(internal/reflectlite.Value).Elem", "(internal/reflectlite.Value).Set"], unfollowed := true, recurses := true, named := ["errors.errorType"], apart := false, laid := [("errors.errorType", laid_errors_errorType)], narrowed := true }
def CsumPatchesUptoSaid : Prop := csumPatchesUptoRow.holds Tryd.pinned (OpenSpec.upto csumPatchesSpec)

/-- 'gangwaylaw03.CsumOrder', WHERE WHAT IT READS IS OF BULK AT MOST 1048576: true; the input reads as it did. -/
def csumOrderUptoRow : OpenClaim := { program := "ytaacmohlmdkigaadoor", sum := "a15d7389f7dc9fed2911059ef4d3b200b31d735b1e909301dfbf5cdfdad7a335", func := "gangway/gangwaylaw03.CsumOrder", spec := "csumOrder", inPlace := ["internal/reflectlite.ValueOf", "(internal/reflectlite.Value).Type", "(internal/reflectlite.Value).IsNil", "internal/reflectlite.TypeOf", "(internal/reflectlite.Value).Elem", "(internal/reflectlite.Value).Set"], unfollowed := true, recurses := true, named := ["errors.errorType"], apart := false, laid := [("errors.errorType", laid_errors_errorType)], narrowed := true }
def CsumOrderUptoSaid : Prop := csumOrderUptoRow.holds Tryd.pinned (OpenSpec.upto csumOrderSpec)

/-- 'gangwaylaw03.CsumHalves', WHERE WHAT IT READS IS OF BULK AT MOST 1048576: true; the input reads as it did. -/
def csumHalvesUptoRow : OpenClaim := { program := "ytaacmohlmdkigaadoor", sum := "a15d7389f7dc9fed2911059ef4d3b200b31d735b1e909301dfbf5cdfdad7a335", func := "gangway/gangwaylaw03.CsumHalves", spec := "csumHalves", inPlace := ["internal/reflectlite.ValueOf", "(internal/reflectlite.Value).Type", "(internal/reflectlite.Value).IsNil", "internal/reflectlite.TypeOf", "(internal/reflectlite.Value).Elem", "(internal/reflectlite.Value).Set"], unfollowed := true, recurses := true, named := ["errors.errorType"], apart := false, laid := [("errors.errorType", laid_errors_errorType)], narrowed := true }
def CsumHalvesUptoSaid : Prop := csumHalvesUptoRow.holds Tryd.pinned (OpenSpec.upto csumHalvesSpec)

end Rows
end Go.Proofs.YtaacmohlmdkigaaDoor
