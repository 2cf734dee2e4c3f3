/-
  No cell of these rows narrows 'for every input' (looked for: loops, veiled, ifaces, maps, wideKeys, modest, calm, conditions, laid).
  DERIVED. THE GIVEN ROWS OF THIS SEAT. 5 by the template 'for every input the law returns true; each argument reads behind the call as it read before'; 0 by the template 'total and deterministic' (their statements: YtbacbfgacepaaaaTotals.lean).
  GIVEN WITH THE SEED: the statements are not yours to turn. If you find one false, say at which input.
  Laid BY PROGRAM, IN A SANDBOX (cutbox-rows.mjs): the forced cells as the released guide's own fill.sh prints them over the translation 910ae6c17169ea95… (all of the seat's roots in one cut). By AI agents, Wed Nov 11 2026. No macro, syntax, notation, axiom, sorry.
-/
import Derived.Test.YtbacbfgacepaaaaChecked
import GoSem.Claim
import GoSem.ClaimJoined
import GoSem.ClaimMapViews
import Derived.JoinedTies
import Derived.KernelRfl
namespace Go.Proofs.Ytbacbfgacepaaaa
/- THE CELL 'sum', in the pinned program and in every row, IS THE sha256 OF THE DUMP (.gsa) THAT YtbacbfgacepaaaaProg.lean LOADS. Nothing in Lean hashes anything: it is a label: what it is worth is what the hold of that sum in a sandbox is worth. -/
noncomputable def Try.pinned : Pinned := { name := "ytbacbfgacepaaaa", sum := "910ae6c17169ea957d7d0d5fa060d4025b10f707342c25910ee193feacacd988", checked := Try.checked }
namespace Rows
def none {H : Type} : Left H := { results := [], args := [] }

/-- 'gangwaylaw13.VectorsCompare': WHATEVER THE INPUT: true; the input reads as it did. -/
def vectorsCompareSpec : ChangeSpec := { name := "vectorsCompare", fn := fun _ => fun
  | [d1, d2] => { results := [.lit (.bool true)], args := [d1, d2] }
  | _ => none }
def vectorsCompareRow : OpenClaim := { program := "ytbacbfgacepaaaa", sum := "910ae6c17169ea957d7d0d5fa060d4025b10f707342c25910ee193feacacd988", func := "gangway/gangwaylaw13.VectorsCompare", spec := "vectorsCompare", apart := false }
def VectorsCompareSaid : Prop := vectorsCompareRow.holds Try.pinned (OpenSpec.ofChange vectorsCompareSpec)

/-- ITS FALSE NEIGHBOUR: 'it returns false'. Refute it at one input. -/
def vectorsCompareWrong : ChangeSpec := { name := "vectorsCompare", fn := fun _ => fun
  | [d1, d2] => { results := [.lit (.bool false)], args := [d1, d2] }
  | _ => none }
def VectorsCompareWrongFalsely : Prop := vectorsCompareRow.holds Try.pinned (OpenSpec.ofChange vectorsCompareWrong)

/-- 'gangwaylaw13.VectorsMake': WHATEVER THE INPUT: true; the input reads as it did. -/
def vectorsMakeSpec : ChangeSpec := { name := "vectorsMake", fn := fun _ => fun
  | [d1, d2, d3] => { results := [.lit (.bool true)], args := [d1, d2, d3] }
  | _ => none }
def vectorsMakeRow : OpenClaim := { program := "ytbacbfgacepaaaa", sum := "910ae6c17169ea957d7d0d5fa060d4025b10f707342c25910ee193feacacd988", func := "gangway/gangwaylaw13.VectorsMake", spec := "vectorsMake", apart := false }
def VectorsMakeSaid : Prop := vectorsMakeRow.holds Try.pinned (OpenSpec.ofChange vectorsMakeSpec)

/-- ITS FALSE NEIGHBOUR: 'it returns false'. Refute it at one input. -/
def vectorsMakeWrong : ChangeSpec := { name := "vectorsMake", fn := fun _ => fun
  | [d1, d2, d3] => { results := [.lit (.bool false)], args := [d1, d2, d3] }
  | _ => none }
def VectorsMakeWrongFalsely : Prop := vectorsMakeRow.holds Try.pinned (OpenSpec.ofChange vectorsMakeWrong)

/-- 'gangwaylaw13.VectorsOrder': WHATEVER THE INPUT: true; the input reads as it did. -/
def vectorsOrderSpec : ChangeSpec := { name := "vectorsOrder", fn := fun _ => fun
  | [d1, d2, d3] => { results := [.lit (.bool true)], args := [d1, d2, d3] }
  | _ => none }
def vectorsOrderRow : OpenClaim := { program := "ytbacbfgacepaaaa", sum := "910ae6c17169ea957d7d0d5fa060d4025b10f707342c25910ee193feacacd988", func := "gangway/gangwaylaw13.VectorsOrder", spec := "vectorsOrder", apart := false }
def VectorsOrderSaid : Prop := vectorsOrderRow.holds Try.pinned (OpenSpec.ofChange vectorsOrderSpec)

/-- ITS FALSE NEIGHBOUR: 'it returns false'. Refute it at one input. -/
def vectorsOrderWrong : ChangeSpec := { name := "vectorsOrder", fn := fun _ => fun
  | [d1, d2, d3] => { results := [.lit (.bool false)], args := [d1, d2, d3] }
  | _ => none }
def VectorsOrderWrongFalsely : Prop := vectorsOrderRow.holds Try.pinned (OpenSpec.ofChange vectorsOrderWrong)

/-- 'gangwaylaw13.VectorsFar': WHATEVER THE INPUT: true; the input reads as it did. -/
def vectorsFarSpec : ChangeSpec := { name := "vectorsFar", fn := fun _ => fun
  | [d1, d2, d3] => { results := [.lit (.bool true)], args := [d1, d2, d3] }
  | _ => none }
def vectorsFarRow : OpenClaim := { program := "ytbacbfgacepaaaa", sum := "910ae6c17169ea957d7d0d5fa060d4025b10f707342c25910ee193feacacd988", func := "gangway/gangwaylaw13.VectorsFar", spec := "vectorsFar", apart := false }
def VectorsFarSaid : Prop := vectorsFarRow.holds Try.pinned (OpenSpec.ofChange vectorsFarSpec)

/-- ITS FALSE NEIGHBOUR: 'it returns false'. Refute it at one input. -/
def vectorsFarWrong : ChangeSpec := { name := "vectorsFar", fn := fun _ => fun
  | [d1, d2, d3] => { results := [.lit (.bool false)], args := [d1, d2, d3] }
  | _ => none }
def VectorsFarWrongFalsely : Prop := vectorsFarRow.holds Try.pinned (OpenSpec.ofChange vectorsFarWrong)

/-- 'gangwaylaw13.VectorsRoot': WHATEVER THE INPUT: true; the input reads as it did. -/
def vectorsRootSpec : ChangeSpec := { name := "vectorsRoot", fn := fun _ => fun
  | [d1, d2] => { results := [.lit (.bool true)], args := [d1, d2] }
  | _ => none }
def vectorsRootRow : OpenClaim := { program := "ytbacbfgacepaaaa", sum := "910ae6c17169ea957d7d0d5fa060d4025b10f707342c25910ee193feacacd988", func := "gangway/gangwaylaw13.VectorsRoot", spec := "vectorsRoot", apart := false }
def VectorsRootSaid : Prop := vectorsRootRow.holds Try.pinned (OpenSpec.ofChange vectorsRootSpec)

/-- ITS FALSE NEIGHBOUR: 'it returns false'. Refute it at one input. -/
def vectorsRootWrong : ChangeSpec := { name := "vectorsRoot", fn := fun _ => fun
  | [d1, d2] => { results := [.lit (.bool false)], args := [d1, d2] }
  | _ => none }
def VectorsRootWrongFalsely : Prop := vectorsRootRow.holds Try.pinned (OpenSpec.ofChange vectorsRootWrong)

/- THE SECOND FORM. 'bulk': how many values and letters a reading holds, each counted each time it is reached (what is shared counts as often as it is met; a slice's spare places count too). A statement '..UptoSaid' is the law's where the arguments, and the package variables that the reading takes, are together of bulk at most 1048576: NARROWER than '..Said'. Prove '..Said' where nothing that the law and all that it calls make is longer than what came in: it says more and counts as full. Else prove '..UptoSaid'. A law counts once. -/
mutual
def uptoBulk {H : Type} : DataW H → Nat
  | .lit (.string bytes) => bytes.length + 1
  | .lit _ => 1
  | .nil => 1
  | .ptr d => uptoBulk d + 1
  | .slice elems spare => uptoBulkAll elems + uptoBulkAll spare + 1
  | .agg parts => uptoBulkAll parts + 1
  | .iface _ d => uptoBulk d + 1
  | .map entries => uptoBulkEntries entries + 1
  | .held _ => 1
def uptoBulkAll {H : Type} : List (DataW H) → Nat
  | [] => 0
  | d :: r => uptoBulk d + uptoBulkAll r
def uptoBulkEntries {H : Type} : List (Lit × DataW H) → Nat
  | [] => 0
  | x :: r => uptoBulkEntry x + uptoBulkEntries r
def uptoBulkEntry {H : Type} : Lit × DataW H → Nat
  | (.string bytes, d) => bytes.length + uptoBulk d + 1
  | (_, d) => uptoBulk d + 1
 end
def uptoSmall : (H : Type) → List (DataW H) → Bool := fun _ ds => decide (uptoBulkAll ds ≤ 1048576)
def OpenSpec.upto (s : _root_.Go.ChangeSpec) : _root_.Go.OpenSpec := { _root_.Go.OpenSpec.ofChange s with cond := some uptoSmall }

/-- 'gangwaylaw13.VectorsCompare', WHERE WHAT IT READS IS OF BULK AT MOST 1048576: true; the input reads as it did. -/
def vectorsCompareUptoRow : OpenClaim := { program := "ytbacbfgacepaaaa", sum := "910ae6c17169ea957d7d0d5fa060d4025b10f707342c25910ee193feacacd988", func := "gangway/gangwaylaw13.VectorsCompare", spec := "vectorsCompare", apart := false, narrowed := true }
def VectorsCompareUptoSaid : Prop := vectorsCompareUptoRow.holds Try.pinned (OpenSpec.upto vectorsCompareSpec)

/-- 'gangwaylaw13.VectorsMake', WHERE WHAT IT READS IS OF BULK AT MOST 1048576: true; the input reads as it did. -/
def vectorsMakeUptoRow : OpenClaim := { program := "ytbacbfgacepaaaa", sum := "910ae6c17169ea957d7d0d5fa060d4025b10f707342c25910ee193feacacd988", func := "gangway/gangwaylaw13.VectorsMake", spec := "vectorsMake", apart := false, narrowed := true }
def VectorsMakeUptoSaid : Prop := vectorsMakeUptoRow.holds Try.pinned (OpenSpec.upto vectorsMakeSpec)

/-- 'gangwaylaw13.VectorsOrder', WHERE WHAT IT READS IS OF BULK AT MOST 1048576: true; the input reads as it did. -/
def vectorsOrderUptoRow : OpenClaim := { program := "ytbacbfgacepaaaa", sum := "910ae6c17169ea957d7d0d5fa060d4025b10f707342c25910ee193feacacd988", func := "gangway/gangwaylaw13.VectorsOrder", spec := "vectorsOrder", apart := false, narrowed := true }
def VectorsOrderUptoSaid : Prop := vectorsOrderUptoRow.holds Try.pinned (OpenSpec.upto vectorsOrderSpec)

/-- 'gangwaylaw13.VectorsFar', WHERE WHAT IT READS IS OF BULK AT MOST 1048576: true; the input reads as it did. -/
def vectorsFarUptoRow : OpenClaim := { program := "ytbacbfgacepaaaa", sum := "910ae6c17169ea957d7d0d5fa060d4025b10f707342c25910ee193feacacd988", func := "gangway/gangwaylaw13.VectorsFar", spec := "vectorsFar", apart := false, narrowed := true }
def VectorsFarUptoSaid : Prop := vectorsFarUptoRow.holds Try.pinned (OpenSpec.upto vectorsFarSpec)

/-- 'gangwaylaw13.VectorsRoot', WHERE WHAT IT READS IS OF BULK AT MOST 1048576: true; the input reads as it did. -/
def vectorsRootUptoRow : OpenClaim := { program := "ytbacbfgacepaaaa", sum := "910ae6c17169ea957d7d0d5fa060d4025b10f707342c25910ee193feacacd988", func := "gangway/gangwaylaw13.VectorsRoot", spec := "vectorsRoot", apart := false, narrowed := true }
def VectorsRootUptoSaid : Prop := vectorsRootUptoRow.holds Try.pinned (OpenSpec.upto vectorsRootSpec)

end Rows
end Go.Proofs.Ytbacbfgacepaaaa
