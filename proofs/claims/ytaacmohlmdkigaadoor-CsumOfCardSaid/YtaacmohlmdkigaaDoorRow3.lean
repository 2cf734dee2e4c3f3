/-
  What every row of this seat shares: a world that meets the list; a text's first 600 bytes, in the words in which a walk asks them.
-/
import Derived.Test.YtaacmohlmdkigaaDoorRows
import Derived.Test.YtaacmohlmdkigaaDoorCards
import Derived.Test.YtaacmohlmdkigaaDoorTie
import Derived.Test.YtaacmohlmdkigaaDoorFixed3
import Derived.ChangeSame
import Derived.ChangeVars
import Derived.ChangeMaps5
import Derived.JoinedOf
import Derived.RowKit
import Derived.RowKitTokens
import Derived.LaidLaws
import Derived.LaidHandle
import Derived.Stop.Joined
import Derived.ProofKit
import Derived.OpenShut
import Derived.SevenTiedAt
namespace Go.Proofs.YtaacmohlmdkigaaDoor
open Go.ChangeShapes Go.WideShapes Go.ChangeAt Go.RowKit

theorem own : ownKnob Tryd.prog.godebug = none := by kernel_rfl
theorem laid_met (os : Os) (args : Array Value) : laidMetH Tryd.prog [("errors.errorType", Rows.laid_errors_errorType)]
    (({ World.holding Tryd.prog os ⟨#[], #[], []⟩ with heap := (World.holding Tryd.prog os ⟨#[], #[], []⟩).heap.modify 0 fun
      | .cells _ t frozen => .cells #[.iface 68 (.agg #[.pointer (some ⟨1, 47, none⟩)])] t frozen
      | o => o } : World).forCall (fun _ _ => 0) ⟨#[], args, []⟩).memory :=
  laidMetH_of_parts (laidMet_nil _ _) (by kernel_rfl)

/-- p is what a law's first row makes of s: all of it, or its first 600 bytes -/
def Shortened (s p : ByteArray) : Prop :=
  s = p ∧ s.size ≤ 600 ∧ min (s.size : Int) 600 = (s.size : Int) ∧ s.extract 0 s.size = s ∨ s.extract 0 600 = p ∧ 600 < s.size ∧ min (s.size : Int) 600 = 600
theorem shortened (s : ByteArray) : ∃ l : List UInt8, l.length ≤ 600 ∧ Shortened s (bs l) := by
  by_cases h : s.size ≤ 600
  · exact ⟨s.data.toList, by rw [size_toList]; exact h, Or.inl ⟨(bs_of s).symm, h, by omega, extract_all s⟩⟩
  · refine ⟨(s.extract 0 600).data.toList, by rw [size_toList, ByteArray.size_extract]; omega, Or.inr ⟨(bs_of _).symm, by omega, by omega⟩⟩
/-- a contract that leaves what was there, behind w -/
theorem behind {P : Program} {f : FuncId} {args : Array Value} {w W : World} {v : Value} (hb : Below w.heap.size w W) (h : Calls P f args W fun e W' => e = .returned v ∧ Below W.heap.size W W') :
    Calls P f args W fun e W' => e = .returned v ∧ Below w.heap.size w W' := h.mono fun _ _ ⟨he, h'⟩ => ⟨he, bthen hb h'⟩
end Go.Proofs.YtaacmohlmdkigaaDoor
