/-
  What every row of this seat shares: a world that meets the list; the first bytes of a text.
-/
import Derived.Test.YtocbpkceokgohaaDoorRows
import Derived.Test.YtocbpkceokgohaaDoorCards
import Derived.Test.YtocbpkceokgohaaDoorTie
import Derived.Test.YtocbpkceokgohaaDoorFixed8
import Derived.ChangeMaps5
import Derived.Deep.Strs
import Derived.ChangeSame
import Derived.ChangeVars
import Derived.JoinedOf
import Derived.RowKit
import Derived.RowKitTokens
import Derived.LaidLaws
import Derived.LaidHandle
import Derived.Stop.Joined
import Derived.ProofKit
import Derived.OpenShut
import Derived.SevenTiedAt
namespace Go.Proofs.YtocbpkceokgohaaDoor
open Go.ChangeShapes Go.WideShapes Go.ChangeAt Go.RowKit Go.Deep

theorem own : ownKnob Tryd.prog.godebug = none := by kernel_rfl

theorem laid_met (os : Os) (args : Array Value) : laidMetH Tryd.prog [("errors.errorType", Rows.laid_errors_errorType)]
    (({ World.holding Tryd.prog os ⟨#[], #[], []⟩ with heap := (World.holding Tryd.prog os ⟨#[], #[], []⟩).heap.modify 0 fun
      | .cells _ t frozen => .cells #[.iface 70 (.agg #[.pointer (some ⟨1, 44, none⟩)])] t frozen
      | o => o } : World).forCall (fun _ _ => 0) ⟨#[], args, []⟩).memory :=
  laidMetH_of_parts (laidMet_nil _ _) (by kernel_rfl)
/-- a text's first n bytes, as the walk's own operations give them -/
def FirstN (n : Nat) (x : ByteArray) (m : Nat) (a : List UInt8) : Prop :=
  a.length ≤ n ∧ (∀ (ts : Array TypeId) (t : TypeId) (W : World), (Builtin.min_ ts t #[.int .i64 (x.size : Int), .int .i64 (n : Int)]).run Tryd.prog W = .ok (.int .i64 (m : Int)) W) ∧
    ∀ W : World, (Instr.slice 9 (.string x) none (some (.int .i64 (m : Int))) none).run Tryd.prog W = .ok (.string (bs a)) W
theorem firstN (n : Nat) (x : ByteArray) : ∃ (m : Nat) (a : List UInt8), FirstN n x m a := by
  refine ⟨min x.size n, (x.extract 0 (min x.size n)).data.toList, ?_, ?_, ?_⟩
  · rw [size_toList, ByteArray.size_extract]; omega
  · intro ts t W
    rw [run_min_int2]
    by_cases h : (n : Int) < (x.size : Int)
    · rw [if_pos h, show ((min x.size n : Nat) : Int) = n by omega]
    · rw [if_neg h, show ((min x.size n : Nat) : Int) = (x.size : Int) by omega]
  · intro W
    have e := run_slice_string_h (P := Tryd.prog) W 9 x Tryd.underlying9 .i64 ((min x.size n : Nat) : Int) (by omega) (by omega)
    rw [show (((min x.size n : Nat) : Int)).toNat = min x.size n by omega] at e
    rw [bs_of]
    exact e
end Go.Proofs.YtocbpkceokgohaaDoor
