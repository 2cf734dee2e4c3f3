/-
  A byte's type, and two calls in a row that leave what was there before.
-/
import Derived.Test.YtfndofbkfinnmaaDoorLeaf2
namespace Go.Proofs.YtfndofbkfinnmaaDoor
open Go.RowKit

theorem info5 : (Tryd.prog.info? 5).map (fun i => (i.zero, i.size, i.bytes)) = some (some (.int .u8 0), 1, 1) := by kernel_rfl
theorem bthen {w w1 w2 : World} (h1 : Below w.heap.size w w1) (h2 : Below w1.heap.size w1 w2) : Below w.heap.size w w2 := h1.trans (h2.mono h1.size)
end Go.Proofs.YtfndofbkfinnmaaDoor
