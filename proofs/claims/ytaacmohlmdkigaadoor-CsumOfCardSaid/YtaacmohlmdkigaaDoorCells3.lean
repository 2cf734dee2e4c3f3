/-
  Cells of blocks that were made last or last but one, behind a draw or not; plain facts on checksums.
-/
import Derived.Test.YtaacmohlmdkigaaDoorFixed3
namespace Go.Proofs.YtaacmohlmdkigaaDoor
open Go.RowKit

theorem cell_prev {W : World} {os : Array Value} {t : TypeId} {o : Obj} {b j : Nat} {v : Value} (hb : W.heap.size = b) (h : os[j]? = some v) : ((W.alloc (.cells os t)).alloc o).cell? ⟨b, j, none⟩ = some v := by
  rw [World.cell?_alloc_old _ _ _ (by simp; omega)]
  exact cell_last hb h
theorem cell_drew {W : World} {a : Addr} {v : Value} (h : W.cell? a = some v) : W.drew.cell? a = some v := h
theorem drew_then {w W W' : World} (h : Below w.heap.size w W) (h' : Below W.drew.heap.size W.drew W') : Below w.heap.size w W' := bthen h.drew h'
theorem alloc_then {w W : World} {o : Obj} (h : Below w.heap.size w W) : Below w.heap.size w (W.alloc o) := h.alloc h.size _
theorem ck_of {l m : List UInt8} (h : tot l = tot m) : ck l = ck m := by unfold ck; rw [h]
end Go.Proofs.YtaacmohlmdkigaaDoor
