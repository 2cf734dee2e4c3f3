/-
  gangwaylaw04.fixed: calls whose answers the document fixes: true, always.
-/
import Derived.Test.YtfndofbkfinnmaaDoorSame4
namespace Go.Proofs.YtfndofbkfinnmaaDoor
open Go.RowKit

theorem fix1 (W : World) : Calls Tryd.prog 8 #[.agg #[.int .u64 281474976710655, .int .u64 2, .bool false, .int .i64 0, .bool false, .int .i64 0, .int .i64 2054, .string ⟨#[]⟩]] W fun e w' => e = .returned (.tuple #[.string ⟨#[255, 255, 255, 255, 255, 255, 0, 0, 0, 0, 0, 2, 8, 6]⟩, .int .i64 0]) ∧ Below W.heap.size W w' := build_ok 281474976710655 2 false 0 false 0 2054 [] W (by decide)
theorem fix2 (W : World) (hg : Et W) : Calls Tryd.prog 15 #[.string ⟨#[255, 255, 255, 255, 255, 255, 0, 0, 0, 0, 0, 2, 129, 0, 80, 7, 0, 2, 97, 98, 99]⟩] W fun e w' => e = .returned (.tuple #[.agg #[.int .u64 281474976710655, .int .u64 2, .bool true, .int .i64 2, .bool true, .int .i64 7, .int .i64 0, .string ⟨#[97, 98]⟩], .int .i64 0]) ∧ Below W.heap.size W w' := by
  have h := parse_any [255, 255, 255, 255, 255, 255, 0, 0, 0, 0, 0, 2, 129, 0, 80, 7, 0, 2, 97, 98, 99] W hg (by decide)
  rw [show Fr.parse [255, 255, 255, 255, 255, 255, 0, 0, 0, 0, 0, 2, 129, 0, 80, 7, 0, 2, 97, 98, 99] = (⟨281474976710655, 2, true, 2, true, 7, 0, [97, 98]⟩, 0) by kernel_rfl] at h
  exact h
theorem fix3 (W : World) (hg : Et W) : Calls Tryd.prog 15 #[.string ⟨#[255, 255, 255, 255, 255, 255, 0, 0, 0, 0, 0, 2, 8]⟩] W fun e w' => e = .returned (.tuple #[.agg #[.int .u64 0, .int .u64 0, .bool false, .int .i64 0, .bool false, .int .i64 0, .int .i64 0, .string ⟨#[]⟩], .int .i64 40]) ∧ Below W.heap.size W w' := by
  have h := parse_any [255, 255, 255, 255, 255, 255, 0, 0, 0, 0, 0, 2, 8] W hg (by decide)
  rw [show Fr.parse [255, 255, 255, 255, 255, 255, 0, 0, 0, 0, 0, 2, 8] = (.none, 40) by kernel_rfl] at h
  exact h
theorem fix4 (W : World) (hg : Et W) : Calls Tryd.prog 8 #[.agg #[.int .u64 0, .int .u64 0, .bool false, .int .i64 0, .bool false, .int .i64 0, .int .i64 5, .string ⟨#[]⟩]] W fun e w' => e = .returned (.tuple #[.string ⟨#[]⟩, .int .i64 41]) ∧ Below W.heap.size W w' := build_bad 0 0 false 0 false 0 5 [] W hg (by decide) (by decide)
theorem fix_cut : (ByteArray.mk #[255, 255, 255, 255, 255, 255, 0, 0, 0, 0, 0, 2, 8, 6]).extract 0 (min 14 13 : Int).toNat = ⟨#[255, 255, 255, 255, 255, 255, 0, 0, 0, 0, 0, 2, 8]⟩ := by decide
theorem Below.row {W W' : World} {g : Nat} {o : Obj} (b : Below W.heap.size W W') (h : W.heap[g]? = some o) : W'.heap[g]? = some o := (b.block g (lt_of_row h)).trans h
set_option maxRecDepth 20000 in
set_option maxHeartbeats 400000 in
theorem fixed_true (w : World) (hg : Et w) : Calls Tryd.prog 11 #[] w fun e w' => e = .returned (.bool true) ∧ Below w.heap.size w w' := by
  go_enter Tryd.func11, Tryd.ntmps11
  go_wp2_with fail
  refine (fix1 _).mono ?_
  rintro e w1 ⟨rfl, b1⟩
  go_wp2_with fail
  refine (fix2 _ (hg.next b1)).mono ?_
  rintro e w2 ⟨rfl, b2⟩
  have hb2 := bthen b1 b2
  clear b1 b2
  go_wp2_with fail
  have hrow := heap_alloc_new w2 (.cells #[.int .u64 281474976710655, .int .u64 2, .bool true, .int .i64 2, .bool true, .int .i64 7, .int .i64 0, .string ⟨#[97, 98]⟩] 26)
  have hbA := alloc_then (o := .cells #[.int .u64 281474976710655, .int .u64 2, .bool true, .int .i64 2, .bool true, .int .i64 7, .int .i64 0, .string ⟨#[97, 98]⟩] 26) hb2
  rw [fix_cut]
  refine (fix3 _ (hg.next hbA)).mono ?_
  rintro e w3 ⟨rfl, b3⟩
  have hrow3 := Below.row b3 hrow
  have hb3 := bthen hbA b3
  clear hbA b3 hrow hb2
  generalize w2.heap.size = F at *
  go_wp2_with fail
  have hbB := alloc_then (o := .cells #[.int .u64 0, .int .u64 0, .bool false, .int .i64 0, .bool false, .int .i64 0, .int .i64 0, .string ⟨#[]⟩] 26) hb3
  have hrow4 := Below.row (alloc_below w3 (.cells #[.int .u64 0, .int .u64 0, .bool false, .int .i64 0, .bool false, .int .i64 0, .int .i64 0, .string ⟨#[]⟩] 26)) hrow3
  refine (fix4 _ (hg.next hbB)).mono ?_
  rintro e w5 ⟨rfl, b5⟩
  have hb5 := bthen hbB b5
  have hrow5 := Below.row b5 hrow4
  clear hbB b5 hrow3 hrow4 hb3
  obtain ⟨c0, c1, c2, c3, c4, c5, c6, c7, _, _, _, _, _, _, _, _⟩ := cells8 hrow5
  clear hrow5
  go_wp2_with fail
  refine (bare_any 281474976710655 2 true 2 true 7 0 ⟨#[97, 98]⟩ _).mono ?_
  rintro e w6 ⟨rfl, b6⟩
  have hb6 := bthen hb5 b6
  go_wp2_with fail
  go_ret
  exact ⟨rfl, hb6⟩
end Go.Proofs.YtfndofbkfinnmaaDoor
