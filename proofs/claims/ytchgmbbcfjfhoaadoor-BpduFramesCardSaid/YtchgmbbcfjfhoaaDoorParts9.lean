/-
  Parts of a text, and the least of two numbers, as run equations; no function is named here.
-/
import Derived.Test.YtchgmbbcfjfhoaaDoorKit5
namespace Go.Proofs.YtchgmbbcfjfhoaaDoor
open Go.RowKit

theorem min_at (a b : Nat) (ts : Array TypeId) (t : TypeId) (W : World) : (Builtin.min_ ts t #[.int .i64 (a : Int), .int .i64 (b : Int)]).run Tryd.prog W = .ok (.int .i64 ((min a b : Nat) : Int)) W := by
  rw [run_min_int2]
  by_cases h : (b : Int) < (a : Int)
  · rw [if_pos h, show ((min a b : Nat) : Int) = b by omega]
  · rw [if_neg h, show ((min a b : Nat) : Int) = (a : Int) by omega]
theorem take_at (l : List UInt8) (m : Nat) (h : m ≤ l.length) (W : World) : (Instr.slice 9 (.string (bs l)) none (some (.int .i64 (m : Int))) none).run Tryd.prog W = .ok (.string (bs (l.take m))) W := by
  have e := run_slice_string_h (P := Tryd.prog) W 9 (bs l) Tryd.underlying9 .i64 (m : Int) (by omega) (by rw [bs_size]; omega)
  rw [show ((m : Int)).toNat = m by omega] at e
  have x : (bs l).extract 0 m = bs (l.take m) := by
    rw [← bs_of ((bs l).extract 0 m), extract_toList, bs_toList]; rfl
  rw [x] at e
  exact e
theorem part_at (l : List UInt8) (a n : Nat) (h : a + n ≤ l.length) (W : World) : (Instr.slice 9 (.string (bs l)) (some (.int .i64 (a : Int))) (some (.int .i64 ((a + n : Nat) : Int))) none).run Tryd.prog W = .ok (.string (bs ((l.drop a).take n))) W := by
  have e := run_slice_string_lh (P := Tryd.prog) W 9 (bs l) Tryd.underlying9 .i64 .i64 (a : Int) ((a + n : Nat) : Int) (by omega) (by omega) (by rw [bs_size]; omega)
  rw [show ((a : Int)).toNat = a by omega, show (((a + n : Nat) : Int)).toNat = a + n by omega] at e
  have x : (bs l).extract a (a + n) = bs ((l.drop a).take n) := by
    rw [← bs_of ((bs l).extract a (a + n)), extract_toList, bs_toList, show a + n - a = n by omega]
  rw [x] at e
  exact e
end Go.Proofs.YtchgmbbcfjfhoaaDoor
