/-
  A frame is the same as itself: what the program's == and != say.
-/
import Derived.Test.YtchgmbbcfjfhoaaDoorKit5
namespace Go.Proofs.YtchgmbbcfjfhoaaDoor
open Go.RowKit

theorem fields_frame : Tryd.prog.underlying 37 = some (.struct (Tryd.prog.fieldsOf 37)) := by kernel_rfl
theorem held_frame : Tryd.prog.stoodInHeld 37 = false := by kernel_rfl
theorem same_frame (d s : Int) (has : Bool) (pri : Int) (dei : Bool) (vid ty : Int) (b : ByteArray) (W : World) :
    (binOp .eql 37 (.agg #[.int .u64 d, .int .u64 s, .bool has, .int .i64 pri, .bool dei, .int .i64 vid, .int .i64 ty, .string b]) (.agg #[.int .u64 d, .int .u64 s, .bool has, .int .i64 pri, .bool dei, .int .i64 vid, .int .i64 ty, .string b])).run Tryd.prog W = .ok (.bool true) W := by
  rw [run_eql_struct, run_equalIn_agg _ _ _ _ _ fields_frame held_frame]
  simp [go_sem, Tryd.underlying37]
theorem other_frame (d s : Int) (has : Bool) (pri : Int) (dei : Bool) (vid ty : Int) (b : ByteArray) (W : World) :
    (binOp .neq 37 (.agg #[.int .u64 d, .int .u64 s, .bool has, .int .i64 pri, .bool dei, .int .i64 vid, .int .i64 ty, .string b]) (.agg #[.int .u64 d, .int .u64 s, .bool has, .int .i64 pri, .bool dei, .int .i64 vid, .int .i64 ty, .string b])).run Tryd.prog W = .ok (.bool false) W := by
  rw [run_neq_struct, run_equalIn_agg _ _ _ _ _ fields_frame held_frame]
  simp [go_sem, Tryd.underlying37]
end Go.Proofs.YtchgmbbcfjfhoaaDoor
