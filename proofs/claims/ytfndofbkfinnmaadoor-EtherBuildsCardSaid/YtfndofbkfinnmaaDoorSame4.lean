/-
  A frame is the same as itself: what the program's == and != say.
-/
import Derived.Test.YtfndofbkfinnmaaDoorEther9
namespace Go.Proofs.YtfndofbkfinnmaaDoor
open Go.RowKit

theorem fields_frame : Tryd.prog.underlying 26 = some (.struct (Tryd.prog.fieldsOf 26)) := by kernel_rfl
theorem held_frame : Tryd.prog.stoodInHeld 26 = false := by kernel_rfl
theorem same_frame (d s : Int) (has : Bool) (pri : Int) (dei : Bool) (vid ty : Int) (b : ByteArray) (W : World) :
    (binOp .eql 26 (.agg #[.int .u64 d, .int .u64 s, .bool has, .int .i64 pri, .bool dei, .int .i64 vid, .int .i64 ty, .string b]) (.agg #[.int .u64 d, .int .u64 s, .bool has, .int .i64 pri, .bool dei, .int .i64 vid, .int .i64 ty, .string b])).run Tryd.prog W = .ok (.bool true) W := by
  rw [run_eql_struct, run_equalIn_agg _ _ _ _ _ fields_frame held_frame]
  simp [go_sem, Tryd.underlying26]
theorem other_frame (d s : Int) (has : Bool) (pri : Int) (dei : Bool) (vid ty : Int) (b : ByteArray) (W : World) :
    (binOp .neq 26 (.agg #[.int .u64 d, .int .u64 s, .bool has, .int .i64 pri, .bool dei, .int .i64 vid, .int .i64 ty, .string b]) (.agg #[.int .u64 d, .int .u64 s, .bool has, .int .i64 pri, .bool dei, .int .i64 vid, .int .i64 ty, .string b])).run Tryd.prog W = .ok (.bool false) W := by
  rw [run_neq_struct, run_equalIn_agg _ _ _ _ _ fields_frame held_frame]
  simp [go_sem, Tryd.underlying26]
/-- a frame's bytes, if it may be -/
def Fr.built (f : Fr) : List UInt8 := if f.check = 0 then f.bytes else []
theorem Fr.built_ok {f : Fr} (h : f.check = 0) : f.built = f.bytes := if_pos h
theorem Fr.built_no {f : Fr} (h : f.check ≠ 0) : f.built = [] := if_neg h
theorem build_any (f : Fr) (w : World) (hg : Et w) (hl : f.body.length ≤ 10000) :
    Calls Tryd.prog 8 #[f.val] w fun e w' => e = .returned (.tuple #[.string (bs f.built), .int .i64 f.check]) ∧ Below w.heap.size w w' := by
  obtain ⟨d, s, has, pri, dei, vid, ty, l⟩ := f
  by_cases h : (Fr.mk d s has pri dei vid ty l).check = 0
  · rw [Fr.built_ok h, h]; exact build_ok d s has pri dei vid ty l w h
  · rw [Fr.built_no h]; exact build_bad d s has pri dei vid ty l w hg hl h
end Go.Proofs.YtfndofbkfinnmaaDoor
