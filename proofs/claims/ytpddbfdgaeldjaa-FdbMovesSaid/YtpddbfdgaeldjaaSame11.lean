/-
  Two targets, compared: the same, or another one.
-/
import Derived.Test.YtpddbfdgaeldjaaFixed11
namespace Go.Proofs.Ytpddbfdgaeldjaa
open Go.RowKit Go.Sort

theorem neq_target (a c : Int) (b d : Int) (W : World) : (binOp .neq 42 (.agg #[.int .i64 a, .int .u32 b]) (.agg #[.int .i64 c, .int .u32 d])).run Try.prog W = .ok (.bool (!(a == c && b == d))) W := by
  rw [run_neq_struct, run_equalIn_agg _ _ _ _ _ fieldsTarget heldTarget]
  by_cases h1 : a = c
  · by_cases h2 : b = d
    · subst h1 h2
      simp [go_sem, Try.underlying42]
    · subst h1
      simp [go_sem, Try.underlying42, h2]
  · simp [go_sem, Try.underlying42, h1]
/-- a port, against a port, given whether they are one -/
theorem eql_port (b d : Int) (q : Bool) (h : (b == d) = q) (W : World) : (binOp .eql 42 (.agg #[.int .i64 0, .int .u32 b]) (.agg #[.int .i64 0, .int .u32 d])).run Try.prog W = .ok (.bool q) W := by
  rw [eql_target, h]; rfl
theorem neq_port (b d : Int) (q : Bool) (h : (b == d) = !q) (W : World) : (binOp .neq 42 (.agg #[.int .i64 0, .int .u32 b]) (.agg #[.int .i64 0, .int .u32 d])).run Try.prog W = .ok (.bool q) W := by
  rw [neq_target, h]; cases q <;> rfl
end Go.Proofs.Ytpddbfdgaeldjaa
