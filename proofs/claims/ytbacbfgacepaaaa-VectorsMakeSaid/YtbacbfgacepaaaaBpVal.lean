/-
  A bridges' message as the program has it.
-/
import Derived.Test.YtbacbfgacepaaaaKit10
import Derived.Test.YtbacbfgacepaaaaBpPlain
namespace Go.Proofs.Ytbacbfgacepaaaa
open Go.RowKit Go.Sort

/-- a message as the program has it -/
def Bp.val (b : Bp) : Value := .agg #[.int .i64 b.kind, .bool b.change, .bool b.propose, .bool b.learn, .bool b.forward, .bool b.agree, .bool b.ack, .int .i64 b.role, .int .u64 (b.root : Int), .int .i64 b.cost, .int .u64 (b.bridge : Int), .int .i64 b.port, .int .i64 b.age, .int .i64 b.maxAge, .int .i64 b.hello, .int .i64 b.delay]
/-- a message's numbers are of their types -/
def Bp.fits (b : Bp) : Prop := b.root < 18446744073709551616 ∧ b.bridge < 18446744073709551616
theorem fields_bp : Try.prog.underlying 31 = some (.struct (Try.prog.fieldsOf 31)) := by kernel_rfl
theorem held_bp : Try.prog.stoodInHeld 31 = false := by kernel_rfl
end Go.Proofs.Ytbacbfgacepaaaa
