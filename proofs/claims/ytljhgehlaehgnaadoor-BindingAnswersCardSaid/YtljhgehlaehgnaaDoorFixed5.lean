/-
  A message is the same as itself; gangwaylaw05.fixed: calls whose answers the document fixes: true, always.
-/
import Derived.Test.YtljhgehlaehgnaaDoorArp5
namespace Go.Proofs.YtljhgehlaehgnaaDoor
open Go.RowKit Go.Sort

theorem fields_arp : Tryd.prog.underlying 37 = some (.struct (Tryd.prog.fieldsOf 37)) := by kernel_rfl
theorem held_arp : Tryd.prog.stoodInHeld 37 = false := by kernel_rfl
theorem same_arp (op s i t j : Int) (W : World) : (binOp .eql 37 (.agg #[.int .i64 op, .int .u64 s, .int .u32 i, .int .u64 t, .int .u32 j]) (.agg #[.int .i64 op, .int .u64 s, .int .u32 i, .int .u64 t, .int .u32 j])).run Tryd.prog W = .ok (.bool true) W := by
  rw [run_eql_struct, run_equalIn_agg _ _ _ _ _ fields_arp held_arp]
  simp [go_sem, Tryd.underlying37]
theorem other_arp (op s i t j : Int) (W : World) : (binOp .neq 37 (.agg #[.int .i64 op, .int .u64 s, .int .u32 i, .int .u64 t, .int .u32 j]) (.agg #[.int .i64 op, .int .u64 s, .int .u32 i, .int .u64 t, .int .u32 j])).run Tryd.prog W = .ok (.bool false) W := by
  rw [run_neq_struct, run_equalIn_agg _ _ _ _ _ fields_arp held_arp]
  simp [go_sem, Tryd.underlying37]
/-- a frame with a message in it has just that message -/
theorem of_arpFr (d : Nat) (a : Ar) (h : a.check = 0) (h3 : a.sip < 4294967296) (h5 : a.tip < 4294967296) : ofFr (arpFr d a) = (a, true) := by
  have e := arp_back a [] h h3 h5
  rw [List.append_nil] at e
  unfold ofFr arpFr
  simp only
  rw [if_pos trivial, e]
  rfl
theorem arpFr_len (d : Nat) (a : Ar) : (arpFr d a).body.length = 28 := Ar.bytes_length a
end Go.Proofs.YtljhgehlaehgnaaDoor
