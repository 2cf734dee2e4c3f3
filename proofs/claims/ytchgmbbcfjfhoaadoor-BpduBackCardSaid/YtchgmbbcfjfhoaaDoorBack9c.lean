/-
  Proved: what is built is parsed as it was, whatever stands behind; what is parsed may be, and is parsed again, as it is, and the arguments read afterwards as before. Conditions: errors.errorType holds what the program's own text lays (tied by the card; the walk asks nothing of it).
-/
import Derived.Test.YtchgmbbcfjfhoaaDoorRow9
import Derived.Test.YtchgmbbcfjfhoaaDoorFixed9
import Derived.Test.YtchgmbbcfjfhoaaDoorLoad9
namespace Go.Proofs.YtchgmbbcfjfhoaaDoor.bpduBack
open Go.ChangeShapes Go.WideShapes Go.ChangeAt Go.RowKit Go.Sort
open Go.ChangeMaps (open_string shut_string)

set_option maxRecDepth 100000 in
set_option maxHeartbeats 4000000 in
theorem walk_11 (k : Int) (c p l f a x : Bool) (r R C B P A M H D : Int) (k2 : Int) (c2 p2 l2 f2 a2 x2 : Bool) (r2 R2 C2 B2 P2 A2 M2 H2 D2 : Int) (S0 S : ByteArray) (i : Nat) (T X U : ByteArray) (w : World)
    (ms : ∀ (ts : Array TypeId) (t : TypeId) (W : World), (Builtin.min_ ts t #[.int .i64 (S0.size : Int), .int .i64 200]).run Tryd.prog W = .ok (.int .i64 (i : Int)) W)
    (ss : ∀ W : World, (Instr.slice 9 (.string S0) none (some (.int .i64 (i : Int))) none).run Tryd.prog W = .ok (.string S) W)
    (CB : Hid (∀ W, Calls Tryd.prog 9 #[.agg #[.int .i64 k, .bool c, .bool p, .bool l, .bool f, .bool a, .bool x, .int .i64 r, .int .u64 R, .int .i64 C, .int .u64 B, .int .i64 P, .int .i64 A, .int .i64 M, .int .i64 H, .int .i64 D]] W fun e W' => e = .returned (.tuple #[.string T, .int .i64 0]) ∧ Below W.heap.size W W'))
    (g : ∀ W, (Op.stringOp .add T S).run Tryd.prog W = .ok (.string X) W)
    (CP : Hid (∀ W, Calls Tryd.prog 14 #[.string X] W fun e W' => e = .returned (.tuple #[.agg #[.int .i64 k, .bool c, .bool p, .bool l, .bool f, .bool a, .bool x, .int .i64 r, .int .u64 R, .int .i64 C, .int .u64 B, .int .i64 P, .int .i64 A, .int .i64 M, .int .i64 H, .int .i64 D], .int .i64 0]) ∧ Below W.heap.size W W'))
    (CQ : Hid (∀ W, Calls Tryd.prog 14 #[.string S] W fun e W' => e = .returned (.tuple #[.agg #[.int .i64 k2, .bool c2, .bool p2, .bool l2, .bool f2, .bool a2, .bool x2, .int .i64 r2, .int .u64 R2, .int .i64 C2, .int .u64 B2, .int .i64 P2, .int .i64 A2, .int .i64 M2, .int .i64 H2, .int .i64 D2], .int .i64 0]) ∧ Below W.heap.size W W'))
    (C4 : Hid (∀ W, Calls Tryd.prog 9 #[.agg #[.int .i64 k2, .bool c2, .bool p2, .bool l2, .bool f2, .bool a2, .bool x2, .int .i64 r2, .int .u64 R2, .int .i64 C2, .int .u64 B2, .int .i64 P2, .int .i64 A2, .int .i64 M2, .int .i64 H2, .int .i64 D2]] W fun e W' => e = .returned (.tuple #[.string U, .int .i64 0]) ∧ Below W.heap.size W W'))
    (C5 : Hid (∀ W, Calls Tryd.prog 14 #[.string U] W fun e W' => e = .returned (.tuple #[.agg #[.int .i64 k2, .bool c2, .bool p2, .bool l2, .bool f2, .bool a2, .bool x2, .int .i64 r2, .int .u64 R2, .int .i64 C2, .int .u64 B2, .int .i64 P2, .int .i64 A2, .int .i64 M2, .int .i64 H2, .int .i64 D2], .int .i64 0]) ∧ Below W.heap.size W W'))
    (C6 : Hid (∀ W, Calls Tryd.prog 12 #[.agg #[.int .i64 k2, .bool c2, .bool p2, .bool l2, .bool f2, .bool a2, .bool x2, .int .i64 r2, .int .u64 R2, .int .i64 C2, .int .u64 B2, .int .i64 P2, .int .i64 A2, .int .i64 M2, .int .i64 H2, .int .i64 D2]] W fun e W' => e = .returned (.int .i64 0) ∧ Below W.heap.size W W'))
    (hU : (U.size : Int) ≤ (S.size : Int))
    (CF : Hid (∀ W, Calls Tryd.prog 11 #[] W fun e W' => e = .returned (.bool true) ∧ Below W.heap.size W W')) :
    Calls Tryd.prog 6 #[.agg #[.int .i64 k, .bool c, .bool p, .bool l, .bool f, .bool a, .bool x, .int .i64 r, .int .u64 R, .int .i64 C, .int .u64 B, .int .i64 P, .int .i64 A, .int .i64 M, .int .i64 H, .int .i64 D], .string S0] w fun e w' => e = .returned (.bool true) ∧ Below w.heap.size w w' := by
  have sm := same_bp k2 c2 p2 l2 f2 a2 x2 r2 R2 C2 B2 P2 A2 M2 H2 D2
  have om := other_bp k c p l f a x r R C B P A M H D
  go_enter Tryd.func6, Tryd.ntmps6
  go_wp2_with fail
  refine (unhide CB _).mono ?_
  rintro e w1 ⟨rfl, b1⟩
  clear CB
  have h1 := hide (bthen (alloc_below w _) b1)
  have R1 := hide (Below.row b1 (heap_alloc_new w _))
  clear b1
  go_wp2_with fail
  refine (unhide CP _).mono ?_
  rintro e w2 ⟨rfl, b2⟩
  clear CP
  have h2 := hide (alloc_then (o := .cells #[.int .i64 k, .bool c, .bool p, .bool l, .bool f, .bool a, .bool x, .int .i64 r, .int .u64 R, .int .i64 C, .int .u64 B, .int .i64 P, .int .i64 A, .int .i64 M, .int .i64 H, .int .i64 D] 24) (bthen (unhide h1) b2))
  have R2 := hide (Below.row (alloc_below w2 (.cells #[.int .i64 k, .bool c, .bool p, .bool l, .bool f, .bool a, .bool x, .int .i64 r, .int .u64 R, .int .i64 C, .int .u64 B, .int .i64 P, .int .i64 A, .int .i64 M, .int .i64 H, .int .i64 D] 24)) (Below.row b2 (unhide R1)))
  have Q2 := hide (heap_alloc_new w2 (.cells #[.int .i64 k, .bool c, .bool p, .bool l, .bool f, .bool a, .bool x, .int .i64 r, .int .u64 R, .int .i64 C, .int .u64 B, .int .i64 P, .int .i64 A, .int .i64 M, .int .i64 H, .int .i64 D] 24))
  clear b2 h1 R1
  go_wp2_with (first | (refine load_want 24 _ rfl w.heap.size rfl rfl 24 _ _ _ (unhide R2) Tryd.underlying24 rfl (by kernel_rfl) ?_; simp only [Act.put, List.setIfInBounds_toArray, List.set_cons_zero, List.set_cons_succ]) | (refine load_want 24 _ rfl w2.heap.size rfl rfl 24 _ _ _ (unhide Q2) Tryd.underlying24 rfl (by kernel_rfl) ?_; simp only [Act.put, List.setIfInBounds_toArray, List.set_cons_zero, List.set_cons_succ]))
  clear R2 Q2
  generalize w2.alloc (.cells #[.int .i64 k, .bool c, .bool p, .bool l, .bool f, .bool a, .bool x, .int .i64 r, .int .u64 R, .int .i64 C, .int .u64 B, .int .i64 P, .int .i64 A, .int .i64 M, .int .i64 H, .int .i64 D] 24) = v2 at *
  refine (unhide CQ _).mono ?_
  rintro e w3 ⟨rfl, b3⟩
  clear CQ
  have h3 := hide (alloc_then (o := .cells #[.int .i64 k2, .bool c2, .bool p2, .bool l2, .bool f2, .bool a2, .bool x2, .int .i64 r2, .int .u64 R2, .int .i64 C2, .int .u64 B2, .int .i64 P2, .int .i64 A2, .int .i64 M2, .int .i64 H2, .int .i64 D2] 24) (bthen (unhide h2) b3))
  have R3 := hide (heap_alloc_new w3 (.cells #[.int .i64 k2, .bool c2, .bool p2, .bool l2, .bool f2, .bool a2, .bool x2, .int .i64 r2, .int .u64 R2, .int .i64 C2, .int .u64 B2, .int .i64 P2, .int .i64 A2, .int .i64 M2, .int .i64 H2, .int .i64 D2] 24))
  clear b3 h2
  go_wp2_with (first | (refine load_want 24 _ rfl w3.heap.size rfl rfl 24 _ _ _ (unhide R3) Tryd.underlying24 rfl (by kernel_rfl) ?_; simp only [Act.put, List.setIfInBounds_toArray, List.set_cons_zero, List.set_cons_succ]))
  generalize w3.alloc (.cells #[.int .i64 k2, .bool c2, .bool p2, .bool l2, .bool f2, .bool a2, .bool x2, .int .i64 r2, .int .u64 R2, .int .i64 C2, .int .u64 B2, .int .i64 P2, .int .i64 A2, .int .i64 M2, .int .i64 H2, .int .i64 D2] 24) = v3 at *
  generalize w3.heap.size = G3 at *
  refine (unhide C4 _).mono ?_
  rintro e w4 ⟨rfl, b4⟩
  clear C4
  have h4 := hide (bthen (unhide h3) b4)
  have R4 := hide (Below.row b4 (unhide R3))
  clear b4 h3 R3
  go_wp2_with fail
  refine (unhide C5 _).mono ?_
  rintro e w5 ⟨rfl, b5⟩
  clear C5
  have h5 := hide (alloc_then (o := .cells #[.int .i64 k2, .bool c2, .bool p2, .bool l2, .bool f2, .bool a2, .bool x2, .int .i64 r2, .int .u64 R2, .int .i64 C2, .int .u64 B2, .int .i64 P2, .int .i64 A2, .int .i64 M2, .int .i64 H2, .int .i64 D2] 24) (bthen (unhide h4) b5))
  have R5 := hide (Below.row (alloc_below w5 (.cells #[.int .i64 k2, .bool c2, .bool p2, .bool l2, .bool f2, .bool a2, .bool x2, .int .i64 r2, .int .u64 R2, .int .i64 C2, .int .u64 B2, .int .i64 P2, .int .i64 A2, .int .i64 M2, .int .i64 H2, .int .i64 D2] 24)) (Below.row b5 (unhide R4)))
  have Q5 := hide (heap_alloc_new w5 (.cells #[.int .i64 k2, .bool c2, .bool p2, .bool l2, .bool f2, .bool a2, .bool x2, .int .i64 r2, .int .u64 R2, .int .i64 C2, .int .u64 B2, .int .i64 P2, .int .i64 A2, .int .i64 M2, .int .i64 H2, .int .i64 D2] 24))
  clear b5 h4 R4
  go_wp2_with (first | (refine load_want 24 _ rfl G3 rfl rfl 24 _ _ _ (unhide R5) Tryd.underlying24 rfl (by kernel_rfl) ?_; simp only [Act.put, List.setIfInBounds_toArray, List.set_cons_zero, List.set_cons_succ]))
  generalize w5.alloc (.cells #[.int .i64 k2, .bool c2, .bool p2, .bool l2, .bool f2, .bool a2, .bool x2, .int .i64 r2, .int .u64 R2, .int .i64 C2, .int .u64 B2, .int .i64 P2, .int .i64 A2, .int .i64 M2, .int .i64 H2, .int .i64 D2] 24) = v5 at *
  generalize w5.heap.size = G5 at *
  refine (unhide C6 _).mono ?_
  rintro e w6 ⟨rfl, b6⟩
  clear C6
  have h6 := hide (bthen (unhide h5) b6)
  have R6 := hide (Below.row b6 (unhide R5))
  have Q6 := hide (Below.row b6 (unhide Q5))
  clear b6 h5 R5 Q5
  go_wp2_with (first | (refine load_want 24 _ rfl G3 rfl rfl 24 _ _ _ (unhide R6) Tryd.underlying24 rfl (by kernel_rfl) ?_; simp only [Act.put, List.setIfInBounds_toArray, List.set_cons_zero, List.set_cons_succ]) | (refine load_want 24 _ rfl G5 rfl rfl 24 _ _ _ (unhide Q6) Tryd.underlying24 rfl (by kernel_rfl) ?_; simp only [Act.put, List.setIfInBounds_toArray, List.set_cons_zero, List.set_cons_succ]))
  refine (unhide CF _).mono ?_
  rintro e w7 ⟨rfl, b7⟩
  clear CF
  have h7 := hide (bthen (unhide h6) b7)
  clear b7
  go_wp2_with fail
  go_ret
  exact ⟨rfl, unhide h7⟩
end Go.Proofs.YtchgmbbcfjfhoaaDoor.bpduBack
