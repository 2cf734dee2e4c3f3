/-
  Proved: a message that goes in a frame is in it, built and parsed; with a tag it is none, and the arguments read afterwards as before. Conditions: errors.errorType holds what the program's own text lays (tied by the card; the walk asks nothing of it).
-/
import Derived.Test.YtchgmbbcfjfhoaaDoorRow9
import Derived.Test.YtchgmbbcfjfhoaaDoorFixed9
import Derived.Test.YtchgmbbcfjfhoaaDoorLoad9
import Derived.Test.YtchgmbbcfjfhoaaDoorEth9
import Derived.Test.YtchgmbbcfjfhoaaDoorEth9b
import Derived.Test.YtchgmbbcfjfhoaaDoorSame9
namespace Go.Proofs.YtchgmbbcfjfhoaaDoor.bpduGoes
open Go.ChangeShapes Go.WideShapes Go.ChangeAt Go.RowKit Go.Sort
open Go.ChangeMaps (open_string shut_string)

set_option maxRecDepth 100000 in
set_option maxHeartbeats 4000000 in
theorem walk_good (s z : Int) (k : Int) (c p l f a x : Bool) (r R C B P A M H D : Int) (d V : Int) (X S : ByteArray) (w : World)
    (hV : bits BinOp.and IntKind.i64 z 4095 = V)
    (CFR : Hid (∀ W, Calls Tryd.prog 16 #[.int .u64 s, .agg #[.int .i64 k, .bool c, .bool p, .bool l, .bool f, .bool a, .bool x, .int .i64 r, .int .u64 R, .int .i64 C, .int .u64 B, .int .i64 P, .int .i64 A, .int .i64 M, .int .i64 H, .int .i64 D]] W fun e W' => e = .returned (.tuple #[.agg #[.int .u64 d, .int .u64 s, .bool false, .int .i64 0, .bool false, .int .i64 0, .int .i64 0, .string X], .int .i64 0]) ∧ Below W.heap.size W W'))
    (CB : Hid (∀ W, Calls Tryd.prog 21 #[.agg #[.int .u64 d, .int .u64 s, .bool false, .int .i64 0, .bool false, .int .i64 0, .int .i64 0, .string X]] W fun e W' => e = .returned (.tuple #[.string S, .int .i64 0]) ∧ Below W.heap.size W W'))
    (CP : Hid (∀ W, Calls Tryd.prog 22 #[.string S] W fun e W' => e = .returned (.tuple #[.agg #[.int .u64 d, .int .u64 s, .bool false, .int .i64 0, .bool false, .int .i64 0, .int .i64 0, .string X], .int .i64 0]) ∧ Below W.heap.size W W'))
    (CO : Hid (∀ W, Calls Tryd.prog 18 #[.agg #[.int .u64 d, .int .u64 s, .bool false, .int .i64 0, .bool false, .int .i64 0, .int .i64 0, .string X]] W fun e W' => e = .returned (.tuple #[.agg #[.int .i64 k, .bool c, .bool p, .bool l, .bool f, .bool a, .bool x, .int .i64 r, .int .u64 R, .int .i64 C, .int .u64 B, .int .i64 P, .int .i64 A, .int .i64 M, .int .i64 H, .int .i64 D], .bool true]) ∧ Below W.heap.size W W'))
    (CT : Hid (∀ W, Calls Tryd.prog 23 #[.agg #[.int .u64 d, .int .u64 s, .bool false, .int .i64 0, .bool false, .int .i64 0, .int .i64 0, .string X], .agg #[.bool true, .int .i64 0, .bool false, .int .i64 V]] W fun e W' => e = .returned (.agg #[.int .u64 d, .int .u64 s, .bool true, .int .i64 0, .bool false, .int .i64 V, .int .i64 0, .string X]) ∧ Below W.heap.size W W'))
    (CQ : Hid (∀ W, Calls Tryd.prog 18 #[.agg #[.int .u64 d, .int .u64 s, .bool true, .int .i64 0, .bool false, .int .i64 V, .int .i64 0, .string X]] W fun e W' => e = .returned (.tuple #[.agg #[.int .i64 0, .bool false, .bool false, .bool false, .bool false, .bool false, .bool false, .int .i64 0, .int .u64 0, .int .i64 0, .int .u64 0, .int .i64 0, .int .i64 0, .int .i64 0, .int .i64 0, .int .i64 0], .bool false]) ∧ Below W.heap.size W W'))
    (CF : Hid (∀ W, Calls Tryd.prog 11 #[] W fun e W' => e = .returned (.bool true) ∧ Below W.heap.size W W')) :
    Calls Tryd.prog 7 #[.int .u64 s, .agg #[.int .i64 k, .bool c, .bool p, .bool l, .bool f, .bool a, .bool x, .int .i64 r, .int .u64 R, .int .i64 C, .int .u64 B, .int .i64 P, .int .i64 A, .int .i64 M, .int .i64 H, .int .i64 D], .int .i64 z] w fun e w' => e = .returned (.bool true) ∧ Below w.heap.size w w' := by
  have sm := same_bp k c p l f a x r R C B P A M H D
  have sf := same_frame d s false 0 false 0 0 X
  go_enter Tryd.func7, Tryd.ntmps7
  have M0 := hide (heap_alloc_new w (.cells #[.int .i64 k, .bool c, .bool p, .bool l, .bool f, .bool a, .bool x, .int .i64 r, .int .u64 R, .int .i64 C, .int .u64 B, .int .i64 P, .int .i64 A, .int .i64 M, .int .i64 H, .int .i64 D] 24))
  go_wp2_with (first | (refine load_want 24 _ rfl w.heap.size rfl rfl 24 _ _ _ (unhide M0) Tryd.underlying24 rfl (by kernel_rfl) ?_; simp only [Act.put, List.setIfInBounds_toArray, List.set_cons_zero, List.set_cons_succ]))
  refine (unhide CFR _).mono ?_
  rintro e w1 ⟨rfl, b1⟩
  clear CFR
  have h1 := hide (alloc_then (o := .cells #[.int .u64 d, .int .u64 s, .bool false, .int .i64 0, .bool false, .int .i64 0, .int .i64 0, .string X] 37) (bthen (alloc_below w _) b1))
  have M1 := hide (Below.row (alloc_below w1 (.cells #[.int .u64 d, .int .u64 s, .bool false, .int .i64 0, .bool false, .int .i64 0, .int .i64 0, .string X] 37)) (Below.row b1 (unhide M0)))
  have T1 := hide (heap_alloc_new w1 (.cells #[.int .u64 d, .int .u64 s, .bool false, .int .i64 0, .bool false, .int .i64 0, .int .i64 0, .string X] 37))
  clear b1 M0
  go_wp2_with (first | (refine load_want 37 _ rfl w1.heap.size rfl rfl 37 _ _ _ (unhide T1) Tryd.underlying37 rfl (by kernel_rfl) ?_; simp only [Act.put, List.setIfInBounds_toArray, List.set_cons_zero, List.set_cons_succ]))
  generalize w1.alloc (.cells #[.int .u64 d, .int .u64 s, .bool false, .int .i64 0, .bool false, .int .i64 0, .int .i64 0, .string X] 37) = v1 at *
  generalize w1.heap.size = N1 at *
  refine (unhide CB _).mono ?_
  rintro e w2 ⟨rfl, b2⟩
  clear CB
  have h2 := hide (bthen (unhide h1) b2)
  have M2 := hide (Below.row b2 (unhide M1))
  have T2 := hide (Below.row b2 (unhide T1))
  clear b2 h1 M1 T1
  go_wp2_with fail
  refine (unhide CP _).mono ?_
  rintro e w3 ⟨rfl, b3⟩
  clear CP
  have h3 := hide (alloc_then (o := .cells #[.int .u64 d, .int .u64 s, .bool false, .int .i64 0, .bool false, .int .i64 0, .int .i64 0, .string X] 37) (bthen (unhide h2) b3))
  have M3 := hide (Below.row (alloc_below w3 (.cells #[.int .u64 d, .int .u64 s, .bool false, .int .i64 0, .bool false, .int .i64 0, .int .i64 0, .string X] 37)) (Below.row b3 (unhide M2)))
  have T3 := hide (Below.row (alloc_below w3 (.cells #[.int .u64 d, .int .u64 s, .bool false, .int .i64 0, .bool false, .int .i64 0, .int .i64 0, .string X] 37)) (Below.row b3 (unhide T2)))
  have U3 := hide (heap_alloc_new w3 (.cells #[.int .u64 d, .int .u64 s, .bool false, .int .i64 0, .bool false, .int .i64 0, .int .i64 0, .string X] 37))
  clear b3 h2 M2 T2
  go_wp2_with (first | (refine load_want 37 _ rfl w3.heap.size rfl rfl 37 _ _ _ (unhide U3) Tryd.underlying37 rfl (by kernel_rfl) ?_; simp only [Act.put, List.setIfInBounds_toArray, List.set_cons_zero, List.set_cons_succ]))
  generalize w3.alloc (.cells #[.int .u64 d, .int .u64 s, .bool false, .int .i64 0, .bool false, .int .i64 0, .int .i64 0, .string X] 37) = v3 at *
  generalize w3.heap.size = N3 at *
  refine (unhide CO _).mono ?_
  rintro e w4 ⟨rfl, b4⟩
  clear CO
  have h4 := hide (alloc_then (o := .cells #[.int .i64 k, .bool c, .bool p, .bool l, .bool f, .bool a, .bool x, .int .i64 r, .int .u64 R, .int .i64 C, .int .u64 B, .int .i64 P, .int .i64 A, .int .i64 M, .int .i64 H, .int .i64 D] 24) (bthen (unhide h3) b4))
  have M4 := hide (Below.row (alloc_below w4 (.cells #[.int .i64 k, .bool c, .bool p, .bool l, .bool f, .bool a, .bool x, .int .i64 r, .int .u64 R, .int .i64 C, .int .u64 B, .int .i64 P, .int .i64 A, .int .i64 M, .int .i64 H, .int .i64 D] 24)) (Below.row b4 (unhide M3)))
  have T4 := hide (Below.row (alloc_below w4 (.cells #[.int .i64 k, .bool c, .bool p, .bool l, .bool f, .bool a, .bool x, .int .i64 r, .int .u64 R, .int .i64 C, .int .u64 B, .int .i64 P, .int .i64 A, .int .i64 M, .int .i64 H, .int .i64 D] 24)) (Below.row b4 (unhide T3)))
  have U4 := hide (Below.row (alloc_below w4 (.cells #[.int .i64 k, .bool c, .bool p, .bool l, .bool f, .bool a, .bool x, .int .i64 r, .int .u64 R, .int .i64 C, .int .u64 B, .int .i64 P, .int .i64 A, .int .i64 M, .int .i64 H, .int .i64 D] 24)) (Below.row b4 (unhide U3)))
  have S4 := hide (heap_alloc_new w4 (.cells #[.int .i64 k, .bool c, .bool p, .bool l, .bool f, .bool a, .bool x, .int .i64 r, .int .u64 R, .int .i64 C, .int .u64 B, .int .i64 P, .int .i64 A, .int .i64 M, .int .i64 H, .int .i64 D] 24))
  clear b4 h3 M3 T3 U3
  go_wp2_with (first | (refine load_want 37 _ rfl N1 rfl rfl 37 _ _ _ (unhide T4) Tryd.underlying37 rfl (by kernel_rfl) ?_; simp only [Act.put, List.setIfInBounds_toArray, List.set_cons_zero, List.set_cons_succ]))
  generalize w4.alloc (.cells #[.int .i64 k, .bool c, .bool p, .bool l, .bool f, .bool a, .bool x, .int .i64 r, .int .u64 R, .int .i64 C, .int .u64 B, .int .i64 P, .int .i64 A, .int .i64 M, .int .i64 H, .int .i64 D] 24) = v4 at *
  generalize w4.heap.size = N4 at *
  refine (unhide CT _).mono ?_
  rintro e w5 ⟨rfl, b5⟩
  clear CT
  have h5 := hide (bthen (unhide h4) b5)
  have M5 := hide (Below.row b5 (unhide M4))
  have T5 := hide (Below.row b5 (unhide T4))
  have U5 := hide (Below.row b5 (unhide U4))
  have S5 := hide (Below.row b5 (unhide S4))
  clear b5 h4 M4 T4 U4 S4
  go_wp2_with fail
  refine (unhide CQ _).mono ?_
  rintro e w6 ⟨rfl, b6⟩
  clear CQ
  have h6 := hide (alloc_then (o := .cells #[.int .i64 0, .bool false, .bool false, .bool false, .bool false, .bool false, .bool false, .int .i64 0, .int .u64 0, .int .i64 0, .int .u64 0, .int .i64 0, .int .i64 0, .int .i64 0, .int .i64 0, .int .i64 0] 24) (bthen (unhide h5) b6))
  have M6 := hide (Below.row (alloc_below w6 (.cells #[.int .i64 0, .bool false, .bool false, .bool false, .bool false, .bool false, .bool false, .int .i64 0, .int .u64 0, .int .i64 0, .int .u64 0, .int .i64 0, .int .i64 0, .int .i64 0, .int .i64 0, .int .i64 0] 24)) (Below.row b6 (unhide M5)))
  have T6 := hide (Below.row (alloc_below w6 (.cells #[.int .i64 0, .bool false, .bool false, .bool false, .bool false, .bool false, .bool false, .int .i64 0, .int .u64 0, .int .i64 0, .int .u64 0, .int .i64 0, .int .i64 0, .int .i64 0, .int .i64 0, .int .i64 0] 24)) (Below.row b6 (unhide T5)))
  have U6 := hide (Below.row (alloc_below w6 (.cells #[.int .i64 0, .bool false, .bool false, .bool false, .bool false, .bool false, .bool false, .int .i64 0, .int .u64 0, .int .i64 0, .int .u64 0, .int .i64 0, .int .i64 0, .int .i64 0, .int .i64 0, .int .i64 0] 24)) (Below.row b6 (unhide U5)))
  have S6 := hide (Below.row (alloc_below w6 (.cells #[.int .i64 0, .bool false, .bool false, .bool false, .bool false, .bool false, .bool false, .int .i64 0, .int .u64 0, .int .i64 0, .int .u64 0, .int .i64 0, .int .i64 0, .int .i64 0, .int .i64 0, .int .i64 0] 24)) (Below.row b6 (unhide S5)))
  clear b6 h5 M5 T5 U5 S5
  go_wp2_with (first | (refine load_want 37 _ rfl N3 rfl rfl 37 _ _ _ (unhide U6) Tryd.underlying37 rfl (by kernel_rfl) ?_; simp only [Act.put, List.setIfInBounds_toArray, List.set_cons_zero, List.set_cons_succ]) | (refine load_want 37 _ rfl N1 rfl rfl 37 _ _ _ (unhide T6) Tryd.underlying37 rfl (by kernel_rfl) ?_; simp only [Act.put, List.setIfInBounds_toArray, List.set_cons_zero, List.set_cons_succ]) | (refine load_want 24 _ rfl N4 rfl rfl 24 _ _ _ (unhide S6) Tryd.underlying24 rfl (by kernel_rfl) ?_; simp only [Act.put, List.setIfInBounds_toArray, List.set_cons_zero, List.set_cons_succ]) | (refine load_want 24 _ rfl w.heap.size rfl rfl 24 _ _ _ (unhide M6) Tryd.underlying24 rfl (by kernel_rfl) ?_; simp only [Act.put, List.setIfInBounds_toArray, List.set_cons_zero, List.set_cons_succ]))
  refine (unhide CF _).mono ?_
  rintro e w7 ⟨rfl, b7⟩
  clear CF
  have h7 := hide (bthen (unhide h6) b7)
  clear b7
  go_wp2_with fail
  go_ret
  exact ⟨rfl, unhide h7⟩
end Go.Proofs.YtchgmbbcfjfhoaaDoor.bpduGoes
