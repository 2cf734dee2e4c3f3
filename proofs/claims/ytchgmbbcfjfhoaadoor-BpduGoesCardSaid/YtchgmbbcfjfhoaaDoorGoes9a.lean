/-
  Proved: a message that goes in a frame is in it, built and parsed; with a tag it is none, and the arguments read afterwards as before. Conditions: errors.errorType holds what the program's own text lays (tied by the card; the walk asks nothing of it).
-/
import Derived.Test.YtchgmbbcfjfhoaaDoorRow9
import Derived.Test.YtchgmbbcfjfhoaaDoorFixed9
import Derived.Test.YtchgmbbcfjfhoaaDoorLoad9
import Derived.Test.YtchgmbbcfjfhoaaDoorEth9
import Derived.Test.YtchgmbbcfjfhoaaDoorEth9b
import Derived.Test.YtchgmbbcfjfhoaaDoorSame9
import Derived.Test.YtchgmbbcfjfhoaaDoorRefOwn5
namespace Go.Proofs.YtchgmbbcfjfhoaaDoor.bpduGoes
open Go.ChangeShapes Go.WideShapes Go.ChangeAt Go.RowKit Go.Sort
open Go.ChangeMaps (open_string shut_string)

set_option maxRecDepth 100000 in
set_option maxHeartbeats 4000000 in
theorem walk_b1 (s z : Int) (k : Int) (c p l f a x : Bool) (r R C B P A M H D : Int) (E K : Int) (w : World)
    (hE : (E != 0) = true)
    (hK : (K != 0) = true)
    (CFR : Hid (∀ W, Calls Tryd.prog 16 #[.int .u64 s, .agg #[.int .i64 k, .bool c, .bool p, .bool l, .bool f, .bool a, .bool x, .int .i64 r, .int .u64 R, .int .i64 C, .int .u64 B, .int .i64 P, .int .i64 A, .int .i64 M, .int .i64 H, .int .i64 D]] W fun e W' => e = .returned (.tuple #[.agg #[.int .u64 0, .int .u64 0, .bool false, .int .i64 0, .bool false, .int .i64 0, .int .i64 0, .string ⟨#[]⟩], .int .i64 E]) ∧ Below W.heap.size W W'))
    (CC : Hid (∀ W, Calls Tryd.prog 12 #[.agg #[.int .i64 k, .bool c, .bool p, .bool l, .bool f, .bool a, .bool x, .int .i64 r, .int .u64 R, .int .i64 C, .int .u64 B, .int .i64 P, .int .i64 A, .int .i64 M, .int .i64 H, .int .i64 D]] W fun e W' => e = .returned (.int .i64 K) ∧ Below W.heap.size W W'))
    (CF : Hid (∀ W, Calls Tryd.prog 11 #[] W fun e W' => e = .returned (.bool true) ∧ Below W.heap.size W W')) :
    Calls Tryd.prog 7 #[.int .u64 s, .agg #[.int .i64 k, .bool c, .bool p, .bool l, .bool f, .bool a, .bool x, .int .i64 r, .int .u64 R, .int .i64 C, .int .u64 B, .int .i64 P, .int .i64 A, .int .i64 M, .int .i64 H, .int .i64 D], .int .i64 z] w fun e w' => e = .returned (.bool true) ∧ Below w.heap.size w w' := by
  have sf := same_frame 0 0 false 0 false 0 0 ⟨#[]⟩
  go_enter Tryd.func7, Tryd.ntmps7
  have M0 := hide (heap_alloc_new w (.cells #[.int .i64 k, .bool c, .bool p, .bool l, .bool f, .bool a, .bool x, .int .i64 r, .int .u64 R, .int .i64 C, .int .u64 B, .int .i64 P, .int .i64 A, .int .i64 M, .int .i64 H, .int .i64 D] 24))
  go_wp2_with (first | (refine load_want 24 _ rfl w.heap.size rfl rfl 24 _ _ _ (unhide M0) Tryd.underlying24 rfl (by kernel_rfl) ?_; simp only [Act.put, List.setIfInBounds_toArray, List.set_cons_zero, List.set_cons_succ]))
  refine (unhide CFR _).mono ?_
  rintro e w1 ⟨rfl, b1⟩
  clear CFR
  have h1 := hide (alloc_then (o := .cells #[.int .u64 0, .int .u64 0, .bool false, .int .i64 0, .bool false, .int .i64 0, .int .i64 0, .string ⟨#[]⟩] 37) (bthen (alloc_below w _) b1))
  have M1 := hide (Below.row (alloc_below w1 (.cells #[.int .u64 0, .int .u64 0, .bool false, .int .i64 0, .bool false, .int .i64 0, .int .i64 0, .string ⟨#[]⟩] 37)) (Below.row b1 (unhide M0)))
  have T1 := hide (heap_alloc_new w1 (.cells #[.int .u64 0, .int .u64 0, .bool false, .int .i64 0, .bool false, .int .i64 0, .int .i64 0, .string ⟨#[]⟩] 37))
  clear b1 M0
  go_wp2_with (first | (refine load_want 24 _ rfl w.heap.size rfl rfl 24 _ _ _ (unhide M1) Tryd.underlying24 rfl (by kernel_rfl) ?_; simp only [Act.put, List.setIfInBounds_toArray, List.set_cons_zero, List.set_cons_succ]))
  generalize w1.alloc (.cells #[.int .u64 0, .int .u64 0, .bool false, .int .i64 0, .bool false, .int .i64 0, .int .i64 0, .string ⟨#[]⟩] 37) = v1 at *
  generalize w1.heap.size = N1 at *
  refine (unhide CC _).mono ?_
  rintro e w2 ⟨rfl, b2⟩
  clear CC
  have h2 := hide (bthen (unhide h1) b2)
  have T2 := hide (Below.row b2 (unhide T1))
  clear b2 h1 M1 T1
  go_wp2_with (first | (refine load_want 37 _ rfl N1 rfl rfl 37 _ _ _ (unhide T2) Tryd.underlying37 rfl (by kernel_rfl) ?_; simp only [Act.put, List.setIfInBounds_toArray, List.set_cons_zero, List.set_cons_succ]))
  refine (unhide CF _).mono ?_
  rintro e w3 ⟨rfl, b3⟩
  clear CF
  have h3 := hide (bthen (unhide h2) b3)
  clear b3
  go_wp2_with fail
  go_ret
  exact ⟨rfl, unhide h3⟩
set_option maxRecDepth 100000 in
set_option maxHeartbeats 4000000 in
theorem walk_b2 (s z : Int) (k : Int) (c p l f a x : Bool) (r R C B P A M H D : Int) (E : Int) (w : World)
    (hE : (E != 0) = true)
    (CFR : Hid (∀ W, Calls Tryd.prog 16 #[.int .u64 s, .agg #[.int .i64 k, .bool c, .bool p, .bool l, .bool f, .bool a, .bool x, .int .i64 r, .int .u64 R, .int .i64 C, .int .u64 B, .int .i64 P, .int .i64 A, .int .i64 M, .int .i64 H, .int .i64 D]] W fun e W' => e = .returned (.tuple #[.agg #[.int .u64 0, .int .u64 0, .bool false, .int .i64 0, .bool false, .int .i64 0, .int .i64 0, .string ⟨#[]⟩], .int .i64 E]) ∧ Below W.heap.size W W'))
    (CC : Hid (∀ W, Calls Tryd.prog 12 #[.agg #[.int .i64 k, .bool c, .bool p, .bool l, .bool f, .bool a, .bool x, .int .i64 r, .int .u64 R, .int .i64 C, .int .u64 B, .int .i64 P, .int .i64 A, .int .i64 M, .int .i64 H, .int .i64 D]] W fun e W' => e = .returned (.int .i64 0) ∧ Below W.heap.size W W'))
    (CO : Hid (∀ W, Calls Tryd.prog 20 #[.int .u64 s] W fun e W' => e = .returned (.bool false) ∧ W' = W))
    (CF : Hid (∀ W, Calls Tryd.prog 11 #[] W fun e W' => e = .returned (.bool true) ∧ Below W.heap.size W W')) :
    Calls Tryd.prog 7 #[.int .u64 s, .agg #[.int .i64 k, .bool c, .bool p, .bool l, .bool f, .bool a, .bool x, .int .i64 r, .int .u64 R, .int .i64 C, .int .u64 B, .int .i64 P, .int .i64 A, .int .i64 M, .int .i64 H, .int .i64 D], .int .i64 z] w fun e w' => e = .returned (.bool true) ∧ Below w.heap.size w w' := by
  have sf := same_frame 0 0 false 0 false 0 0 ⟨#[]⟩
  go_enter Tryd.func7, Tryd.ntmps7
  have M0 := hide (heap_alloc_new w (.cells #[.int .i64 k, .bool c, .bool p, .bool l, .bool f, .bool a, .bool x, .int .i64 r, .int .u64 R, .int .i64 C, .int .u64 B, .int .i64 P, .int .i64 A, .int .i64 M, .int .i64 H, .int .i64 D] 24))
  go_wp2_with (first | (refine load_want 24 _ rfl w.heap.size rfl rfl 24 _ _ _ (unhide M0) Tryd.underlying24 rfl (by kernel_rfl) ?_; simp only [Act.put, List.setIfInBounds_toArray, List.set_cons_zero, List.set_cons_succ]))
  refine (unhide CFR _).mono ?_
  rintro e w1 ⟨rfl, b1⟩
  clear CFR
  have h1 := hide (alloc_then (o := .cells #[.int .u64 0, .int .u64 0, .bool false, .int .i64 0, .bool false, .int .i64 0, .int .i64 0, .string ⟨#[]⟩] 37) (bthen (alloc_below w _) b1))
  have M1 := hide (Below.row (alloc_below w1 (.cells #[.int .u64 0, .int .u64 0, .bool false, .int .i64 0, .bool false, .int .i64 0, .int .i64 0, .string ⟨#[]⟩] 37)) (Below.row b1 (unhide M0)))
  have T1 := hide (heap_alloc_new w1 (.cells #[.int .u64 0, .int .u64 0, .bool false, .int .i64 0, .bool false, .int .i64 0, .int .i64 0, .string ⟨#[]⟩] 37))
  clear b1 M0
  go_wp2_with (first | (refine load_want 24 _ rfl w.heap.size rfl rfl 24 _ _ _ (unhide M1) Tryd.underlying24 rfl (by kernel_rfl) ?_; simp only [Act.put, List.setIfInBounds_toArray, List.set_cons_zero, List.set_cons_succ]))
  generalize w1.alloc (.cells #[.int .u64 0, .int .u64 0, .bool false, .int .i64 0, .bool false, .int .i64 0, .int .i64 0, .string ⟨#[]⟩] 37) = v1 at *
  generalize w1.heap.size = N1 at *
  refine (unhide CC _).mono ?_
  rintro e w2 ⟨rfl, b2⟩
  clear CC
  have h2 := hide (bthen (unhide h1) b2)
  have T2 := hide (Below.row b2 (unhide T1))
  clear b2 h1 M1 T1
  go_wp2_with (first | (refine load_want 37 _ rfl N1 rfl rfl 37 _ _ _ (unhide T2) Tryd.underlying37 rfl (by kernel_rfl) ?_; simp only [Act.put, List.setIfInBounds_toArray, List.set_cons_zero, List.set_cons_succ]))
  refine (unhide CO _).mono ?_
  rintro e w0 ⟨rfl, rfl⟩
  clear CO
  go_wp2_with (first | (refine load_want 37 _ rfl N1 rfl rfl 37 _ _ _ (unhide T2) Tryd.underlying37 rfl (by kernel_rfl) ?_; simp only [Act.put, List.setIfInBounds_toArray, List.set_cons_zero, List.set_cons_succ]))
  refine (unhide CF _).mono ?_
  rintro e w3 ⟨rfl, b3⟩
  clear CF
  have h3 := hide (bthen (unhide h2) b3)
  clear b3
  go_wp2_with fail
  go_ret
  exact ⟨rfl, unhide h3⟩
end Go.Proofs.YtchgmbbcfjfhoaaDoor.bpduGoes
