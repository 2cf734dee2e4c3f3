/-
  gangwaylaw04.EtherBack answers true, for every frame and every bytes.
-/
import Derived.Test.YtfndofbkfinnmaaDoorFrame4
namespace Go.Proofs.YtfndofbkfinnmaaDoor.etherBack
open Go.ChangeShapes Go.WideShapes Go.ChangeAt Go.RowKit
open Go.ChangeMaps (open_string shut_string)

set_option maxRecDepth 20000 in
set_option maxHeartbeats 400000 in
theorem walk_0_no (d s : Int) (has : Bool) (pri : Int) (dei : Bool) (vid ty : Int) (b x A X S : ByteArray) (i j : Nat) (c : Int) (k : Int) (w : World) (hg : Et w) (hc : c ≠ 0) (hk : k ≠ 0)
    (mb : ∀ (ts : Array TypeId) (t : TypeId) (W : World), (Builtin.min_ ts t #[.int .i64 (b.size : Int), .int .i64 1700]).run Tryd.prog W = .ok (.int .i64 (i : Int)) W)
    (sb : ∀ W : World, (Instr.slice 9 (.string b) none (some (.int .i64 (i : Int))) none).run Tryd.prog W = .ok (.string A) W)
    (mx : ∀ (ts : Array TypeId) (t : TypeId) (W : World), (Builtin.min_ ts t #[.int .i64 (x.size : Int), .int .i64 1700]).run Tryd.prog W = .ok (.int .i64 (j : Int)) W)
    (sx : ∀ W : World, (Instr.slice 9 (.string x) none (some (.int .i64 (j : Int))) none).run Tryd.prog W = .ok (.string X) W)
    (B : Hid (∀ W, Et W → Calls Tryd.prog 8 #[.agg #[.int .u64 d, .int .u64 s, .bool has, .int .i64 pri, .bool dei, .int .i64 vid, .int .i64 ty, .string A]] W fun e W' => e = .returned (.tuple #[.string S, .int .i64 c]) ∧ Below W.heap.size W W'))
    (P2 : Hid (∀ W, Et W → Calls Tryd.prog 15 #[.string X] W fun e W' => e = .returned (.tuple #[.agg #[.int .u64 0, .int .u64 0, .bool false, .int .i64 0, .bool false, .int .i64 0, .int .i64 0, .string ⟨#[]⟩], .int .i64 k]) ∧ Below W.heap.size W W')) :
    Calls Tryd.prog 5 #[.agg #[.int .u64 d, .int .u64 s, .bool has, .int .i64 pri, .bool dei, .int .i64 vid, .int .i64 ty, .string b], .string x] w fun e w' => e = .returned (.bool true) ∧ Below w.heap.size w w' := by
  have same := same_frame 0 0 false 0 false 0 0 ⟨#[]⟩
  go_enter Tryd.func5, Tryd.ntmps5
  go_wp2_with fail
  refine (unhide B _ (hg.next (alloc_below _ _))).mono ?_
  rintro e w1 ⟨rfl, b1⟩
  have hb1 := bthen (alloc_below w _) b1
  have hb := hb1
  clear b1 B hb1
  go_wp2_with fail
  refine (unhide P2 _ (hg.next hb)).mono ?_
  rintro e w3 ⟨rfl, b3⟩
  have hb3 := bthen hb b3
  clear b3 P2
  go_wp2_with fail
  refine (fixed_true _ (hg.next (alloc_then hb3))).mono ?_
  rintro e w4 ⟨rfl, b4⟩
  have hb4 := bthen (alloc_then hb3) b4
  go_wp2_with fail
  go_ret
  exact ⟨rfl, hb4⟩
set_option maxRecDepth 20000 in
set_option maxHeartbeats 400000 in
theorem walk_0_len (d s : Int) (has : Bool) (pri : Int) (dei : Bool) (vid ty : Int) (d2 q2 : Int) (has2 : Bool) (pri2 : Int) (dei2 : Bool) (vid2 : Int) (b x A X S A2 U : ByteArray) (i j : Nat) (c : Int) (w : World) (hg : Et w) (hc : c ≠ 0) (hle : (U.size : Int) ≤ (X.size : Int)) (su : ∀ W : World, (Instr.slice 9 (.string X) none (some (.int .i64 (U.size : Int))) none).run Tryd.prog W = .ok (.string U) W)
    (mb : ∀ (ts : Array TypeId) (t : TypeId) (W : World), (Builtin.min_ ts t #[.int .i64 (b.size : Int), .int .i64 1700]).run Tryd.prog W = .ok (.int .i64 (i : Int)) W)
    (sb : ∀ W : World, (Instr.slice 9 (.string b) none (some (.int .i64 (i : Int))) none).run Tryd.prog W = .ok (.string A) W)
    (mx : ∀ (ts : Array TypeId) (t : TypeId) (W : World), (Builtin.min_ ts t #[.int .i64 (x.size : Int), .int .i64 1700]).run Tryd.prog W = .ok (.int .i64 (j : Int)) W)
    (sx : ∀ W : World, (Instr.slice 9 (.string x) none (some (.int .i64 (j : Int))) none).run Tryd.prog W = .ok (.string X) W)
    (B : Hid (∀ W, Et W → Calls Tryd.prog 8 #[.agg #[.int .u64 d, .int .u64 s, .bool has, .int .i64 pri, .bool dei, .int .i64 vid, .int .i64 ty, .string A]] W fun e W' => e = .returned (.tuple #[.string S, .int .i64 c]) ∧ Below W.heap.size W W'))
    (P2 : Hid (∀ W, Et W → Calls Tryd.prog 15 #[.string X] W fun e W' => e = .returned (.tuple #[.agg #[.int .u64 d2, .int .u64 q2, .bool has2, .int .i64 pri2, .bool dei2, .int .i64 vid2, .int .i64 0, .string A2], .int .i64 0]) ∧ Below W.heap.size W W'))
    (B2 : Hid (∀ W, Et W → Calls Tryd.prog 8 #[.agg #[.int .u64 d2, .int .u64 q2, .bool has2, .int .i64 pri2, .bool dei2, .int .i64 vid2, .int .i64 0, .string A2]] W fun e W' => e = .returned (.tuple #[.string U, .int .i64 0]) ∧ Below W.heap.size W W'))
    (C2 : Hid (∀ W, Et W → Calls Tryd.prog 12 #[.agg #[.int .u64 d2, .int .u64 q2, .bool has2, .int .i64 pri2, .bool dei2, .int .i64 vid2, .int .i64 0, .string A2]] W fun e W' => e = .returned (.int .i64 0) ∧ Below W.heap.size W W')) :
    Calls Tryd.prog 5 #[.agg #[.int .u64 d, .int .u64 s, .bool has, .int .i64 pri, .bool dei, .int .i64 vid, .int .i64 ty, .string b], .string x] w fun e w' => e = .returned (.bool true) ∧ Below w.heap.size w w' := by
  go_enter Tryd.func5, Tryd.ntmps5
  go_wp2_with fail
  refine (unhide B _ (hg.next (alloc_below _ _))).mono ?_
  rintro e w1 ⟨rfl, b1⟩
  have hb1 := bthen (alloc_below w _) b1
  have hb := hb1
  clear b1 B hb1
  go_wp2_with fail
  refine (unhide P2 _ (hg.next hb)).mono ?_
  rintro e w3 ⟨rfl, b3⟩
  have hb3 := bthen hb b3
  clear b3 P2
  go_wp2_with fail
  have hG := heap_alloc_new w3 (.cells #[.int .u64 d2, .int .u64 q2, .bool has2, .int .i64 pri2, .bool dei2, .int .i64 vid2, .int .i64 0, .string A2] 26)
  refine (unhide B2 _ (hg.next (alloc_then hb3))).mono ?_
  rintro e w4 ⟨rfl, b4⟩
  have hb4 := bthen (alloc_then hb3) b4
  have hG4 := Below.row b4 hG
  clear b4 hG B2
  obtain ⟨c0, c1, c2, c3, c4, c5, c6, c7, _⟩ := cells8 hG4
  generalize w3.heap.size = F at hG4 c0 c1 c2 c3 c4 c5 c6 c7 ⊢
  go_wp2_with fail
  refine (unhide C2 _ (hg.next hb4)).mono ?_
  rintro e w5 ⟨rfl, b5⟩
  have hb5 := bthen hb4 b5
  have hG5 := Below.row b5 hG4
  clear b5 hG4 C2 c0 c1 c2 c3 c4 c5 c6 c7
  obtain ⟨_, _, _, _, _, _, c6, _⟩ := cells8 hG5
  clear hG5
  go_wp2_with fail
  refine (fixed_true _ (hg.next hb5)).mono ?_
  rintro e w6 ⟨rfl, b6⟩
  have hb6 := bthen hb5 b6
  go_wp2_with fail
  go_ret
  exact ⟨rfl, hb6⟩
set_option maxRecDepth 20000 in
set_option maxHeartbeats 400000 in
theorem walk_0_typ (d s : Int) (has : Bool) (pri : Int) (dei : Bool) (vid ty : Int) (d2 q2 : Int) (has2 : Bool) (pri2 : Int) (dei2 : Bool) (vid2 ty2 : Int) (b x A S A2 U : ByteArray) (i j : Nat) (c : Int) (w : World) (hg : Et w) (hc : c ≠ 0) (hty : ty2 ≠ 0) (su : ∀ W : World, (Instr.slice 9 (.string U) none (some (.int .i64 (U.size : Int))) none).run Tryd.prog W = .ok (.string U) W)
    (mb : ∀ (ts : Array TypeId) (t : TypeId) (W : World), (Builtin.min_ ts t #[.int .i64 (b.size : Int), .int .i64 1700]).run Tryd.prog W = .ok (.int .i64 (i : Int)) W)
    (sb : ∀ W : World, (Instr.slice 9 (.string b) none (some (.int .i64 (i : Int))) none).run Tryd.prog W = .ok (.string A) W)
    (mx : ∀ (ts : Array TypeId) (t : TypeId) (W : World), (Builtin.min_ ts t #[.int .i64 (x.size : Int), .int .i64 1700]).run Tryd.prog W = .ok (.int .i64 (j : Int)) W)
    (sx : ∀ W : World, (Instr.slice 9 (.string x) none (some (.int .i64 (j : Int))) none).run Tryd.prog W = .ok (.string U) W)
    (B : Hid (∀ W, Et W → Calls Tryd.prog 8 #[.agg #[.int .u64 d, .int .u64 s, .bool has, .int .i64 pri, .bool dei, .int .i64 vid, .int .i64 ty, .string A]] W fun e W' => e = .returned (.tuple #[.string S, .int .i64 c]) ∧ Below W.heap.size W W'))
    (P2 : Hid (∀ W, Et W → Calls Tryd.prog 15 #[.string U] W fun e W' => e = .returned (.tuple #[.agg #[.int .u64 d2, .int .u64 q2, .bool has2, .int .i64 pri2, .bool dei2, .int .i64 vid2, .int .i64 ty2, .string A2], .int .i64 0]) ∧ Below W.heap.size W W'))
    (B2 : Hid (∀ W, Et W → Calls Tryd.prog 8 #[.agg #[.int .u64 d2, .int .u64 q2, .bool has2, .int .i64 pri2, .bool dei2, .int .i64 vid2, .int .i64 ty2, .string A2]] W fun e W' => e = .returned (.tuple #[.string U, .int .i64 0]) ∧ Below W.heap.size W W'))
    (C2 : Hid (∀ W, Et W → Calls Tryd.prog 12 #[.agg #[.int .u64 d2, .int .u64 q2, .bool has2, .int .i64 pri2, .bool dei2, .int .i64 vid2, .int .i64 ty2, .string A2]] W fun e W' => e = .returned (.int .i64 0) ∧ Below W.heap.size W W')) :
    Calls Tryd.prog 5 #[.agg #[.int .u64 d, .int .u64 s, .bool has, .int .i64 pri, .bool dei, .int .i64 vid, .int .i64 ty, .string b], .string x] w fun e w' => e = .returned (.bool true) ∧ Below w.heap.size w w' := by
  go_enter Tryd.func5, Tryd.ntmps5
  go_wp2_with fail
  refine (unhide B _ (hg.next (alloc_below _ _))).mono ?_
  rintro e w1 ⟨rfl, b1⟩
  have hb1 := bthen (alloc_below w _) b1
  have hb := hb1
  clear b1 B hb1
  go_wp2_with fail
  refine (unhide P2 _ (hg.next hb)).mono ?_
  rintro e w3 ⟨rfl, b3⟩
  have hb3 := bthen hb b3
  clear b3 P2
  go_wp2_with fail
  have hG := heap_alloc_new w3 (.cells #[.int .u64 d2, .int .u64 q2, .bool has2, .int .i64 pri2, .bool dei2, .int .i64 vid2, .int .i64 ty2, .string A2] 26)
  refine (unhide B2 _ (hg.next (alloc_then hb3))).mono ?_
  rintro e w4 ⟨rfl, b4⟩
  have hb4 := bthen (alloc_then hb3) b4
  have hG4 := Below.row b4 hG
  clear b4 hG B2
  obtain ⟨c0, c1, c2, c3, c4, c5, c6, c7, _⟩ := cells8 hG4
  generalize w3.heap.size = F at hG4 c0 c1 c2 c3 c4 c5 c6 c7 ⊢
  go_wp2_with fail
  refine (unhide C2 _ (hg.next hb4)).mono ?_
  rintro e w5 ⟨rfl, b5⟩
  have hb5 := bthen hb4 b5
  have hG5 := Below.row b5 hG4
  clear b5 hG4 C2 c0 c1 c2 c3 c4 c5 c6 c7
  obtain ⟨_, _, _, _, _, _, c6, _⟩ := cells8 hG5
  clear hG5
  go_wp2_with fail
  refine (fixed_true _ (hg.next hb5)).mono ?_
  rintro e w6 ⟨rfl, b6⟩
  have hb6 := bthen hb5 b6
  go_wp2_with fail
  go_ret
  exact ⟨rfl, hb6⟩
set_option maxRecDepth 20000 in
set_option maxHeartbeats 400000 in
theorem walk_1_no (d s : Int) (has : Bool) (pri : Int) (dei : Bool) (vid ty : Int) (b x A X S : ByteArray) (i j : Nat) (k : Int) (w : World) (hg : Et w) (hk : k ≠ 0)
    (mb : ∀ (ts : Array TypeId) (t : TypeId) (W : World), (Builtin.min_ ts t #[.int .i64 (b.size : Int), .int .i64 1700]).run Tryd.prog W = .ok (.int .i64 (i : Int)) W)
    (sb : ∀ W : World, (Instr.slice 9 (.string b) none (some (.int .i64 (i : Int))) none).run Tryd.prog W = .ok (.string A) W)
    (mx : ∀ (ts : Array TypeId) (t : TypeId) (W : World), (Builtin.min_ ts t #[.int .i64 (x.size : Int), .int .i64 1700]).run Tryd.prog W = .ok (.int .i64 (j : Int)) W)
    (sx : ∀ W : World, (Instr.slice 9 (.string x) none (some (.int .i64 (j : Int))) none).run Tryd.prog W = .ok (.string X) W)
    (B : Hid (∀ W, Et W → Calls Tryd.prog 8 #[.agg #[.int .u64 d, .int .u64 s, .bool has, .int .i64 pri, .bool dei, .int .i64 vid, .int .i64 ty, .string A]] W fun e W' => e = .returned (.tuple #[.string S, .int .i64 0]) ∧ Below W.heap.size W W'))
    (P : Hid (∀ W, Et W → Calls Tryd.prog 15 #[.string S] W fun e W' => e = .returned (.tuple #[.agg #[.int .u64 d, .int .u64 s, .bool has, .int .i64 pri, .bool dei, .int .i64 vid, .int .i64 ty, .string A], .int .i64 0]) ∧ Below W.heap.size W W'))
    (P2 : Hid (∀ W, Et W → Calls Tryd.prog 15 #[.string X] W fun e W' => e = .returned (.tuple #[.agg #[.int .u64 0, .int .u64 0, .bool false, .int .i64 0, .bool false, .int .i64 0, .int .i64 0, .string ⟨#[]⟩], .int .i64 k]) ∧ Below W.heap.size W W')) :
    Calls Tryd.prog 5 #[.agg #[.int .u64 d, .int .u64 s, .bool has, .int .i64 pri, .bool dei, .int .i64 vid, .int .i64 ty, .string b], .string x] w fun e w' => e = .returned (.bool true) ∧ Below w.heap.size w w' := by
  have other := other_frame d s has pri dei vid ty A
  have same := same_frame 0 0 false 0 false 0 0 ⟨#[]⟩
  go_enter Tryd.func5, Tryd.ntmps5
  go_wp2_with fail
  refine (unhide B _ (hg.next (alloc_below _ _))).mono ?_
  rintro e w1 ⟨rfl, b1⟩
  have hb1 := bthen (alloc_below w _) b1
  have hrow := Below.row b1 (heap_alloc_new w _)
  clear b1 B
  go_wp2_with fail
  refine (unhide P _ (hg.next hb1)).mono ?_
  rintro e w2 ⟨rfl, b2⟩
  have hb2 := bthen hb1 b2
  have hrow2 := Below.row b2 hrow
  have hrow3 := Below.row (alloc_below w2 (.cells #[.int .u64 d, .int .u64 s, .bool has, .int .i64 pri, .bool dei, .int .i64 vid, .int .i64 ty, .string A] 26)) hrow2
  have hb := alloc_then (o := .cells #[.int .u64 d, .int .u64 s, .bool has, .int .i64 pri, .bool dei, .int .i64 vid, .int .i64 ty, .string A] 26) hb2
  obtain ⟨c0, c1, c2, c3, c4, c5, c6, c7, _⟩ := cells8 hrow3
  clear b2 hrow hrow2 hrow3 hb1 hb2 P
  generalize w.heap.size = N at c0 c1 c2 c3 c4 c5 c6 c7 ⊢
  go_wp2_with fail
  clear c0 c1 c2 c3 c4 c5 c6 c7
  refine (unhide P2 _ (hg.next hb)).mono ?_
  rintro e w3 ⟨rfl, b3⟩
  have hb3 := bthen hb b3
  clear b3 P2
  go_wp2_with fail
  refine (fixed_true _ (hg.next (alloc_then hb3))).mono ?_
  rintro e w4 ⟨rfl, b4⟩
  have hb4 := bthen (alloc_then hb3) b4
  go_wp2_with fail
  go_ret
  exact ⟨rfl, hb4⟩
set_option maxRecDepth 20000 in
set_option maxHeartbeats 400000 in
theorem walk_1_len (d s : Int) (has : Bool) (pri : Int) (dei : Bool) (vid ty : Int) (d2 q2 : Int) (has2 : Bool) (pri2 : Int) (dei2 : Bool) (vid2 : Int) (b x A X S A2 U : ByteArray) (i j : Nat) (w : World) (hg : Et w) (hle : (U.size : Int) ≤ (X.size : Int)) (su : ∀ W : World, (Instr.slice 9 (.string X) none (some (.int .i64 (U.size : Int))) none).run Tryd.prog W = .ok (.string U) W)
    (mb : ∀ (ts : Array TypeId) (t : TypeId) (W : World), (Builtin.min_ ts t #[.int .i64 (b.size : Int), .int .i64 1700]).run Tryd.prog W = .ok (.int .i64 (i : Int)) W)
    (sb : ∀ W : World, (Instr.slice 9 (.string b) none (some (.int .i64 (i : Int))) none).run Tryd.prog W = .ok (.string A) W)
    (mx : ∀ (ts : Array TypeId) (t : TypeId) (W : World), (Builtin.min_ ts t #[.int .i64 (x.size : Int), .int .i64 1700]).run Tryd.prog W = .ok (.int .i64 (j : Int)) W)
    (sx : ∀ W : World, (Instr.slice 9 (.string x) none (some (.int .i64 (j : Int))) none).run Tryd.prog W = .ok (.string X) W)
    (B : Hid (∀ W, Et W → Calls Tryd.prog 8 #[.agg #[.int .u64 d, .int .u64 s, .bool has, .int .i64 pri, .bool dei, .int .i64 vid, .int .i64 ty, .string A]] W fun e W' => e = .returned (.tuple #[.string S, .int .i64 0]) ∧ Below W.heap.size W W'))
    (P : Hid (∀ W, Et W → Calls Tryd.prog 15 #[.string S] W fun e W' => e = .returned (.tuple #[.agg #[.int .u64 d, .int .u64 s, .bool has, .int .i64 pri, .bool dei, .int .i64 vid, .int .i64 ty, .string A], .int .i64 0]) ∧ Below W.heap.size W W'))
    (P2 : Hid (∀ W, Et W → Calls Tryd.prog 15 #[.string X] W fun e W' => e = .returned (.tuple #[.agg #[.int .u64 d2, .int .u64 q2, .bool has2, .int .i64 pri2, .bool dei2, .int .i64 vid2, .int .i64 0, .string A2], .int .i64 0]) ∧ Below W.heap.size W W'))
    (B2 : Hid (∀ W, Et W → Calls Tryd.prog 8 #[.agg #[.int .u64 d2, .int .u64 q2, .bool has2, .int .i64 pri2, .bool dei2, .int .i64 vid2, .int .i64 0, .string A2]] W fun e W' => e = .returned (.tuple #[.string U, .int .i64 0]) ∧ Below W.heap.size W W'))
    (C2 : Hid (∀ W, Et W → Calls Tryd.prog 12 #[.agg #[.int .u64 d2, .int .u64 q2, .bool has2, .int .i64 pri2, .bool dei2, .int .i64 vid2, .int .i64 0, .string A2]] W fun e W' => e = .returned (.int .i64 0) ∧ Below W.heap.size W W')) :
    Calls Tryd.prog 5 #[.agg #[.int .u64 d, .int .u64 s, .bool has, .int .i64 pri, .bool dei, .int .i64 vid, .int .i64 ty, .string b], .string x] w fun e w' => e = .returned (.bool true) ∧ Below w.heap.size w w' := by
  have other := other_frame d s has pri dei vid ty A
  go_enter Tryd.func5, Tryd.ntmps5
  go_wp2_with fail
  refine (unhide B _ (hg.next (alloc_below _ _))).mono ?_
  rintro e w1 ⟨rfl, b1⟩
  have hb1 := bthen (alloc_below w _) b1
  have hrow := Below.row b1 (heap_alloc_new w _)
  clear b1 B
  go_wp2_with fail
  refine (unhide P _ (hg.next hb1)).mono ?_
  rintro e w2 ⟨rfl, b2⟩
  have hb2 := bthen hb1 b2
  have hrow2 := Below.row b2 hrow
  have hrow3 := Below.row (alloc_below w2 (.cells #[.int .u64 d, .int .u64 s, .bool has, .int .i64 pri, .bool dei, .int .i64 vid, .int .i64 ty, .string A] 26)) hrow2
  have hb := alloc_then (o := .cells #[.int .u64 d, .int .u64 s, .bool has, .int .i64 pri, .bool dei, .int .i64 vid, .int .i64 ty, .string A] 26) hb2
  obtain ⟨c0, c1, c2, c3, c4, c5, c6, c7, _⟩ := cells8 hrow3
  clear b2 hrow hrow2 hrow3 hb1 hb2 P
  generalize w.heap.size = N at c0 c1 c2 c3 c4 c5 c6 c7 ⊢
  go_wp2_with fail
  clear c0 c1 c2 c3 c4 c5 c6 c7
  refine (unhide P2 _ (hg.next hb)).mono ?_
  rintro e w3 ⟨rfl, b3⟩
  have hb3 := bthen hb b3
  clear b3 P2
  go_wp2_with fail
  have hG := heap_alloc_new w3 (.cells #[.int .u64 d2, .int .u64 q2, .bool has2, .int .i64 pri2, .bool dei2, .int .i64 vid2, .int .i64 0, .string A2] 26)
  refine (unhide B2 _ (hg.next (alloc_then hb3))).mono ?_
  rintro e w4 ⟨rfl, b4⟩
  have hb4 := bthen (alloc_then hb3) b4
  have hG4 := Below.row b4 hG
  clear b4 hG B2
  obtain ⟨c0, c1, c2, c3, c4, c5, c6, c7, _⟩ := cells8 hG4
  generalize w3.heap.size = F at hG4 c0 c1 c2 c3 c4 c5 c6 c7 ⊢
  go_wp2_with fail
  refine (unhide C2 _ (hg.next hb4)).mono ?_
  rintro e w5 ⟨rfl, b5⟩
  have hb5 := bthen hb4 b5
  have hG5 := Below.row b5 hG4
  clear b5 hG4 C2 c0 c1 c2 c3 c4 c5 c6 c7
  obtain ⟨_, _, _, _, _, _, c6, _⟩ := cells8 hG5
  clear hG5
  go_wp2_with fail
  refine (fixed_true _ (hg.next hb5)).mono ?_
  rintro e w6 ⟨rfl, b6⟩
  have hb6 := bthen hb5 b6
  go_wp2_with fail
  go_ret
  exact ⟨rfl, hb6⟩
set_option maxRecDepth 20000 in
set_option maxHeartbeats 400000 in
theorem walk_1_typ (d s : Int) (has : Bool) (pri : Int) (dei : Bool) (vid ty : Int) (d2 q2 : Int) (has2 : Bool) (pri2 : Int) (dei2 : Bool) (vid2 ty2 : Int) (b x A S A2 U : ByteArray) (i j : Nat) (w : World) (hg : Et w) (hty : ty2 ≠ 0) (su : ∀ W : World, (Instr.slice 9 (.string U) none (some (.int .i64 (U.size : Int))) none).run Tryd.prog W = .ok (.string U) W)
    (mb : ∀ (ts : Array TypeId) (t : TypeId) (W : World), (Builtin.min_ ts t #[.int .i64 (b.size : Int), .int .i64 1700]).run Tryd.prog W = .ok (.int .i64 (i : Int)) W)
    (sb : ∀ W : World, (Instr.slice 9 (.string b) none (some (.int .i64 (i : Int))) none).run Tryd.prog W = .ok (.string A) W)
    (mx : ∀ (ts : Array TypeId) (t : TypeId) (W : World), (Builtin.min_ ts t #[.int .i64 (x.size : Int), .int .i64 1700]).run Tryd.prog W = .ok (.int .i64 (j : Int)) W)
    (sx : ∀ W : World, (Instr.slice 9 (.string x) none (some (.int .i64 (j : Int))) none).run Tryd.prog W = .ok (.string U) W)
    (B : Hid (∀ W, Et W → Calls Tryd.prog 8 #[.agg #[.int .u64 d, .int .u64 s, .bool has, .int .i64 pri, .bool dei, .int .i64 vid, .int .i64 ty, .string A]] W fun e W' => e = .returned (.tuple #[.string S, .int .i64 0]) ∧ Below W.heap.size W W'))
    (P : Hid (∀ W, Et W → Calls Tryd.prog 15 #[.string S] W fun e W' => e = .returned (.tuple #[.agg #[.int .u64 d, .int .u64 s, .bool has, .int .i64 pri, .bool dei, .int .i64 vid, .int .i64 ty, .string A], .int .i64 0]) ∧ Below W.heap.size W W'))
    (P2 : Hid (∀ W, Et W → Calls Tryd.prog 15 #[.string U] W fun e W' => e = .returned (.tuple #[.agg #[.int .u64 d2, .int .u64 q2, .bool has2, .int .i64 pri2, .bool dei2, .int .i64 vid2, .int .i64 ty2, .string A2], .int .i64 0]) ∧ Below W.heap.size W W'))
    (B2 : Hid (∀ W, Et W → Calls Tryd.prog 8 #[.agg #[.int .u64 d2, .int .u64 q2, .bool has2, .int .i64 pri2, .bool dei2, .int .i64 vid2, .int .i64 ty2, .string A2]] W fun e W' => e = .returned (.tuple #[.string U, .int .i64 0]) ∧ Below W.heap.size W W'))
    (C2 : Hid (∀ W, Et W → Calls Tryd.prog 12 #[.agg #[.int .u64 d2, .int .u64 q2, .bool has2, .int .i64 pri2, .bool dei2, .int .i64 vid2, .int .i64 ty2, .string A2]] W fun e W' => e = .returned (.int .i64 0) ∧ Below W.heap.size W W')) :
    Calls Tryd.prog 5 #[.agg #[.int .u64 d, .int .u64 s, .bool has, .int .i64 pri, .bool dei, .int .i64 vid, .int .i64 ty, .string b], .string x] w fun e w' => e = .returned (.bool true) ∧ Below w.heap.size w w' := by
  have other := other_frame d s has pri dei vid ty A
  go_enter Tryd.func5, Tryd.ntmps5
  go_wp2_with fail
  refine (unhide B _ (hg.next (alloc_below _ _))).mono ?_
  rintro e w1 ⟨rfl, b1⟩
  have hb1 := bthen (alloc_below w _) b1
  have hrow := Below.row b1 (heap_alloc_new w _)
  clear b1 B
  go_wp2_with fail
  refine (unhide P _ (hg.next hb1)).mono ?_
  rintro e w2 ⟨rfl, b2⟩
  have hb2 := bthen hb1 b2
  have hrow2 := Below.row b2 hrow
  have hrow3 := Below.row (alloc_below w2 (.cells #[.int .u64 d, .int .u64 s, .bool has, .int .i64 pri, .bool dei, .int .i64 vid, .int .i64 ty, .string A] 26)) hrow2
  have hb := alloc_then (o := .cells #[.int .u64 d, .int .u64 s, .bool has, .int .i64 pri, .bool dei, .int .i64 vid, .int .i64 ty, .string A] 26) hb2
  obtain ⟨c0, c1, c2, c3, c4, c5, c6, c7, _⟩ := cells8 hrow3
  clear b2 hrow hrow2 hrow3 hb1 hb2 P
  generalize w.heap.size = N at c0 c1 c2 c3 c4 c5 c6 c7 ⊢
  go_wp2_with fail
  clear c0 c1 c2 c3 c4 c5 c6 c7
  refine (unhide P2 _ (hg.next hb)).mono ?_
  rintro e w3 ⟨rfl, b3⟩
  have hb3 := bthen hb b3
  clear b3 P2
  go_wp2_with fail
  have hG := heap_alloc_new w3 (.cells #[.int .u64 d2, .int .u64 q2, .bool has2, .int .i64 pri2, .bool dei2, .int .i64 vid2, .int .i64 ty2, .string A2] 26)
  refine (unhide B2 _ (hg.next (alloc_then hb3))).mono ?_
  rintro e w4 ⟨rfl, b4⟩
  have hb4 := bthen (alloc_then hb3) b4
  have hG4 := Below.row b4 hG
  clear b4 hG B2
  obtain ⟨c0, c1, c2, c3, c4, c5, c6, c7, _⟩ := cells8 hG4
  generalize w3.heap.size = F at hG4 c0 c1 c2 c3 c4 c5 c6 c7 ⊢
  go_wp2_with fail
  refine (unhide C2 _ (hg.next hb4)).mono ?_
  rintro e w5 ⟨rfl, b5⟩
  have hb5 := bthen hb4 b5
  have hG5 := Below.row b5 hG4
  clear b5 hG4 C2 c0 c1 c2 c3 c4 c5 c6 c7
  obtain ⟨_, _, _, _, _, _, c6, _⟩ := cells8 hG5
  clear hG5
  go_wp2_with fail
  refine (fixed_true _ (hg.next hb5)).mono ?_
  rintro e w6 ⟨rfl, b6⟩
  have hb6 := bthen hb5 b6
  go_wp2_with fail
  go_ret
  exact ⟨rfl, hb6⟩
theorem walk (d s : Nat) (has : Bool) (pri : Int) (dei : Bool) (vid ty : Int) (b x : ByteArray) (w : World) (hg : Et w) (_ : d < 18446744073709551616) (_ : s < 18446744073709551616) (_ : -9223372036854775808 ≤ pri ∧ pri ≤ 9223372036854775807) (_ : -9223372036854775808 ≤ vid ∧ vid ≤ 9223372036854775807) (_ : -9223372036854775808 ≤ ty ∧ ty ≤ 9223372036854775807) (_ : b.size ≤ maxLen) (_ : x.size ≤ maxLen) :
    Calls Tryd.prog 5 #[.agg #[.int .u64 d, .int .u64 s, .bool has, .int .i64 pri, .bool dei, .int .i64 vid, .int .i64 ty, .string b], .string x] w fun e w' => e = .returned (.bool true) ∧ Below w.heap.size w w' := by
  obtain ⟨i, a, la, mb, sb⟩ := firstN 1700 b
  obtain ⟨j, y, ly, mx, sx⟩ := firstN 1700 x
  have P2 := fun (W : World) (hW : Et W) => parse_any y W hW (by omega)
  have Bn := fun h => fun (W : World) (hW : Et W) => build_bad d s has pri dei vid ty a W hW (by omega) h
  have By := fun h => fun (W : World) (_ : Et W) => build_ok d s has pri dei vid ty a W h
  have Py := fun (h : (Fr.mk d s has pri dei vid ty a).check = 0) => fun (W : World) (hW : Et W) => parse_any (Fr.mk d s has pri dei vid ty a).bytes W hW (by have := Fr.bytes_length (Fr.mk d s has pri dei vid ty a); have := (check_spec _ h).2.2.2.2; omega)
  by_cases hk : (Fr.parse y).2 = 0
  · obtain ⟨g, hgy⟩ : ∃ g, Fr.parse y = (g, 0) := ⟨(Fr.parse y).1, by rw [← hk]⟩
    obtain ⟨gc, more, gm, gt⟩ := built_parse y g hgy
    obtain ⟨d2, q2, has2, pri2, dei2, vid2, ty2, a2⟩ := g
    rw [hgy] at P2
    have hz := (check_spec _ gc).2.2.2.2
    have hsz : 14 + a2.length + (if has2 then 4 else 0) ≤ 1600 := hz
    have B2 := fun (W : World) (_ : Et W) => build_ok d2 q2 has2 pri2 dei2 vid2 ty2 a2 W gc
    have C2 := fun (W : World) (hW : Et W) => check_any d2 q2 has2 pri2 dei2 vid2 ty2 a2 W hW (by omega)
    rw [gc] at C2
    generalize (Fr.mk d2 q2 has2 pri2 dei2 vid2 ty2 a2).bytes = u at *
    by_cases z : ty2 = 0
    · subst z
      have hul : (bs u).size ≤ (bs y).size := by rw [bs_size, bs_size, gm, List.length_append]; omega
      have hux : (bs y).extract 0 (bs u).size = bs u := by rw [← bs_of ((bs y).extract 0 (bs u).size), extract_toList, bs_toList, List.drop_zero, bs_size, Nat.sub_zero, gm, List.take_left]
      have su := fun W : World => (run_slice_string_h (P := Tryd.prog) W 9 (bs y) Tryd.underlying9 .i64 ((bs u).size : Int) (by omega) (by omega)).trans (congrArg (fun z => Result.ok (Value.string z) W) (show (bs y).extract 0 ((bs u).size : Int).toNat = bs u by rw [show ((bs u).size : Int).toNat = (bs u).size by omega]; exact hux))
      by_cases h : (Fr.mk d s has pri dei vid ty a).check = 0
      · have Py' := Py h
        rw [parse_back _ h] at Py'
        exact walk_1_len d s has pri dei vid ty d2 q2 has2 pri2 dei2 vid2 b x (bs a) (bs y) _ (bs a2) (bs u) i j w hg (by omega) su mb sb mx sx (hide (By h)) (hide Py') (hide P2) (hide B2) (hide C2)
      · exact walk_0_len d s has pri dei vid ty d2 q2 has2 pri2 dei2 vid2 b x (bs a) (bs y) _ (bs a2) (bs u) i j _ w hg h (by omega) su mb sb mx sx (hide (Bn h)) (hide P2) (hide B2) (hide C2)
    · have gy : y = u := by rw [gm, gt z, List.append_nil]
      subst gy
      have su := fun W : World => (run_slice_string_h (P := Tryd.prog) W 9 (bs y) Tryd.underlying9 .i64 ((bs y).size : Int) (by omega) (by omega)).trans (congrArg (fun z => Result.ok (Value.string z) W) (show (bs y).extract 0 ((bs y).size : Int).toNat = bs y by rw [show ((bs y).size : Int).toNat = (bs y).size by omega, ← bs_of ((bs y).extract 0 (bs y).size), extract_toList, bs_toList, List.drop_zero, bs_size, Nat.sub_zero, List.take_length]))
      by_cases h : (Fr.mk d s has pri dei vid ty a).check = 0
      · have Py' := Py h
        rw [parse_back _ h] at Py'
        exact walk_1_typ d s has pri dei vid ty d2 q2 has2 pri2 dei2 vid2 ty2 b x (bs a) _ (bs a2) (bs y) i j w hg z su mb sb mx sx (hide (By h)) (hide Py') (hide P2) (hide B2) (hide C2)
      · exact walk_0_typ d s has pri dei vid ty d2 q2 has2 pri2 dei2 vid2 ty2 b x (bs a) _ (bs a2) (bs y) i j _ w hg h z su mb sb mx sx (hide (Bn h)) (hide P2) (hide B2) (hide C2)
  · have hn : (Fr.parse y).1 = Fr.none := by
      rcases read_any y (by omega) with ⟨_, _, _, _, _, h3, _⟩ | ⟨h1, _⟩
      · exact h3
      · exact absurd h1 hk
    rw [hn] at P2
    by_cases h : (Fr.mk d s has pri dei vid ty a).check = 0
    · have Py' := Py h
      rw [parse_back _ h] at Py'
      exact walk_1_no d s has pri dei vid ty b x (bs a) (bs y) _ i j _ w hg hk mb sb mx sx (hide (By h)) (hide Py') (hide P2)
    · exact walk_0_no d s has pri dei vid ty b x (bs a) (bs y) _ i j _ _ w hg h hk mb sb mx sx (hide (Bn h)) (hide P2)
set_option maxRecDepth 100000 in
theorem lifted (os : Os) (started : os.Started) (H : Type) (enc : TypeId × Value → H) :
    ReturnsInHanded {} Tryd.checked os 5 .any (fun w args => (Rows.etherBackSpec.pre enc Tryd.prog Tryd.f5 [] false w args ∧ laidMetH Tryd.prog [("errors.errorType", Rows.laid_errors_errorType)] w) ∧ sizedMet enc Tryd.prog Tryd.f5 (OpenSpec.ofChange Rows.etherBackSpec) false w args)
      (Rows.etherBackSpec.post enc Tryd.prog Tryd.f5 false true false false) := by
  refine returnsInHanded_of_change_and (C := Tryd.checked) (X := fun w _ => laidMetH Tryd.prog [("errors.errorType", Rows.laid_errors_errorType)] w) (fun _ _ _ hh h => h.of_heap hh) own started (by kernel_rfl) Tryd.func5
    (ChangeSpec.witness_at (enc := enc) (C := Tryd.checked) (os := os) (X := fun w _ => laidMetH Tryd.prog [("errors.errorType", Rows.laid_errors_errorType)] w) false
      { World.holding Tryd.prog os ⟨#[], #[], []⟩ with heap := (World.holding Tryd.prog os ⟨#[], #[], []⟩).heap.modify 0 fun
        | .cells _ t frozen => .cells #[.iface 87 (.agg #[.pointer (some ⟨1, 41, none⟩)])] t frozen
        | o => o } #[.agg #[.int .u64 0, .int .u64 0, .bool false, .int .i64 0, .bool false, .int .i64 0, .int .i64 0, .string ByteArray.empty], .string ByteArray.empty] 8 rfl (by kernel_rfl) (by kernel_rfl) (by kernel_rfl) (by kernel_rfl) (by kernel_rfl) (laid_met os _)) ?_
  intro W base args ds gs before hval0 hW _ _ hL _
  have hval : ∀ (j : Nat) t v, Tryd.f5.params[j]? = some t → args[j]? = some v → Value.okWide Tryd.prog W .any base t v := hval0
  have hW' := hW
  obtain ⟨p, q, hA0, hV0, rfl, hfz, hnd⟩ := hW
  have hA : DataW.TrodAll enc Tryd.prog W 0 (fun _ => true) true Tryd.f5.params.toList args.toList ds p := hA0
  have hV : DataW.TrodVars enc Tryd.prog W (fun _ => true) [] gs q := hV0
  rw [Tryd.params5] at hA hval
  obtain ⟨v0, v1, d0, d1, p0, p1, rfl, rfl, rfl, h0, h1⟩ := trodAll_two hA
  obtain ⟨d0, s0, has0, pri0, dei0, vid0, ty0, b0, rfl, rfl, rfl, hd0, hs0, wa0, wb0, wp0, wv0, wt0, wz0⟩ := open_frame (hval 0 26 v0 rfl rfl) h0
  obtain ⟨a1, rfl, rfl, rfl, w1⟩ := open_string Tryd.underlying9 (hval 1 9 v1 rfl rfl) h1
  obtain ⟨rfl, rfl⟩ := trodVars_none hV
  have e1 : Rows.etherBackSpec.fn H ([frameD d0 s0 has0 pri0 dei0 vid0 ty0 b0, .lit (.string a1.data.toList)] ++ []) = { results := [.lit (.bool true)], args := [frameD d0 s0 has0 pri0 dei0 vid0 ty0 b0, .lit (.string a1.data.toList)] } := by simp [Rows.etherBackSpec]
  refine (walk d0 s0 has0 pri0 dei0 vid0 ty0 b0 a1 W (et_of_laid hL) hd0 hs0 (bounds_i64 wp0) (bounds_i64 wv0) (bounds_i64 wt0) wz0 w1).mono fun e W' ⟨he, hb⟩ => ?_
  subst he
  refine ⟨_, rfl, _, _, _, [], [], [], hW', ?_, ?_, ?_, hb.frame _, fun h => by cases h⟩
  · rw [e1]; exact trodAll_mk1 (shut_bool Tryd.underlying4 true)
  · rw [e1]; exact trodAll_mk2 (shut_frame d0 s0 has0 pri0 dei0 vid0 ty0 b0 wa0 wb0 wp0 wv0 wt0 wz0) (shut_string Tryd.underlying9 w1)
  · rw [e1]; rfl

theorem said : Rows.EtherBackSaid :=
  OpenClaim.holds_of_wide 5 Tryd.f5 rfl rfl rfl rfl rfl rfl rfl ⟨rfl, rfl, rfl, rfl, rfl⟩ rfl rfl rfl rfl rfl (by kernel_rfl) Tryd.func5 (by kernel_rfl)
    (of_decide_eq_true (by kernel_rfl)) (by unfold Func.isWrapper; rw [if_neg (of_decide_eq_false (by kernel_rfl))]; exact ⟨rfl, rfl⟩)
    (fun os started H enc _ => lifted os started H enc)

theorem plain (f : FuncId) (fn : Func) (hf : Tryd.pinned.checked.prog.funcNamed Rows.etherBackRow.func = some f) (hfn : Tryd.pinned.checked.prog.funcs[f]? = some fn) :
    true = Tryd.pinned.checked.prog.looks [] ∧ ∀ (j : Nat) t, fn.params[j]? = some t → Tryd.pinned.checked.prog.wantsStandIn t = false := by
  obtain rfl : f = 5 := Option.some.inj ((show Tryd.prog.funcNamed Rows.etherBackRow.func = some 5 by kernel_rfl).symm.trans hf) |>.symm
  obtain rfl : fn = Tryd.f5 := (Option.some.inj (Tryd.func5.symm.trans hfn)).symm
  refine ⟨by kernel_rfl, fun j t ht => ?_⟩
  rw [Tryd.params5] at ht
  have hm := Array.mem_of_getElem? ht
  simp only [List.mem_toArray, List.mem_cons, List.not_mem_nil, or_false] at hm
  rcases hm with rfl | rfl
  · exact (show Tryd.prog.wantsStandIn 26 = false by kernel_rfl)
  · exact (show Tryd.prog.wantsStandIn 9 = false by kernel_rfl)

theorem card : Rows.EtherBackCardSaid :=
  Claim7.holds_tied_plain_at .later [] _ _ _ _ said (fun _ h => by cases h) (by kernel_rfl) (fun _ h => by cases h) etherBack_row_tie rfl ⟨rfl, rfl⟩ (by kernel_rfl) rfl plain (by kernel_rfl)
end Go.Proofs.YtfndofbkfinnmaaDoor.etherBack
namespace Go.Proofs.YtfndofbkfinnmaaDoor
theorem etherBack_card_holds : Rows.EtherBackCardSaid := etherBack.card
end Go.Proofs.YtfndofbkfinnmaaDoor

