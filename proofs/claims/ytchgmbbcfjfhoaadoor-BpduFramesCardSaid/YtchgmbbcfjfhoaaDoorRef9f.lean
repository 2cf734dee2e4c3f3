/-
  The document's answer for frames with bridges' messages: the contracts of gangwayref09's Frame and Of; no cell that was there before has turned.
-/
import Derived.Test.YtchgmbbcfjfhoaaDoorRef9b
import Derived.Test.YtchgmbbcfjfhoaaDoorRef9e
import Derived.Test.YtchgmbbcfjfhoaaDoorBp6
import Derived.Test.YtchgmbbcfjfhoaaDoorRefOwn5
namespace Go.Proofs.YtchgmbbcfjfhoaaDoor
open Go.RowKit Go.Sort

set_option maxRecDepth 100000 in
set_option maxHeartbeats 4000000 in
theorem rframe_not (s : Int) (k : Int) (c p l f a x : Bool) (r R C B P A M H D : Int) (X : ByteArray) (E : Int) (w : World) (hE : (E != 0) = true)
    (k1 : Hid (∀ W, Calls Tryd.prog 10 #[.agg #[.int .i64 k, .bool c, .bool p, .bool l, .bool f, .bool a, .bool x, .int .i64 r, .int .u64 R, .int .i64 C, .int .u64 B, .int .i64 P, .int .i64 A, .int .i64 M, .int .i64 H, .int .i64 D]] W fun e W' => e = .returned (.tuple #[.string X, .int .i64 E]) ∧ Below W.heap.size W W')) :
    Calls Tryd.prog 17 #[.int .u64 s, .agg #[.int .i64 k, .bool c, .bool p, .bool l, .bool f, .bool a, .bool x, .int .i64 r, .int .u64 R, .int .i64 C, .int .u64 B, .int .i64 P, .int .i64 A, .int .i64 M, .int .i64 H, .int .i64 D]] w fun e w' => e = .returned (.tuple #[.agg #[.int .u64 0, .int .u64 0, .bool false, .int .i64 0, .bool false, .int .i64 0, .int .i64 0, .string ⟨#[]⟩], .int .i64 91]) ∧ Below w.heap.size w w' := by
  go_enter Tryd.func17, Tryd.ntmps17
  go_wp2_with fail
  refine (unhide k1 _).mono ?_
  rintro e w1 ⟨rfl, b1⟩
  have hb := bthen (alloc_then (alloc_below w _)) b1
  have hr := Below.row b1 (heap_alloc2_new w _ _)
  obtain ⟨c0, c1, c2, c3, c4, c5, c6, c7, f0, f1, f2, f3, f4, f5, f6, f7⟩ := cells8 hr
  have HR := hide hr
  clear b1 k1 hr
  go_wp2_with fail
  refine bodyPost_ret (v := .tuple #[.agg #[.int .u64 0, .int .u64 0, .bool false, .int .i64 0, .bool false, .int .i64 0, .int .i64 0, .string ⟨#[]⟩], .int .i64 91]) ?_ rfl ⟨rfl, below8 hb (Nat.le_succ _)⟩
  exact results_row2 rfl _ _ (w.heap.size + 1) 37 _ _ _ _ rfl rfl (set8 (unhide HR)) Tryd.underlying37 rfl (by kernel_rfl)
set_option maxRecDepth 100000 in
set_option maxHeartbeats 4000000 in
theorem rframe_own (s : Int) (k : Int) (c p l f a x : Bool) (r R C B P A M H D : Int) (X : ByteArray) (w : World) (k1 : Hid (∀ W, Calls Tryd.prog 10 #[.agg #[.int .i64 k, .bool c, .bool p, .bool l, .bool f, .bool a, .bool x, .int .i64 r, .int .u64 R, .int .i64 C, .int .u64 B, .int .i64 P, .int .i64 A, .int .i64 M, .int .i64 H, .int .i64 D]] W fun e W' => e = .returned (.tuple #[.string X, .int .i64 0]) ∧ Below W.heap.size W W'))
    (k2 : Hid (∀ W, Calls Tryd.prog 20 #[.int .u64 s] W fun e W' => e = .returned (.bool false) ∧ W' = W)) :
    Calls Tryd.prog 17 #[.int .u64 s, .agg #[.int .i64 k, .bool c, .bool p, .bool l, .bool f, .bool a, .bool x, .int .i64 r, .int .u64 R, .int .i64 C, .int .u64 B, .int .i64 P, .int .i64 A, .int .i64 M, .int .i64 H, .int .i64 D]] w fun e w' => e = .returned (.tuple #[.agg #[.int .u64 0, .int .u64 0, .bool false, .int .i64 0, .bool false, .int .i64 0, .int .i64 0, .string ⟨#[]⟩], .int .i64 91]) ∧ Below w.heap.size w w' := by
  go_enter Tryd.func17, Tryd.ntmps17
  go_wp2_with fail
  refine (unhide k1 _).mono ?_
  rintro e w1 ⟨rfl, b1⟩
  have hb := bthen (alloc_then (alloc_below w _)) b1
  have hr := Below.row b1 (heap_alloc2_new w _ _)
  obtain ⟨c0, c1, c2, c3, c4, c5, c6, c7, f0, f1, f2, f3, f4, f5, f6, f7⟩ := cells8 hr
  have HR := hide hr
  clear b1 k1 hr
  go_wp2_with fail
  refine (unhide k2 _).mono ?_
  rintro e w2 ⟨rfl, rfl⟩
  clear k2
  go_wp2_with fail
  refine bodyPost_ret (v := .tuple #[.agg #[.int .u64 0, .int .u64 0, .bool false, .int .i64 0, .bool false, .int .i64 0, .int .i64 0, .string ⟨#[]⟩], .int .i64 91]) ?_ rfl ⟨rfl, below8 hb (Nat.le_succ _)⟩
  exact results_row2 rfl _ _ (w.heap.size + 1) 37 _ _ _ _ rfl rfl (set8 (unhide HR)) Tryd.underlying37 rfl (by kernel_rfl)
set_option maxRecDepth 100000 in
set_option maxHeartbeats 4000000 in
theorem rframe_good (s : Int) (k : Int) (c p l f a x : Bool) (r R C B P A M H D : Int) (X : ByteArray) (w : World) (k1 : Hid (∀ W, Calls Tryd.prog 10 #[.agg #[.int .i64 k, .bool c, .bool p, .bool l, .bool f, .bool a, .bool x, .int .i64 r, .int .u64 R, .int .i64 C, .int .u64 B, .int .i64 P, .int .i64 A, .int .i64 M, .int .i64 H, .int .i64 D]] W fun e W' => e = .returned (.tuple #[.string X, .int .i64 0]) ∧ Below W.heap.size W W'))
    (k2 : Hid (∀ W, Calls Tryd.prog 20 #[.int .u64 s] W fun e W' => e = .returned (.bool true) ∧ W' = W)) :
    Calls Tryd.prog 17 #[.int .u64 s, .agg #[.int .i64 k, .bool c, .bool p, .bool l, .bool f, .bool a, .bool x, .int .i64 r, .int .u64 R, .int .i64 C, .int .u64 B, .int .i64 P, .int .i64 A, .int .i64 M, .int .i64 H, .int .i64 D]] w fun e w' => e = .returned (.tuple #[.agg #[.int .u64 1652522221568, .int .u64 s, .bool false, .int .i64 0, .bool false, .int .i64 0, .int .i64 0, .string X], .int .i64 0]) ∧ Below w.heap.size w w' := by
  go_enter Tryd.func17, Tryd.ntmps17
  go_wp2_with fail
  refine (unhide k1 _).mono ?_
  rintro e w1 ⟨rfl, b1⟩
  have hb := bthen (alloc_then (alloc_below w _)) b1
  have hr := Below.row b1 (heap_alloc2_new w _ _)
  obtain ⟨c0, c1, c2, c3, c4, c5, c6, c7, f0, f1, f2, f3, f4, f5, f6, f7⟩ := cells8 hr
  have HR := hide hr
  clear b1 k1 hr
  go_wp2_with fail
  refine (unhide k2 _).mono ?_
  rintro e w2 ⟨rfl, rfl⟩
  clear k2
  go_wp2_with fail
  refine bodyPost_ret (v := .tuple #[.agg #[.int .u64 1652522221568, .int .u64 s, .bool false, .int .i64 0, .bool false, .int .i64 0, .int .i64 0, .string X], .int .i64 0]) ?_ rfl ⟨rfl, below8 hb (Nat.le_succ _)⟩
  exact results_row2 rfl _ _ (w.heap.size + 1) 37 _ _ _ _ rfl rfl (set8 (unhide HR)) Tryd.underlying37 rfl (by kernel_rfl)
theorem rframe_any (s : Nat) (b : Bp) (w : World) (hs : s < 18446744073709551616) (hf : b.fits) :
    Calls Tryd.prog 17 #[.int .u64 (s : Int), b.val] w fun e w' => e = .returned (.tuple #[(framed s b).1.val, .int .i64 (framed s b).2]) ∧ Below w.heap.size w w' := by
  have k := fun W => rbuild_any b W hf
  have kO := fun W => rown s W hs
  unfold framed
  by_cases h : b.check = 0
  · rw [h] at k
    unfold Bp.built at k
    rw [if_pos h] at k
    cases ho : ownH s
    · rw [ho] at kO
      rw [if_neg (by simp)]
      exact rframe_own s b.kind b.change b.propose b.learn b.forward b.agree b.ack b.role b.root b.cost b.bridge b.port b.age b.maxAge b.hello b.delay _ w (hide k) (hide kO)
    · rw [ho] at kO
      rw [if_pos ⟨h, rfl⟩]
      exact rframe_good s b.kind b.change b.propose b.learn b.forward b.agree b.ack b.role b.root b.cost b.bridge b.port b.age b.maxAge b.hello b.delay _ w (hide k) (hide kO)
  · rw [if_neg (fun q => h q.1)]
    exact rframe_not s b.kind b.change b.propose b.learn b.forward b.agree b.ack b.role b.root b.cost b.bridge b.port b.age b.maxAge b.hello b.delay _ _ w (by simpa using h) (hide k)
set_option maxRecDepth 100000 in
set_option maxHeartbeats 4000000 in
theorem rof_dst (d s : Int) (has : Bool) (pri : Int) (dei : Bool) (vid ty : Int) (Y : ByteArray) (k : Int) (c p l f a x : Bool) (r R C B P A M H D : Int) (E : Int) (w : World) (h1 : (d != 1652522221568) = true) 
    (k1 : Hid (∀ W, Calls Tryd.prog 15 #[.string Y] W fun e W' => e = .returned (.tuple #[.agg #[.int .i64 k, .bool c, .bool p, .bool l, .bool f, .bool a, .bool x, .int .i64 r, .int .u64 R, .int .i64 C, .int .u64 B, .int .i64 P, .int .i64 A, .int .i64 M, .int .i64 H, .int .i64 D], .int .i64 E]) ∧ Below W.heap.size W W')) :
    Calls Tryd.prog 19 #[.agg #[.int .u64 d, .int .u64 s, .bool has, .int .i64 pri, .bool dei, .int .i64 vid, .int .i64 ty, .string Y]] w fun e w' => e = .returned (.tuple #[.agg #[.int .i64 0, .bool false, .bool false, .bool false, .bool false, .bool false, .bool false, .int .i64 0, .int .u64 0, .int .i64 0, .int .u64 0, .int .i64 0, .int .i64 0, .int .i64 0, .int .i64 0, .int .i64 0], .bool false]) ∧ Below w.heap.size w w' := by
  go_enter Tryd.func19, Tryd.ntmps19
  go_wp2_with fail
  refine (unhide k1 _).mono ?_
  rintro e w1 ⟨rfl, b1⟩
  have hb := hide (alloc_then (o := .cells #[.int .i64 k, .bool c, .bool p, .bool l, .bool f, .bool a, .bool x, .int .i64 r, .int .u64 R, .int .i64 C, .int .u64 B, .int .i64 P, .int .i64 A, .int .i64 M, .int .i64 H, .int .i64 D] 24) (bthen (alloc_then (alloc_below w _)) b1))
  have hr := Below.row (alloc_below w1 (.cells #[.int .i64 k, .bool c, .bool p, .bool l, .bool f, .bool a, .bool x, .int .i64 r, .int .u64 R, .int .i64 C, .int .u64 B, .int .i64 P, .int .i64 A, .int .i64 M, .int .i64 H, .int .i64 D] 24)) (Below.row b1 (heap_alloc2_new w _ _))
  have hq := Below.row (alloc_below w1 (.cells #[.int .i64 k, .bool c, .bool p, .bool l, .bool f, .bool a, .bool x, .int .i64 r, .int .u64 R, .int .i64 C, .int .u64 B, .int .i64 P, .int .i64 A, .int .i64 M, .int .i64 H, .int .i64 D] 24)) (Below.row b1 (heap_alloc2_old w _ _))
  have HM := hide (heap_alloc_new w1 (.cells #[.int .i64 k, .bool c, .bool p, .bool l, .bool f, .bool a, .bool x, .int .i64 r, .int .u64 R, .int .i64 C, .int .u64 B, .int .i64 P, .int .i64 A, .int .i64 M, .int .i64 H, .int .i64 D] 24))
  clear b1 k1
  obtain ⟨c0, c1, c2, c3, c4, c5, c6, c7, c8, c9, c10, c11, c12, c13, c14, c15, g0, g1, g2, g3, g4, g5, g6, g7, g8, g9, g10, g11, g12, g13, g14, g15⟩ := cells16 hr
  obtain ⟨q0, q1, q2, q3, q4, q5, q6, q7, _⟩ := cells8 hq
  have HR := hide hr
  clear hr hq
  go_wp2_with (first | (refine load_want 24 _ rfl (w1.heap.size) rfl rfl 24 _ _ _ (unhide HM) Tryd.underlying24 rfl (by kernel_rfl) ?_; simp only [Act.put, List.setIfInBounds_toArray, List.set_cons_zero, List.set_cons_succ]))
  refine bodyPost_ret (v := .tuple #[.agg #[.int .i64 0, .bool false, .bool false, .bool false, .bool false, .bool false, .bool false, .int .i64 0, .int .u64 0, .int .i64 0, .int .u64 0, .int .i64 0, .int .i64 0, .int .i64 0, .int .i64 0, .int .i64 0], .bool false]) ?_ rfl ⟨rfl, below16 (unhide hb) (Nat.le_succ _)⟩
  exact results_row2 rfl _ _ (w.heap.size + 1) 24 _ _ _ _ rfl rfl (set16 (unhide HR)) Tryd.underlying24 rfl (by kernel_rfl)
set_option maxRecDepth 100000 in
set_option maxHeartbeats 4000000 in
theorem rof_tag (d s : Int) (has : Bool) (pri : Int) (dei : Bool) (vid ty : Int) (Y : ByteArray) (k : Int) (c p l f a x : Bool) (r R C B P A M H D : Int) (E : Int) (w : World) (h1 : (d != 1652522221568) = false) (h2 : has = true) 
    (k1 : Hid (∀ W, Calls Tryd.prog 15 #[.string Y] W fun e W' => e = .returned (.tuple #[.agg #[.int .i64 k, .bool c, .bool p, .bool l, .bool f, .bool a, .bool x, .int .i64 r, .int .u64 R, .int .i64 C, .int .u64 B, .int .i64 P, .int .i64 A, .int .i64 M, .int .i64 H, .int .i64 D], .int .i64 E]) ∧ Below W.heap.size W W')) :
    Calls Tryd.prog 19 #[.agg #[.int .u64 d, .int .u64 s, .bool has, .int .i64 pri, .bool dei, .int .i64 vid, .int .i64 ty, .string Y]] w fun e w' => e = .returned (.tuple #[.agg #[.int .i64 0, .bool false, .bool false, .bool false, .bool false, .bool false, .bool false, .int .i64 0, .int .u64 0, .int .i64 0, .int .u64 0, .int .i64 0, .int .i64 0, .int .i64 0, .int .i64 0, .int .i64 0], .bool false]) ∧ Below w.heap.size w w' := by
  go_enter Tryd.func19, Tryd.ntmps19
  go_wp2_with fail
  refine (unhide k1 _).mono ?_
  rintro e w1 ⟨rfl, b1⟩
  have hb := hide (alloc_then (o := .cells #[.int .i64 k, .bool c, .bool p, .bool l, .bool f, .bool a, .bool x, .int .i64 r, .int .u64 R, .int .i64 C, .int .u64 B, .int .i64 P, .int .i64 A, .int .i64 M, .int .i64 H, .int .i64 D] 24) (bthen (alloc_then (alloc_below w _)) b1))
  have hr := Below.row (alloc_below w1 (.cells #[.int .i64 k, .bool c, .bool p, .bool l, .bool f, .bool a, .bool x, .int .i64 r, .int .u64 R, .int .i64 C, .int .u64 B, .int .i64 P, .int .i64 A, .int .i64 M, .int .i64 H, .int .i64 D] 24)) (Below.row b1 (heap_alloc2_new w _ _))
  have hq := Below.row (alloc_below w1 (.cells #[.int .i64 k, .bool c, .bool p, .bool l, .bool f, .bool a, .bool x, .int .i64 r, .int .u64 R, .int .i64 C, .int .u64 B, .int .i64 P, .int .i64 A, .int .i64 M, .int .i64 H, .int .i64 D] 24)) (Below.row b1 (heap_alloc2_old w _ _))
  have HM := hide (heap_alloc_new w1 (.cells #[.int .i64 k, .bool c, .bool p, .bool l, .bool f, .bool a, .bool x, .int .i64 r, .int .u64 R, .int .i64 C, .int .u64 B, .int .i64 P, .int .i64 A, .int .i64 M, .int .i64 H, .int .i64 D] 24))
  clear b1 k1
  obtain ⟨c0, c1, c2, c3, c4, c5, c6, c7, c8, c9, c10, c11, c12, c13, c14, c15, g0, g1, g2, g3, g4, g5, g6, g7, g8, g9, g10, g11, g12, g13, g14, g15⟩ := cells16 hr
  obtain ⟨q0, q1, q2, q3, q4, q5, q6, q7, _⟩ := cells8 hq
  have HR := hide hr
  clear hr hq
  go_wp2_with (first | (refine load_want 24 _ rfl (w1.heap.size) rfl rfl 24 _ _ _ (unhide HM) Tryd.underlying24 rfl (by kernel_rfl) ?_; simp only [Act.put, List.setIfInBounds_toArray, List.set_cons_zero, List.set_cons_succ]))
  refine bodyPost_ret (v := .tuple #[.agg #[.int .i64 0, .bool false, .bool false, .bool false, .bool false, .bool false, .bool false, .int .i64 0, .int .u64 0, .int .i64 0, .int .u64 0, .int .i64 0, .int .i64 0, .int .i64 0, .int .i64 0, .int .i64 0], .bool false]) ?_ rfl ⟨rfl, below16 (unhide hb) (Nat.le_succ _)⟩
  exact results_row2 rfl _ _ (w.heap.size + 1) 24 _ _ _ _ rfl rfl (set16 (unhide HR)) Tryd.underlying24 rfl (by kernel_rfl)
set_option maxRecDepth 100000 in
set_option maxHeartbeats 4000000 in
theorem rof_type (d s : Int) (has : Bool) (pri : Int) (dei : Bool) (vid ty : Int) (Y : ByteArray) (k : Int) (c p l f a x : Bool) (r R C B P A M H D : Int) (E : Int) (w : World) (h1 : (d != 1652522221568) = false) (h2 : has = false) (h3 : (ty != 0) = true) 
    (k1 : Hid (∀ W, Calls Tryd.prog 15 #[.string Y] W fun e W' => e = .returned (.tuple #[.agg #[.int .i64 k, .bool c, .bool p, .bool l, .bool f, .bool a, .bool x, .int .i64 r, .int .u64 R, .int .i64 C, .int .u64 B, .int .i64 P, .int .i64 A, .int .i64 M, .int .i64 H, .int .i64 D], .int .i64 E]) ∧ Below W.heap.size W W')) :
    Calls Tryd.prog 19 #[.agg #[.int .u64 d, .int .u64 s, .bool has, .int .i64 pri, .bool dei, .int .i64 vid, .int .i64 ty, .string Y]] w fun e w' => e = .returned (.tuple #[.agg #[.int .i64 0, .bool false, .bool false, .bool false, .bool false, .bool false, .bool false, .int .i64 0, .int .u64 0, .int .i64 0, .int .u64 0, .int .i64 0, .int .i64 0, .int .i64 0, .int .i64 0, .int .i64 0], .bool false]) ∧ Below w.heap.size w w' := by
  go_enter Tryd.func19, Tryd.ntmps19
  go_wp2_with fail
  refine (unhide k1 _).mono ?_
  rintro e w1 ⟨rfl, b1⟩
  have hb := hide (alloc_then (o := .cells #[.int .i64 k, .bool c, .bool p, .bool l, .bool f, .bool a, .bool x, .int .i64 r, .int .u64 R, .int .i64 C, .int .u64 B, .int .i64 P, .int .i64 A, .int .i64 M, .int .i64 H, .int .i64 D] 24) (bthen (alloc_then (alloc_below w _)) b1))
  have hr := Below.row (alloc_below w1 (.cells #[.int .i64 k, .bool c, .bool p, .bool l, .bool f, .bool a, .bool x, .int .i64 r, .int .u64 R, .int .i64 C, .int .u64 B, .int .i64 P, .int .i64 A, .int .i64 M, .int .i64 H, .int .i64 D] 24)) (Below.row b1 (heap_alloc2_new w _ _))
  have hq := Below.row (alloc_below w1 (.cells #[.int .i64 k, .bool c, .bool p, .bool l, .bool f, .bool a, .bool x, .int .i64 r, .int .u64 R, .int .i64 C, .int .u64 B, .int .i64 P, .int .i64 A, .int .i64 M, .int .i64 H, .int .i64 D] 24)) (Below.row b1 (heap_alloc2_old w _ _))
  have HM := hide (heap_alloc_new w1 (.cells #[.int .i64 k, .bool c, .bool p, .bool l, .bool f, .bool a, .bool x, .int .i64 r, .int .u64 R, .int .i64 C, .int .u64 B, .int .i64 P, .int .i64 A, .int .i64 M, .int .i64 H, .int .i64 D] 24))
  clear b1 k1
  obtain ⟨c0, c1, c2, c3, c4, c5, c6, c7, c8, c9, c10, c11, c12, c13, c14, c15, g0, g1, g2, g3, g4, g5, g6, g7, g8, g9, g10, g11, g12, g13, g14, g15⟩ := cells16 hr
  obtain ⟨q0, q1, q2, q3, q4, q5, q6, q7, _⟩ := cells8 hq
  have HR := hide hr
  clear hr hq
  go_wp2_with (first | (refine load_want 24 _ rfl (w1.heap.size) rfl rfl 24 _ _ _ (unhide HM) Tryd.underlying24 rfl (by kernel_rfl) ?_; simp only [Act.put, List.setIfInBounds_toArray, List.set_cons_zero, List.set_cons_succ]))
  refine bodyPost_ret (v := .tuple #[.agg #[.int .i64 0, .bool false, .bool false, .bool false, .bool false, .bool false, .bool false, .int .i64 0, .int .u64 0, .int .i64 0, .int .u64 0, .int .i64 0, .int .i64 0, .int .i64 0, .int .i64 0, .int .i64 0], .bool false]) ?_ rfl ⟨rfl, below16 (unhide hb) (Nat.le_succ _)⟩
  exact results_row2 rfl _ _ (w.heap.size + 1) 24 _ _ _ _ rfl rfl (set16 (unhide HR)) Tryd.underlying24 rfl (by kernel_rfl)
set_option maxRecDepth 100000 in
set_option maxHeartbeats 4000000 in
theorem rof_none (d s : Int) (has : Bool) (pri : Int) (dei : Bool) (vid ty : Int) (Y : ByteArray) (k : Int) (c p l f a x : Bool) (r R C B P A M H D : Int) (E : Int) (w : World) (h1 : (d != 1652522221568) = false) (h2 : has = false) (h3 : (ty != 0) = false) (h4 : (E != 0) = true) 
    (k1 : Hid (∀ W, Calls Tryd.prog 15 #[.string Y] W fun e W' => e = .returned (.tuple #[.agg #[.int .i64 k, .bool c, .bool p, .bool l, .bool f, .bool a, .bool x, .int .i64 r, .int .u64 R, .int .i64 C, .int .u64 B, .int .i64 P, .int .i64 A, .int .i64 M, .int .i64 H, .int .i64 D], .int .i64 E]) ∧ Below W.heap.size W W')) :
    Calls Tryd.prog 19 #[.agg #[.int .u64 d, .int .u64 s, .bool has, .int .i64 pri, .bool dei, .int .i64 vid, .int .i64 ty, .string Y]] w fun e w' => e = .returned (.tuple #[.agg #[.int .i64 0, .bool false, .bool false, .bool false, .bool false, .bool false, .bool false, .int .i64 0, .int .u64 0, .int .i64 0, .int .u64 0, .int .i64 0, .int .i64 0, .int .i64 0, .int .i64 0, .int .i64 0], .bool false]) ∧ Below w.heap.size w w' := by
  go_enter Tryd.func19, Tryd.ntmps19
  go_wp2_with fail
  refine (unhide k1 _).mono ?_
  rintro e w1 ⟨rfl, b1⟩
  have hb := hide (alloc_then (o := .cells #[.int .i64 k, .bool c, .bool p, .bool l, .bool f, .bool a, .bool x, .int .i64 r, .int .u64 R, .int .i64 C, .int .u64 B, .int .i64 P, .int .i64 A, .int .i64 M, .int .i64 H, .int .i64 D] 24) (bthen (alloc_then (alloc_below w _)) b1))
  have hr := Below.row (alloc_below w1 (.cells #[.int .i64 k, .bool c, .bool p, .bool l, .bool f, .bool a, .bool x, .int .i64 r, .int .u64 R, .int .i64 C, .int .u64 B, .int .i64 P, .int .i64 A, .int .i64 M, .int .i64 H, .int .i64 D] 24)) (Below.row b1 (heap_alloc2_new w _ _))
  have hq := Below.row (alloc_below w1 (.cells #[.int .i64 k, .bool c, .bool p, .bool l, .bool f, .bool a, .bool x, .int .i64 r, .int .u64 R, .int .i64 C, .int .u64 B, .int .i64 P, .int .i64 A, .int .i64 M, .int .i64 H, .int .i64 D] 24)) (Below.row b1 (heap_alloc2_old w _ _))
  have HM := hide (heap_alloc_new w1 (.cells #[.int .i64 k, .bool c, .bool p, .bool l, .bool f, .bool a, .bool x, .int .i64 r, .int .u64 R, .int .i64 C, .int .u64 B, .int .i64 P, .int .i64 A, .int .i64 M, .int .i64 H, .int .i64 D] 24))
  clear b1 k1
  obtain ⟨c0, c1, c2, c3, c4, c5, c6, c7, c8, c9, c10, c11, c12, c13, c14, c15, g0, g1, g2, g3, g4, g5, g6, g7, g8, g9, g10, g11, g12, g13, g14, g15⟩ := cells16 hr
  obtain ⟨q0, q1, q2, q3, q4, q5, q6, q7, _⟩ := cells8 hq
  have HR := hide hr
  clear hr hq
  go_wp2_with (first | (refine load_want 24 _ rfl (w1.heap.size) rfl rfl 24 _ _ _ (unhide HM) Tryd.underlying24 rfl (by kernel_rfl) ?_; simp only [Act.put, List.setIfInBounds_toArray, List.set_cons_zero, List.set_cons_succ]))
  refine bodyPost_ret (v := .tuple #[.agg #[.int .i64 0, .bool false, .bool false, .bool false, .bool false, .bool false, .bool false, .int .i64 0, .int .u64 0, .int .i64 0, .int .u64 0, .int .i64 0, .int .i64 0, .int .i64 0, .int .i64 0, .int .i64 0], .bool false]) ?_ rfl ⟨rfl, below16 (unhide hb) (Nat.le_succ _)⟩
  exact results_row2 rfl _ _ (w.heap.size + 1) 24 _ _ _ _ rfl rfl (set16 (unhide HR)) Tryd.underlying24 rfl (by kernel_rfl)
set_option maxRecDepth 100000 in
set_option maxHeartbeats 4000000 in
theorem rof_good (d s : Int) (has : Bool) (pri : Int) (dei : Bool) (vid ty : Int) (Y : ByteArray) (k : Int) (c p l f a x : Bool) (r R C B P A M H D : Int) (E : Int) (w : World) (h1 : (d != 1652522221568) = false) (h2 : has = false) (h3 : (ty != 0) = false) (h4 : (E != 0) = false) 
    (k1 : Hid (∀ W, Calls Tryd.prog 15 #[.string Y] W fun e W' => e = .returned (.tuple #[.agg #[.int .i64 k, .bool c, .bool p, .bool l, .bool f, .bool a, .bool x, .int .i64 r, .int .u64 R, .int .i64 C, .int .u64 B, .int .i64 P, .int .i64 A, .int .i64 M, .int .i64 H, .int .i64 D], .int .i64 E]) ∧ Below W.heap.size W W')) :
    Calls Tryd.prog 19 #[.agg #[.int .u64 d, .int .u64 s, .bool has, .int .i64 pri, .bool dei, .int .i64 vid, .int .i64 ty, .string Y]] w fun e w' => e = .returned (.tuple #[.agg #[.int .i64 k, .bool c, .bool p, .bool l, .bool f, .bool a, .bool x, .int .i64 r, .int .u64 R, .int .i64 C, .int .u64 B, .int .i64 P, .int .i64 A, .int .i64 M, .int .i64 H, .int .i64 D], .bool true]) ∧ Below w.heap.size w w' := by
  go_enter Tryd.func19, Tryd.ntmps19
  go_wp2_with fail
  refine (unhide k1 _).mono ?_
  rintro e w1 ⟨rfl, b1⟩
  have hb := hide (alloc_then (o := .cells #[.int .i64 k, .bool c, .bool p, .bool l, .bool f, .bool a, .bool x, .int .i64 r, .int .u64 R, .int .i64 C, .int .u64 B, .int .i64 P, .int .i64 A, .int .i64 M, .int .i64 H, .int .i64 D] 24) (bthen (alloc_then (alloc_below w _)) b1))
  have hr := Below.row (alloc_below w1 (.cells #[.int .i64 k, .bool c, .bool p, .bool l, .bool f, .bool a, .bool x, .int .i64 r, .int .u64 R, .int .i64 C, .int .u64 B, .int .i64 P, .int .i64 A, .int .i64 M, .int .i64 H, .int .i64 D] 24)) (Below.row b1 (heap_alloc2_new w _ _))
  have hq := Below.row (alloc_below w1 (.cells #[.int .i64 k, .bool c, .bool p, .bool l, .bool f, .bool a, .bool x, .int .i64 r, .int .u64 R, .int .i64 C, .int .u64 B, .int .i64 P, .int .i64 A, .int .i64 M, .int .i64 H, .int .i64 D] 24)) (Below.row b1 (heap_alloc2_old w _ _))
  have HM := hide (heap_alloc_new w1 (.cells #[.int .i64 k, .bool c, .bool p, .bool l, .bool f, .bool a, .bool x, .int .i64 r, .int .u64 R, .int .i64 C, .int .u64 B, .int .i64 P, .int .i64 A, .int .i64 M, .int .i64 H, .int .i64 D] 24))
  clear b1 k1
  obtain ⟨c0, c1, c2, c3, c4, c5, c6, c7, c8, c9, c10, c11, c12, c13, c14, c15, g0, g1, g2, g3, g4, g5, g6, g7, g8, g9, g10, g11, g12, g13, g14, g15⟩ := cells16 hr
  obtain ⟨q0, q1, q2, q3, q4, q5, q6, q7, _⟩ := cells8 hq
  have HR := hide hr
  clear hr hq
  go_wp2_with (first | (refine load_want 24 _ rfl (w1.heap.size) rfl rfl 24 _ _ _ (unhide HM) Tryd.underlying24 rfl (by kernel_rfl) ?_; simp only [Act.put, List.setIfInBounds_toArray, List.set_cons_zero, List.set_cons_succ]))
  refine bodyPost_ret (v := .tuple #[.agg #[.int .i64 k, .bool c, .bool p, .bool l, .bool f, .bool a, .bool x, .int .i64 r, .int .u64 R, .int .i64 C, .int .u64 B, .int .i64 P, .int .i64 A, .int .i64 M, .int .i64 H, .int .i64 D], .bool true]) ?_ rfl ⟨rfl, below16 (unhide hb) (Nat.le_succ _)⟩
  exact results_row2 rfl _ _ (w.heap.size + 1) 24 _ _ _ _ rfl rfl (set16 (unhide HR)) Tryd.underlying24 rfl (by kernel_rfl)
theorem rof_any (f : Fr) (w : World) (hl : f.body.length ≤ 10000) : Calls Tryd.prog 19 #[f.val] w fun e w' => e = .returned (.tuple #[(ofFr f).1.val, .bool (ofFr f).2]) ∧ Below w.heap.size w w' := by
  have k := hide fun W => rparse_any f.body W hl
  have pd := (Bp.parsed f.body).1
  unfold ofFr
  by_cases h : f.dst = 1652522221568
  · have q1 : ((f.dst : Int) != 1652522221568) = false := by rw [h]; rfl
    cases hh : f.has
    · by_cases ht : f.ty = 0
      · rw [if_pos ⟨h, rfl, ht⟩]
        have q3 : (f.ty != 0) = false := by rw [ht]; rfl
        generalize Bp.parse f.body = r at *
        obtain ⟨m, q⟩ := r
        simp only at pd k ⊢
        rcases pd with ⟨e, _⟩ | ⟨e, rfl⟩
        · subst e
          exact rof_good f.dst f.src f.has f.pri f.dei f.vid f.ty (bs f.body) _ _ _ _ _ _ _ _ _ _ _ _ _ _ _ _ 0 w q1 hh q3 rfl k
        · have q0 : (q == 0) = false := by rcases e with rfl | rfl <;> rfl
          rw [q0]
          exact rof_none f.dst f.src f.has f.pri f.dei f.vid f.ty (bs f.body) _ _ _ _ _ _ _ _ _ _ _ _ _ _ _ _ q w q1 hh q3 (by rcases e with rfl | rfl <;> rfl) k
      · rw [if_neg (fun q => ht q.2.2)]
        exact rof_type f.dst f.src f.has f.pri f.dei f.vid f.ty (bs f.body) _ _ _ _ _ _ _ _ _ _ _ _ _ _ _ _ _ w q1 hh (by simpa using ht) k
    · rw [if_neg (by simp)]
      exact rof_tag f.dst f.src f.has f.pri f.dei f.vid f.ty (bs f.body) _ _ _ _ _ _ _ _ _ _ _ _ _ _ _ _ _ w q1 hh k
  · rw [if_neg (fun q => h q.1)]
    exact rof_dst f.dst f.src f.has f.pri f.dei f.vid f.ty (bs f.body) _ _ _ _ _ _ _ _ _ _ _ _ _ _ _ _ _ w (by rw [bne_iff_ne]; omega) k
end Go.Proofs.YtchgmbbcfjfhoaaDoor
