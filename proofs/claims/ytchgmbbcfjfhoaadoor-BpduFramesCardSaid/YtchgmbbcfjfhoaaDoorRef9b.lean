/-
  The document's answer for bridges' messages: the contracts of gangwayref09's Check and Build; no cell that was there before has turned.
-/
import Derived.Test.YtchgmbbcfjfhoaaDoorRef9
import Derived.Test.YtchgmbbcfjfhoaaDoorBp2
namespace Go.Proofs.YtchgmbbcfjfhoaaDoor
open Go.RowKit Go.Sort

theorem rcheck_any (b : Bp) (w : World) : Calls Tryd.prog 13 #[b.val] w fun e w' => e = .returned (.int .i64 b.check) ∧ Below w.heap.size w w' := by
  have hroom : (decide (0 ≤ b.role) && decide (b.role ≤ 3) && decide (0 ≤ b.cost) && decide (b.cost ≤ 4294967295) && decide (0 ≤ b.port ∧ b.port ≤ 65535) && decide (0 ≤ b.age ∧ b.age ≤ 65535) && decide (0 ≤ b.maxAge ∧ b.maxAge ≤ 65535) && decide (0 ≤ b.hello ∧ b.hello ≤ 65535) && decide (0 ≤ b.delay ∧ b.delay ≤ 65535)) = decide b.room := by
    unfold Bp.room
    simp only [Bool.decide_and, Bool.and_assoc]
  refine rcheck_at b.kind b.change b.propose b.learn b.forward b.agree b.ack b.role b.root b.cost b.bridge b.port b.age b.maxAge b.hello b.delay (decide (b.kind = 128 ∧ b.change = false ∧ b.propose = false ∧ b.learn = false ∧ b.forward = false ∧ b.agree = false ∧ b.ack = false ∧ b.role = 0 ∧ b.root = 0 ∧ b.cost = 0 ∧ b.bridge = 0 ∧ b.port = 0 ∧ b.age = 0 ∧ b.maxAge = 0 ∧ b.hello = 0 ∧ b.delay = 0)) (decide b.room) (decide b.few) _ _ _ _ _ b.check w hroom
    (hide fun W => word_any _ W) (hide fun W => word_any _ W) (hide fun W => word_any _ W) (hide fun W => word_any _ W) (hide fun W => word_any _ W)
    (fun W => eql_bp b.kind b.change b.propose b.learn b.forward b.agree b.ack b.role b.root b.cost b.bridge b.port b.age b.maxAge b.hello b.delay 128 false false false false false false 0 0 0 0 0 0 0 0 0 _ (decide_eq_decide.2 (by simp only [Int.natCast_eq_zero])) W)
    (fun W => eql_bp b.kind b.change b.propose b.learn b.forward b.agree b.ack b.role b.root b.cost b.bridge b.port b.age b.maxAge b.hello b.delay b.kind b.change false false false false b.ack 0 b.root b.cost b.bridge b.port b.age b.maxAge b.hello b.delay _ (decide_eq_decide.2 (by unfold Bp.few; constructor <;> (intro q; simp_all))) W) ?_
  unfold Bp.check Bp.good
  by_cases h : b.kind = 128
  · left
    refine ⟨h, ?_⟩
    rw [if_pos h]
    have e : (decide (b.kind = 128 ∧ b.change = false ∧ b.propose = false ∧ b.learn = false ∧ b.forward = false ∧ b.agree = false ∧ b.ack = false ∧ b.role = 0 ∧ b.root = 0 ∧ b.cost = 0 ∧ b.bridge = 0 ∧ b.port = 0 ∧ b.age = 0 ∧ b.maxAge = 0 ∧ b.hello = 0 ∧ b.delay = 0)) = decide (b.change = false ∧ b.propose = false ∧ b.learn = false ∧ b.forward = false ∧ b.agree = false ∧ b.ack = false ∧ b.role = 0 ∧ b.root = 0 ∧ b.cost = 0 ∧ b.bridge = 0 ∧ b.port = 0 ∧ b.age = 0 ∧ b.maxAge = 0 ∧ b.hello = 0 ∧ b.delay = 0) := decide_eq_decide.2 ⟨fun q => q.2, fun q => ⟨h, q⟩⟩
    rw [e]
  · right
    rw [if_neg h]
    by_cases h0 : b.kind = 0
    · left
      rw [if_pos h0]
      exact ⟨h0, by rw [Bool.decide_and]⟩
    · right
      rw [if_neg h0]
      by_cases h2 : b.kind = 2
      · left
        rw [if_pos h2]
        exact ⟨h2, rfl⟩
      · right
        rw [if_neg h2]
        exact ⟨⟨by simpa using h, by simpa using h0, by simpa using h2⟩, rfl⟩
set_option maxRecDepth 100000 in
set_option maxHeartbeats 4000000 in
theorem rbuild_not (k : Int) (c p l f a x : Bool) (r R C B P A M H D : Int) (E : Int) (w : World) (k1 : Hid (∀ W, Calls Tryd.prog 13 #[.agg #[.int .i64 k, .bool c, .bool p, .bool l, .bool f, .bool a, .bool x, .int .i64 r, .int .u64 R, .int .i64 C, .int .u64 B, .int .i64 P, .int .i64 A, .int .i64 M, .int .i64 H, .int .i64 D]] W fun e W' => e = .returned (.int .i64 E) ∧ Below W.heap.size W W'))
    (hE : (E != 0) = true) :
    Calls Tryd.prog 10 #[.agg #[.int .i64 k, .bool c, .bool p, .bool l, .bool f, .bool a, .bool x, .int .i64 r, .int .u64 R, .int .i64 C, .int .u64 B, .int .i64 P, .int .i64 A, .int .i64 M, .int .i64 H, .int .i64 D]] w fun e w' => e = .returned (.tuple #[.string ⟨#[]⟩, .int .i64 E]) ∧ Below w.heap.size w w' := by
  go_enter Tryd.func10, Tryd.ntmps10
  go_wp2_with fail
  refine (unhide k1 _).mono ?_
  rintro e w1 ⟨rfl, b1⟩
  clear k1
  have hb := hide (bthen (alloc_below w _) b1)
  clear b1
  go_wp2_with fail
  go_ret2
  exact ⟨rfl, unhide hb⟩
set_option maxRecDepth 100000 in
set_option maxHeartbeats 4000000 in
theorem rbuild_turn (c p l f a x : Bool) (r R C B P A M H D : Int) (X : ByteArray) (w : World) (k1 : Hid (∀ W, Calls Tryd.prog 13 #[.agg #[.int .i64 128, .bool c, .bool p, .bool l, .bool f, .bool a, .bool x, .int .i64 r, .int .u64 R, .int .i64 C, .int .u64 B, .int .i64 P, .int .i64 A, .int .i64 M, .int .i64 H, .int .i64 D]] W fun e W' => e = .returned (.int .i64 0) ∧ Below W.heap.size W W'))
    (g : ∀ W, (Op.stringOp .add ⟨#[66, 66, 3, 0, 0]⟩ ⟨#[0, 128]⟩).run Tryd.prog W = .ok (.string X) W) :
    Calls Tryd.prog 10 #[.agg #[.int .i64 128, .bool c, .bool p, .bool l, .bool f, .bool a, .bool x, .int .i64 r, .int .u64 R, .int .i64 C, .int .u64 B, .int .i64 P, .int .i64 A, .int .i64 M, .int .i64 H, .int .i64 D]] w fun e w' => e = .returned (.tuple #[.string X, .int .i64 0]) ∧ Below w.heap.size w w' := by
  go_enter Tryd.func10, Tryd.ntmps10
  go_wp2_with fail
  refine (unhide k1 _).mono ?_
  rintro e w1 ⟨rfl, b1⟩
  clear k1
  have hb := hide (bthen (alloc_below w _) b1)
  have hr := Below.row b1 (heap_alloc_new w _)
  obtain ⟨c0, c1, c2, c3, c4, c5, c6, c7, c8, c9, c10, c11, c12, c13, c14, c15, _⟩ := cells16 hr
  have HR := hide hr
  clear b1 hr
  go_wp2_with fail
  go_ret2
  exact ⟨rfl, unhide hb⟩
set_option maxRecDepth 100000 in
set_option maxHeartbeats 4000000 in
theorem rbuild_conf (c p l f a x : Bool) (r R C B P A M H D : Int) (V v1 v2 v3 v4 v5 v6 r4 s1 s2 s3 s4 s5 : Int) (S0 S1 S2 S3 S4 S5 S6 S7 S8 X1 X2 X3 X4 X5 X6 X7 X8 Z1 Z2 : ByteArray) (w : World) (k1 : Hid (∀ W, Calls Tryd.prog 13 #[.agg #[.int .i64 0, .bool c, .bool p, .bool l, .bool f, .bool a, .bool x, .int .i64 r, .int .u64 R, .int .i64 C, .int .u64 B, .int .i64 P, .int .i64 A, .int .i64 M, .int .i64 H, .int .i64 D]] W fun e W' => e = .returned (.int .i64 0) ∧ Below W.heap.size W W'))
    (j1 : ∀ W, Calls Tryd.prog 25 #[.bool c, .int .i64 1] W fun e W' => e = .returned (.int .i64 v1) ∧ Below W.heap.size W W')
    (j2 : ∀ W, Calls Tryd.prog 25 #[.bool p, .int .i64 2] W fun e W' => e = .returned (.int .i64 v2) ∧ Below W.heap.size W W')
    (j3 : ∀ W, Calls Tryd.prog 25 #[.bool l, .int .i64 16] W fun e W' => e = .returned (.int .i64 v3) ∧ Below W.heap.size W W')
    (j4 : ∀ W, Calls Tryd.prog 25 #[.bool f, .int .i64 32] W fun e W' => e = .returned (.int .i64 v4) ∧ Below W.heap.size W W')
    (j5 : ∀ W, Calls Tryd.prog 25 #[.bool a, .int .i64 64] W fun e W' => e = .returned (.int .i64 v5) ∧ Below W.heap.size W W')
    (j6 : ∀ W, Calls Tryd.prog 25 #[.bool x, .int .i64 128] W fun e W' => e = .returned (.int .i64 v6) ∧ Below W.heap.size W W')
    (hr : IntKind.i64.wrap (4 * r) = r4) (h1 : IntKind.i64.wrap (v1 + v2) = s1) (h2 : IntKind.i64.wrap (s1 + r4) = s2) (h3 : IntKind.i64.wrap (s2 + v3) = s3) (h4 : IntKind.i64.wrap (s3 + v4) = s4) (h5 : IntKind.i64.wrap (s4 + v5) = s5) (h6 : IntKind.i64.wrap (s5 + v6) = V)
    (eV : IntKind.u64.wrap V = V) (eC : IntKind.u64.wrap C = C) (eP : IntKind.u64.wrap P = P) (eA : IntKind.u64.wrap A = A) (eM : IntKind.u64.wrap M = M) (eH : IntKind.u64.wrap H = H) (eD : IntKind.u64.wrap D = D)
    (m0 : ∀ W, Calls Tryd.prog 26 #[.int .u64 V, .int .i64 1] W fun e W' => e = .returned (.string S0) ∧ Below W.heap.size W W')
    (m1 : ∀ W, Calls Tryd.prog 26 #[.int .u64 R, .int .i64 8] W fun e W' => e = .returned (.string S1) ∧ Below W.heap.size W W')
    (m2 : ∀ W, Calls Tryd.prog 26 #[.int .u64 C, .int .i64 4] W fun e W' => e = .returned (.string S2) ∧ Below W.heap.size W W')
    (m3 : ∀ W, Calls Tryd.prog 26 #[.int .u64 B, .int .i64 8] W fun e W' => e = .returned (.string S3) ∧ Below W.heap.size W W')
    (m4 : ∀ W, Calls Tryd.prog 26 #[.int .u64 P, .int .i64 2] W fun e W' => e = .returned (.string S4) ∧ Below W.heap.size W W')
    (m5 : ∀ W, Calls Tryd.prog 26 #[.int .u64 A, .int .i64 2] W fun e W' => e = .returned (.string S5) ∧ Below W.heap.size W W')
    (m6 : ∀ W, Calls Tryd.prog 26 #[.int .u64 M, .int .i64 2] W fun e W' => e = .returned (.string S6) ∧ Below W.heap.size W W')
    (m7 : ∀ W, Calls Tryd.prog 26 #[.int .u64 H, .int .i64 2] W fun e W' => e = .returned (.string S7) ∧ Below W.heap.size W W')
    (m8 : ∀ W, Calls Tryd.prog 26 #[.int .u64 D, .int .i64 2] W fun e W' => e = .returned (.string S8) ∧ Below W.heap.size W W')
    (g1 : ∀ W, (Op.stringOp .add S0 S1).run Tryd.prog W = .ok (.string X1) W) (g2 : ∀ W, (Op.stringOp .add X1 S2).run Tryd.prog W = .ok (.string X2) W) (g3 : ∀ W, (Op.stringOp .add X2 S3).run Tryd.prog W = .ok (.string X3) W) (g4 : ∀ W, (Op.stringOp .add X3 S4).run Tryd.prog W = .ok (.string X4) W) (g5 : ∀ W, (Op.stringOp .add X4 S5).run Tryd.prog W = .ok (.string X5) W) (g6 : ∀ W, (Op.stringOp .add X5 S6).run Tryd.prog W = .ok (.string X6) W) (g7 : ∀ W, (Op.stringOp .add X6 S7).run Tryd.prog W = .ok (.string X7) W) (g8 : ∀ W, (Op.stringOp .add X7 S8).run Tryd.prog W = .ok (.string X8) W)
    (ga : ∀ W, (Op.stringOp .add ⟨#[66, 66, 3, 0, 0]⟩ ⟨#[0, 0]⟩).run Tryd.prog W = .ok (.string Z1) W) (gb : ∀ W, (Op.stringOp .add Z1 X8).run Tryd.prog W = .ok (.string Z2) W) :
    Calls Tryd.prog 10 #[.agg #[.int .i64 0, .bool c, .bool p, .bool l, .bool f, .bool a, .bool x, .int .i64 r, .int .u64 R, .int .i64 C, .int .u64 B, .int .i64 P, .int .i64 A, .int .i64 M, .int .i64 H, .int .i64 D]] w fun e w' => e = .returned (.tuple #[.string Z2, .int .i64 0]) ∧ Below w.heap.size w w' := by
  go_enter Tryd.func10, Tryd.ntmps10
  go_wp2_with fail
  refine (unhide k1 _).mono ?_
  rintro e w1 ⟨rfl, b1⟩
  clear k1
  have hb := hide (bthen (alloc_below w _) b1)
  have hr := Below.row b1 (heap_alloc_new w _)
  obtain ⟨c0, c1, c2, c3, c4, c5, c6, c7, c8, c9, c10, c11, c12, c13, c14, c15, _⟩ := cells16 hr
  have HR := hide hr
  clear b1 hr
  go_wp2_with fail
  replace c0 := cell_regrown c0
  replace c1 := cell_regrown c1
  replace c2 := cell_regrown c2
  replace c3 := cell_regrown c3
  replace c4 := cell_regrown c4
  replace c5 := cell_regrown c5
  replace c6 := cell_regrown c6
  replace c7 := cell_regrown c7
  replace c8 := cell_regrown c8
  replace c9 := cell_regrown c9
  replace c10 := cell_regrown c10
  replace c11 := cell_regrown c11
  replace c12 := cell_regrown c12
  replace c13 := cell_regrown c13
  replace c14 := cell_regrown c14
  replace c15 := cell_regrown c15
  have d1 := at_grown j1 w1
  have d2 := at_grown j2 w1
  have d3 := at_grown j3 w1
  have d4 := at_grown j4 w1
  have d5 := at_grown j5 w1
  have d6 := at_grown j6 w1
  clear j1 j2 j3 j4 j5 j6
  refine wp_region_quiet_below (by kernel_rfl) (by kernel_rfl) ?_
  repeat (go_big_quiet_step (first | (go_at_call_of 25 c; exact d1 _ _) | (go_at_call_of 25 p; exact d2 _ _) | (go_at_call_of 25 l; exact d3 _ _) | (go_at_call_of 25 f; exact d4 _ _) | (go_at_call_of 25 a; exact d5 _ _) | (go_at_call_of 25 x; exact d6 _ _)))
  refine wpQuiet_nil ?_
  rintro _ ⟨⟨dq, osq⟩, rfl⟩
  have hb2 := hide (grown_then (unhide hb) dq osq)
  have HR2 := hide (Below.row (below_regrown w1 dq osq) (unhide HR))
  generalize grow (redrawn w1 dq) osq = w2 at *
  clear c0 c1 c2 c3 c4 c5 c6 c7 c8 c9 c10 c11 c12 c13 c14 c15 d1 d2 d3 d4 d5 d6 hr h1 h2 h3 h4 h5 h6
  go_wp2_with fail
  obtain ⟨c0, c1, c2, c3, c4, c5, c6, c7, c8, c9, c10, c11, c12, c13, c14, c15, _⟩ := cells16 (unhide HR2)
  replace c0 := cell_regrown c0
  replace c1 := cell_regrown c1
  replace c2 := cell_regrown c2
  replace c3 := cell_regrown c3
  replace c4 := cell_regrown c4
  replace c5 := cell_regrown c5
  replace c6 := cell_regrown c6
  replace c7 := cell_regrown c7
  replace c8 := cell_regrown c8
  replace c9 := cell_regrown c9
  replace c10 := cell_regrown c10
  replace c11 := cell_regrown c11
  replace c12 := cell_regrown c12
  replace c13 := cell_regrown c13
  replace c14 := cell_regrown c14
  replace c15 := cell_regrown c15
  have d0 := at_grown m0 w2
  have d1 := at_grown m1 w2
  have d2 := at_grown m2 w2
  have d3 := at_grown m3 w2
  have d4 := at_grown m4 w2
  have d5 := at_grown m5 w2
  have d6 := at_grown m6 w2
  have d7 := at_grown m7 w2
  have d8 := at_grown m8 w2
  clear m0 m1 m2 m3 m4 m5 m6 m7 m8
  refine wp_region_quiet_below (by kernel_rfl) (by kernel_rfl) ?_
  repeat (go_big_quiet_step (first | (go_at_call_of 26 V; exact d0 _ _) | (go_at_call_of 26 R; exact d1 _ _) | (go_at_call_of 26 C; exact d2 _ _) | (go_at_call_of 26 B; exact d3 _ _) | (go_at_call_of 26 P; exact d4 _ _) | (go_at_call_of 26 A; exact d5 _ _) | (go_at_call_of 26 M; exact d6 _ _) | (go_at_call_of 26 H; exact d7 _ _) | (go_at_call_of 26 D; exact d8 _ _)))
  refine wpQuiet_nil ?_
  rintro _ ⟨⟨dq, osq⟩, rfl⟩
  have hb3 := hide (grown_then (unhide hb2) dq osq)
  have HR3 := hide (Below.row (below_regrown w2 dq osq) (unhide HR2))
  generalize grow (redrawn w2 dq) osq = w3 at *
  clear c0 c1 c2 c3 c4 c5 c6 c7 c8 c9 c10 c11 c12 c13 c14 c15 d0 d1 d2 d3 d4 d5 d6 d7 d8
  obtain ⟨c0, c1, c2, c3, c4, c5, c6, c7, c8, c9, c10, c11, c12, c13, c14, c15, _⟩ := cells16 (unhide HR3)
  go_wp2_with fail
  go_ret2
  exact ⟨rfl, unhide hb3⟩
set_option maxRecDepth 100000 in
set_option maxHeartbeats 4000000 in
theorem rbuild_rap (c p l f a x : Bool) (r R C B P A M H D : Int) (V v1 v2 v3 v4 v5 v6 r4 s1 s2 s3 s4 s5 : Int) (S0 S1 S2 S3 S4 S5 S6 S7 S8 X1 X2 X3 X4 X5 X6 X7 X8 Z1 Z2 Z3 : ByteArray) (w : World) (k1 : Hid (∀ W, Calls Tryd.prog 13 #[.agg #[.int .i64 2, .bool c, .bool p, .bool l, .bool f, .bool a, .bool x, .int .i64 r, .int .u64 R, .int .i64 C, .int .u64 B, .int .i64 P, .int .i64 A, .int .i64 M, .int .i64 H, .int .i64 D]] W fun e W' => e = .returned (.int .i64 0) ∧ Below W.heap.size W W'))
    (j1 : ∀ W, Calls Tryd.prog 25 #[.bool c, .int .i64 1] W fun e W' => e = .returned (.int .i64 v1) ∧ Below W.heap.size W W')
    (j2 : ∀ W, Calls Tryd.prog 25 #[.bool p, .int .i64 2] W fun e W' => e = .returned (.int .i64 v2) ∧ Below W.heap.size W W')
    (j3 : ∀ W, Calls Tryd.prog 25 #[.bool l, .int .i64 16] W fun e W' => e = .returned (.int .i64 v3) ∧ Below W.heap.size W W')
    (j4 : ∀ W, Calls Tryd.prog 25 #[.bool f, .int .i64 32] W fun e W' => e = .returned (.int .i64 v4) ∧ Below W.heap.size W W')
    (j5 : ∀ W, Calls Tryd.prog 25 #[.bool a, .int .i64 64] W fun e W' => e = .returned (.int .i64 v5) ∧ Below W.heap.size W W')
    (j6 : ∀ W, Calls Tryd.prog 25 #[.bool x, .int .i64 128] W fun e W' => e = .returned (.int .i64 v6) ∧ Below W.heap.size W W')
    (hr : IntKind.i64.wrap (4 * r) = r4) (h1 : IntKind.i64.wrap (v1 + v2) = s1) (h2 : IntKind.i64.wrap (s1 + r4) = s2) (h3 : IntKind.i64.wrap (s2 + v3) = s3) (h4 : IntKind.i64.wrap (s3 + v4) = s4) (h5 : IntKind.i64.wrap (s4 + v5) = s5) (h6 : IntKind.i64.wrap (s5 + v6) = V)
    (eV : IntKind.u64.wrap V = V) (eC : IntKind.u64.wrap C = C) (eP : IntKind.u64.wrap P = P) (eA : IntKind.u64.wrap A = A) (eM : IntKind.u64.wrap M = M) (eH : IntKind.u64.wrap H = H) (eD : IntKind.u64.wrap D = D)
    (m0 : ∀ W, Calls Tryd.prog 26 #[.int .u64 V, .int .i64 1] W fun e W' => e = .returned (.string S0) ∧ Below W.heap.size W W')
    (m1 : ∀ W, Calls Tryd.prog 26 #[.int .u64 R, .int .i64 8] W fun e W' => e = .returned (.string S1) ∧ Below W.heap.size W W')
    (m2 : ∀ W, Calls Tryd.prog 26 #[.int .u64 C, .int .i64 4] W fun e W' => e = .returned (.string S2) ∧ Below W.heap.size W W')
    (m3 : ∀ W, Calls Tryd.prog 26 #[.int .u64 B, .int .i64 8] W fun e W' => e = .returned (.string S3) ∧ Below W.heap.size W W')
    (m4 : ∀ W, Calls Tryd.prog 26 #[.int .u64 P, .int .i64 2] W fun e W' => e = .returned (.string S4) ∧ Below W.heap.size W W')
    (m5 : ∀ W, Calls Tryd.prog 26 #[.int .u64 A, .int .i64 2] W fun e W' => e = .returned (.string S5) ∧ Below W.heap.size W W')
    (m6 : ∀ W, Calls Tryd.prog 26 #[.int .u64 M, .int .i64 2] W fun e W' => e = .returned (.string S6) ∧ Below W.heap.size W W')
    (m7 : ∀ W, Calls Tryd.prog 26 #[.int .u64 H, .int .i64 2] W fun e W' => e = .returned (.string S7) ∧ Below W.heap.size W W')
    (m8 : ∀ W, Calls Tryd.prog 26 #[.int .u64 D, .int .i64 2] W fun e W' => e = .returned (.string S8) ∧ Below W.heap.size W W')
    (g1 : ∀ W, (Op.stringOp .add S0 S1).run Tryd.prog W = .ok (.string X1) W) (g2 : ∀ W, (Op.stringOp .add X1 S2).run Tryd.prog W = .ok (.string X2) W) (g3 : ∀ W, (Op.stringOp .add X2 S3).run Tryd.prog W = .ok (.string X3) W) (g4 : ∀ W, (Op.stringOp .add X3 S4).run Tryd.prog W = .ok (.string X4) W) (g5 : ∀ W, (Op.stringOp .add X4 S5).run Tryd.prog W = .ok (.string X5) W) (g6 : ∀ W, (Op.stringOp .add X5 S6).run Tryd.prog W = .ok (.string X6) W) (g7 : ∀ W, (Op.stringOp .add X6 S7).run Tryd.prog W = .ok (.string X7) W) (g8 : ∀ W, (Op.stringOp .add X7 S8).run Tryd.prog W = .ok (.string X8) W)
    (ga : ∀ W, (Op.stringOp .add ⟨#[66, 66, 3, 0, 0]⟩ ⟨#[2, 2]⟩).run Tryd.prog W = .ok (.string Z1) W) (gb : ∀ W, (Op.stringOp .add Z1 X8).run Tryd.prog W = .ok (.string Z2) W) (gc : ∀ W, (Op.stringOp .add Z2 ⟨#[0]⟩).run Tryd.prog W = .ok (.string Z3) W) :
    Calls Tryd.prog 10 #[.agg #[.int .i64 2, .bool c, .bool p, .bool l, .bool f, .bool a, .bool x, .int .i64 r, .int .u64 R, .int .i64 C, .int .u64 B, .int .i64 P, .int .i64 A, .int .i64 M, .int .i64 H, .int .i64 D]] w fun e w' => e = .returned (.tuple #[.string Z3, .int .i64 0]) ∧ Below w.heap.size w w' := by
  go_enter Tryd.func10, Tryd.ntmps10
  go_wp2_with fail
  refine (unhide k1 _).mono ?_
  rintro e w1 ⟨rfl, b1⟩
  clear k1
  have hb := hide (bthen (alloc_below w _) b1)
  have hr := Below.row b1 (heap_alloc_new w _)
  obtain ⟨c0, c1, c2, c3, c4, c5, c6, c7, c8, c9, c10, c11, c12, c13, c14, c15, _⟩ := cells16 hr
  have HR := hide hr
  clear b1 hr
  go_wp2_with fail
  replace c0 := cell_regrown c0
  replace c1 := cell_regrown c1
  replace c2 := cell_regrown c2
  replace c3 := cell_regrown c3
  replace c4 := cell_regrown c4
  replace c5 := cell_regrown c5
  replace c6 := cell_regrown c6
  replace c7 := cell_regrown c7
  replace c8 := cell_regrown c8
  replace c9 := cell_regrown c9
  replace c10 := cell_regrown c10
  replace c11 := cell_regrown c11
  replace c12 := cell_regrown c12
  replace c13 := cell_regrown c13
  replace c14 := cell_regrown c14
  replace c15 := cell_regrown c15
  have d1 := at_grown j1 w1
  have d2 := at_grown j2 w1
  have d3 := at_grown j3 w1
  have d4 := at_grown j4 w1
  have d5 := at_grown j5 w1
  have d6 := at_grown j6 w1
  clear j1 j2 j3 j4 j5 j6
  refine wp_region_quiet_below (by kernel_rfl) (by kernel_rfl) ?_
  repeat (go_big_quiet_step (first | (go_at_call_of 25 c; exact d1 _ _) | (go_at_call_of 25 p; exact d2 _ _) | (go_at_call_of 25 l; exact d3 _ _) | (go_at_call_of 25 f; exact d4 _ _) | (go_at_call_of 25 a; exact d5 _ _) | (go_at_call_of 25 x; exact d6 _ _)))
  refine wpQuiet_nil ?_
  rintro _ ⟨⟨dq, osq⟩, rfl⟩
  have hb2 := hide (grown_then (unhide hb) dq osq)
  have HR2 := hide (Below.row (below_regrown w1 dq osq) (unhide HR))
  generalize grow (redrawn w1 dq) osq = w2 at *
  clear c0 c1 c2 c3 c4 c5 c6 c7 c8 c9 c10 c11 c12 c13 c14 c15 d1 d2 d3 d4 d5 d6 hr h1 h2 h3 h4 h5 h6
  go_wp2_with fail
  obtain ⟨c0, c1, c2, c3, c4, c5, c6, c7, c8, c9, c10, c11, c12, c13, c14, c15, _⟩ := cells16 (unhide HR2)
  replace c0 := cell_regrown c0
  replace c1 := cell_regrown c1
  replace c2 := cell_regrown c2
  replace c3 := cell_regrown c3
  replace c4 := cell_regrown c4
  replace c5 := cell_regrown c5
  replace c6 := cell_regrown c6
  replace c7 := cell_regrown c7
  replace c8 := cell_regrown c8
  replace c9 := cell_regrown c9
  replace c10 := cell_regrown c10
  replace c11 := cell_regrown c11
  replace c12 := cell_regrown c12
  replace c13 := cell_regrown c13
  replace c14 := cell_regrown c14
  replace c15 := cell_regrown c15
  have d0 := at_grown m0 w2
  have d1 := at_grown m1 w2
  have d2 := at_grown m2 w2
  have d3 := at_grown m3 w2
  have d4 := at_grown m4 w2
  have d5 := at_grown m5 w2
  have d6 := at_grown m6 w2
  have d7 := at_grown m7 w2
  have d8 := at_grown m8 w2
  clear m0 m1 m2 m3 m4 m5 m6 m7 m8
  refine wp_region_quiet_below (by kernel_rfl) (by kernel_rfl) ?_
  repeat (go_big_quiet_step (first | (go_at_call_of 26 V; exact d0 _ _) | (go_at_call_of 26 R; exact d1 _ _) | (go_at_call_of 26 C; exact d2 _ _) | (go_at_call_of 26 B; exact d3 _ _) | (go_at_call_of 26 P; exact d4 _ _) | (go_at_call_of 26 A; exact d5 _ _) | (go_at_call_of 26 M; exact d6 _ _) | (go_at_call_of 26 H; exact d7 _ _) | (go_at_call_of 26 D; exact d8 _ _)))
  refine wpQuiet_nil ?_
  rintro _ ⟨⟨dq, osq⟩, rfl⟩
  have hb3 := hide (grown_then (unhide hb2) dq osq)
  have HR3 := hide (Below.row (below_regrown w2 dq osq) (unhide HR2))
  generalize grow (redrawn w2 dq) osq = w3 at *
  clear c0 c1 c2 c3 c4 c5 c6 c7 c8 c9 c10 c11 c12 c13 c14 c15 d0 d1 d2 d3 d4 d5 d6 d7 d8
  obtain ⟨c0, c1, c2, c3, c4, c5, c6, c7, c8, c9, c10, c11, c12, c13, c14, c15, _⟩ := cells16 (unhide HR3)
  go_wp2_with fail
  go_ret2
  exact ⟨rfl, unhide hb3⟩
theorem rbuild_conf_any (b : Bp) (w : World) (hk : b.kind = 0) (h : b.room) (hf : b.fits) (hc : b.check = 0) : Calls Tryd.prog 10 #[b.val] w fun e w' => e = .returned (.tuple #[.string (bs (([66, 66, 3, 0, 0] ++ [0, 0]) ++ b.fields)), .int .i64 0]) ∧ Below w.heap.size w w' := by
  have k1 := fun W => rcheck_any b W
  rw [hc] at k1
  have hv := (b.flags_back h.1).1
  have ev : b.change.toNat + 2 * b.propose.toNat + 4 * b.role.toNat + 16 * b.learn.toNat + 32 * b.forward.toNat + 64 * b.agree.toNat + 128 * b.ack.toNat = b.flags := rfl
  have hl := b.fields_length
  unfold Bp.fields at hl ⊢
  generalize b.flags = V at hv ev hl ⊢
  obtain ⟨k, c, p, l, f, a, x, r, R, C, B, P, A, M, H, D⟩ := b
  obtain ⟨h1, h2, h3, h4, h5, h6, h7⟩ := h
  obtain ⟨hR, hB⟩ := hf
  simp only at hk h1 h2 h3 h4 h5 h6 h7 hR hB ev hl ⊢
  subst hk
  obtain ⟨r1, rfl⟩ : ∃ n : Nat, r = n := ⟨r.toNat, by omega⟩
  have zr : ((r1 : Nat) : Int).toNat = r1 := by omega
  obtain ⟨C1, rfl⟩ : ∃ n : Nat, C = n := ⟨C.toNat, by omega⟩
  have zC : ((C1 : Nat) : Int).toNat = C1 := by omega
  obtain ⟨P1, rfl⟩ : ∃ n : Nat, P = n := ⟨P.toNat, by omega⟩
  have zP : ((P1 : Nat) : Int).toNat = P1 := by omega
  obtain ⟨A1, rfl⟩ : ∃ n : Nat, A = n := ⟨A.toNat, by omega⟩
  have zA : ((A1 : Nat) : Int).toNat = A1 := by omega
  obtain ⟨M1, rfl⟩ : ∃ n : Nat, M = n := ⟨M.toNat, by omega⟩
  have zM : ((M1 : Nat) : Int).toNat = M1 := by omega
  obtain ⟨H1, rfl⟩ : ∃ n : Nat, H = n := ⟨H.toNat, by omega⟩
  have zH : ((H1 : Nat) : Int).toNat = H1 := by omega
  obtain ⟨D1, rfl⟩ : ∃ n : Nat, D = n := ⟨D.toNat, by omega⟩
  have zD : ((D1 : Nat) : Int).toNat = D1 := by omega
  rw [zC, zP, zA, zM, zH, zD] at hl
  rw [zC, zP, zA, zM, zH, zD]
  rw [zr] at ev
  have c := rbuild_conf c p l f a x r1 R C1 B P1 A1 M1 H1 D1 V ((1 * c.toNat : Nat) : Int) ((2 * p.toNat : Nat) : Int) ((16 * l.toNat : Nat) : Int) ((32 * f.toNat : Nat) : Int) ((64 * a.toNat : Nat) : Int) ((128 * x.toNat : Nat) : Int) ((4 * r1 : Nat) : Int)
    ((c.toNat + 2 * p.toNat : Nat) : Int) ((c.toNat + 2 * p.toNat + 4 * r1 : Nat) : Int) ((c.toNat + 2 * p.toNat + 4 * r1 + 16 * l.toNat : Nat) : Int) ((c.toNat + 2 * p.toNat + 4 * r1 + 16 * l.toNat + 32 * f.toNat : Nat) : Int) ((c.toNat + 2 * p.toNat + 4 * r1 + 16 * l.toNat + 32 * f.toNat + 64 * a.toNat : Nat) : Int) _ _ _ _ _ _ _ _ _ _ _ _ _ _ _ _ _ _ _ w (hide k1)
    (fun W => ((rbit_any c 1 W).mono fun e W2 q => ⟨q.1, by rw [q.2]; exact Below.refl _ _⟩)) (fun W => ((rbit_any p 2 W).mono fun e W2 q => ⟨q.1, by rw [q.2]; exact Below.refl _ _⟩)) (fun W => ((rbit_any l 16 W).mono fun e W2 q => ⟨q.1, by rw [q.2]; exact Below.refl _ _⟩)) (fun W => ((rbit_any f 32 W).mono fun e W2 q => ⟨q.1, by rw [q.2]; exact Below.refl _ _⟩)) (fun W => ((rbit_any a 64 W).mono fun e W2 q => ⟨q.1, by rw [q.2]; exact Below.refl _ _⟩)) (fun W => ((rbit_any x 128 W).mono fun e W2 q => ⟨q.1, by rw [q.2]; exact Below.refl _ _⟩))
    (by rw [IntKind.wrap_i64]; omega) (by rw [IntKind.wrap_i64]; omega) (by rw [IntKind.wrap_i64]; omega) (by rw [IntKind.wrap_i64]; omega) (by rw [IntKind.wrap_i64]; omega) (by rw [IntKind.wrap_i64]; omega) (by rw [IntKind.wrap_i64]; omega)
    (u64_id V (by omega)) (u64_id C1 (by omega)) (u64_id P1 (by omega)) (u64_id A1 (by omega)) (u64_id M1 (by omega)) (u64_id H1 (by omega)) (u64_id D1 (by omega))
    (fun W => rbytes V 1 W (by decide) (by omega)) (fun W => rbytes R 8 W (by decide) (by omega)) (fun W => rbytes C1 4 W (by decide) (by omega)) (fun W => rbytes B 8 W (by decide) (by omega)) (fun W => rbytes P1 2 W (by decide) (by omega)) (fun W => rbytes A1 2 W (by decide) (by omega)) (fun W => rbytes M1 2 W (by decide) (by omega)) (fun W => rbytes H1 2 W (by decide) (by omega)) (fun W => rbytes D1 2 W (by decide) (by omega))
    (fun W => add_bs _ _ (by simp [be_length]) W) (fun W => add_bs _ _ (by simp [be_length]) W) (fun W => add_bs _ _ (by simp [be_length]) W) (fun W => add_bs _ _ (by simp [be_length]) W) (fun W => add_bs _ _ (by simp [be_length]) W) (fun W => add_bs _ _ (by simp [be_length]) W) (fun W => add_bs _ _ (by simp [be_length]) W) (fun W => add_bs _ _ (by simp [be_length]) W)
    (fun W => add_bs [66, 66, 3, 0, 0] [0, 0] (by decide) W) (fun W => add_bs ([66, 66, 3, 0, 0] ++ [0, 0]) _ (by simp [be_length]) W)
  simp only [List.append_assoc, List.cons_append, List.nil_append] at c hl ⊢
  exact c
theorem rbuild_rap_any (b : Bp) (w : World) (hk : b.kind = 2) (h : b.room) (hf : b.fits) (hc : b.check = 0) : Calls Tryd.prog 10 #[b.val] w fun e w' => e = .returned (.tuple #[.string (bs ((([66, 66, 3, 0, 0] ++ [2, 2]) ++ b.fields) ++ [0])), .int .i64 0]) ∧ Below w.heap.size w w' := by
  have k1 := fun W => rcheck_any b W
  rw [hc] at k1
  have hv := (b.flags_back h.1).1
  have ev : b.change.toNat + 2 * b.propose.toNat + 4 * b.role.toNat + 16 * b.learn.toNat + 32 * b.forward.toNat + 64 * b.agree.toNat + 128 * b.ack.toNat = b.flags := rfl
  have hl := b.fields_length
  unfold Bp.fields at hl ⊢
  generalize b.flags = V at hv ev hl ⊢
  obtain ⟨k, c, p, l, f, a, x, r, R, C, B, P, A, M, H, D⟩ := b
  obtain ⟨h1, h2, h3, h4, h5, h6, h7⟩ := h
  obtain ⟨hR, hB⟩ := hf
  simp only at hk h1 h2 h3 h4 h5 h6 h7 hR hB ev hl ⊢
  subst hk
  obtain ⟨r1, rfl⟩ : ∃ n : Nat, r = n := ⟨r.toNat, by omega⟩
  have zr : ((r1 : Nat) : Int).toNat = r1 := by omega
  obtain ⟨C1, rfl⟩ : ∃ n : Nat, C = n := ⟨C.toNat, by omega⟩
  have zC : ((C1 : Nat) : Int).toNat = C1 := by omega
  obtain ⟨P1, rfl⟩ : ∃ n : Nat, P = n := ⟨P.toNat, by omega⟩
  have zP : ((P1 : Nat) : Int).toNat = P1 := by omega
  obtain ⟨A1, rfl⟩ : ∃ n : Nat, A = n := ⟨A.toNat, by omega⟩
  have zA : ((A1 : Nat) : Int).toNat = A1 := by omega
  obtain ⟨M1, rfl⟩ : ∃ n : Nat, M = n := ⟨M.toNat, by omega⟩
  have zM : ((M1 : Nat) : Int).toNat = M1 := by omega
  obtain ⟨H1, rfl⟩ : ∃ n : Nat, H = n := ⟨H.toNat, by omega⟩
  have zH : ((H1 : Nat) : Int).toNat = H1 := by omega
  obtain ⟨D1, rfl⟩ : ∃ n : Nat, D = n := ⟨D.toNat, by omega⟩
  have zD : ((D1 : Nat) : Int).toNat = D1 := by omega
  rw [zC, zP, zA, zM, zH, zD] at hl
  rw [zC, zP, zA, zM, zH, zD]
  rw [zr] at ev
  have c := rbuild_rap c p l f a x r1 R C1 B P1 A1 M1 H1 D1 V ((1 * c.toNat : Nat) : Int) ((2 * p.toNat : Nat) : Int) ((16 * l.toNat : Nat) : Int) ((32 * f.toNat : Nat) : Int) ((64 * a.toNat : Nat) : Int) ((128 * x.toNat : Nat) : Int) ((4 * r1 : Nat) : Int)
    ((c.toNat + 2 * p.toNat : Nat) : Int) ((c.toNat + 2 * p.toNat + 4 * r1 : Nat) : Int) ((c.toNat + 2 * p.toNat + 4 * r1 + 16 * l.toNat : Nat) : Int) ((c.toNat + 2 * p.toNat + 4 * r1 + 16 * l.toNat + 32 * f.toNat : Nat) : Int) ((c.toNat + 2 * p.toNat + 4 * r1 + 16 * l.toNat + 32 * f.toNat + 64 * a.toNat : Nat) : Int) _ _ _ _ _ _ _ _ _ _ _ _ _ _ _ _ _ _ _ _ w (hide k1)
    (fun W => ((rbit_any c 1 W).mono fun e W2 q => ⟨q.1, by rw [q.2]; exact Below.refl _ _⟩)) (fun W => ((rbit_any p 2 W).mono fun e W2 q => ⟨q.1, by rw [q.2]; exact Below.refl _ _⟩)) (fun W => ((rbit_any l 16 W).mono fun e W2 q => ⟨q.1, by rw [q.2]; exact Below.refl _ _⟩)) (fun W => ((rbit_any f 32 W).mono fun e W2 q => ⟨q.1, by rw [q.2]; exact Below.refl _ _⟩)) (fun W => ((rbit_any a 64 W).mono fun e W2 q => ⟨q.1, by rw [q.2]; exact Below.refl _ _⟩)) (fun W => ((rbit_any x 128 W).mono fun e W2 q => ⟨q.1, by rw [q.2]; exact Below.refl _ _⟩))
    (by rw [IntKind.wrap_i64]; omega) (by rw [IntKind.wrap_i64]; omega) (by rw [IntKind.wrap_i64]; omega) (by rw [IntKind.wrap_i64]; omega) (by rw [IntKind.wrap_i64]; omega) (by rw [IntKind.wrap_i64]; omega) (by rw [IntKind.wrap_i64]; omega)
    (u64_id V (by omega)) (u64_id C1 (by omega)) (u64_id P1 (by omega)) (u64_id A1 (by omega)) (u64_id M1 (by omega)) (u64_id H1 (by omega)) (u64_id D1 (by omega))
    (fun W => rbytes V 1 W (by decide) (by omega)) (fun W => rbytes R 8 W (by decide) (by omega)) (fun W => rbytes C1 4 W (by decide) (by omega)) (fun W => rbytes B 8 W (by decide) (by omega)) (fun W => rbytes P1 2 W (by decide) (by omega)) (fun W => rbytes A1 2 W (by decide) (by omega)) (fun W => rbytes M1 2 W (by decide) (by omega)) (fun W => rbytes H1 2 W (by decide) (by omega)) (fun W => rbytes D1 2 W (by decide) (by omega))
    (fun W => add_bs _ _ (by simp [be_length]) W) (fun W => add_bs _ _ (by simp [be_length]) W) (fun W => add_bs _ _ (by simp [be_length]) W) (fun W => add_bs _ _ (by simp [be_length]) W) (fun W => add_bs _ _ (by simp [be_length]) W) (fun W => add_bs _ _ (by simp [be_length]) W) (fun W => add_bs _ _ (by simp [be_length]) W) (fun W => add_bs _ _ (by simp [be_length]) W)
    (fun W => add_bs [66, 66, 3, 0, 0] [2, 2] (by decide) W) (fun W => add_bs ([66, 66, 3, 0, 0] ++ [2, 2]) _ (by simp [be_length]) W) (fun W => add_bs _ [0] (by simp [be_length]) W)
  simp only [List.append_assoc, List.cons_append, List.nil_append] at c hl ⊢
  exact c
theorem rbuild_any (b : Bp) (w : World) (hf : b.fits) : Calls Tryd.prog 10 #[b.val] w fun e w' => e = .returned (.tuple #[.string (bs b.built), .int .i64 b.check]) ∧ Below w.heap.size w w' := by
  have k := fun W => rcheck_any b W
  unfold Bp.built
  by_cases h : b.check = 0
  · rw [if_pos h, h]
    rcases Bp.check_ok.1 h with q | ⟨q, q2, _⟩ | ⟨q, q2⟩
    · subst q
      rw [h] at k
      exact rbuild_turn false false false false false false 0 0 0 0 0 0 0 0 0 _ w (hide k) (fun W => add_bs [66, 66, 3, 0, 0] [0, 128] (by decide) W)
    · have c := rbuild_conf_any b w q q2 hf h
      have e : b.bytes = ([66, 66, 3, 0, 0] ++ [0, 0]) ++ b.fields := by
        unfold Bp.bytes; rw [if_neg (by omega), if_pos q, List.append_assoc]; rfl
      rw [e]
      exact c
    · have c := rbuild_rap_any b w q q2 hf h
      have e : b.bytes = (([66, 66, 3, 0, 0] ++ [2, 2]) ++ b.fields) ++ [0] := by
        unfold Bp.bytes; rw [if_neg (by omega), if_neg (by omega), List.append_assoc, List.append_assoc]; rfl
      rw [e]
      exact c
  · rw [if_neg h]
    exact rbuild_not b.kind b.change b.propose b.learn b.forward b.agree b.ack b.role b.root b.cost b.bridge b.port b.age b.maxAge b.hello b.delay _ w (hide k) (by simpa using h)
end Go.Proofs.YtchgmbbcfjfhoaaDoor
