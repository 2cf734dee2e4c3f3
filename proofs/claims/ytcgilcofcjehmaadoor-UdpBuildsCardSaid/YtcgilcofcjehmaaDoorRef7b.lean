/-
  The document's answer for datagrams: the contracts of gangwayref07's Check and Build; no cell that was there before has turned.
-/
import Derived.Test.YtcgilcofcjehmaaDoorRef7
import Derived.Test.YtcgilcofcjehmaaDoorUdp2
namespace Go.Proofs.YtcgilcofcjehmaaDoor
open Go.RowKit Go.Sort

theorem word_is (v : Int) : (v / 65536 != 0) = !decide (0 ≤ v ∧ v ≤ 65535) := by
  rw [Bool.eq_iff_iff]
  simp only [bne_iff_ne, ne_eq, Bool.not_eq_true', decide_eq_false_iff_not]
  omega
set_option maxRecDepth 100000 in
theorem rcheck_at (a b : Int) (x : Bool) (B : ByteArray) (t1 t2 : Bool) (k : Int) (w : World) (hB : (B.size : Int) ≤ 1700)
    (h1 : (a / 65536 != 0) = !t1) (h2 : (b / 65536 != 0) = !t2) (hk : k = if (t1 && t2) then 0 else 71) :
    Calls Tryd.prog 13 #[.agg #[.int .i64 a, .int .i64 b, .bool x, .string B]] w fun e w' => e = .returned (.int .i64 k) ∧ Below w.heap.size w w' := by
  subst hk
  have hs : ¬ (65507 : Int) < (B.size : Int) := by omega
  cases t1
  · go_enter Tryd.func13, Tryd.ntmps13
    go_wp2
    go_ret
    exact ⟨rfl, alloc_below _ _⟩
  cases t2
  all_goals
    go_enter Tryd.func13, Tryd.ntmps13
    go_wp2
    go_ret
    exact ⟨rfl, alloc_below _ _⟩
theorem rcheck_any (u : Ud) (w : World) (h : u.body.length ≤ 1700) :
    Calls Tryd.prog 13 #[u.val] w fun e w' => e = .returned (.int .i64 u.check) ∧ Below w.heap.size w w' := by
  refine rcheck_at u.src u.dst u.noSum (bs u.body) _ _ _ w (by rw [bs_size]; omega) (word_is _) (word_is _) ?_
  unfold Ud.check
  simp only [Bool.and_eq_true, decide_eq_true_eq]
  by_cases c : (0 ≤ u.src ∧ u.src ≤ 65535) ∧ 0 ≤ u.dst ∧ u.dst ≤ 65535
  · rw [if_pos ⟨c.1, c.2, by omega⟩, if_pos c]
  · rw [if_neg fun z => c ⟨z.1, z.2.1⟩, if_neg c]
set_option maxRecDepth 100000 in
set_option maxHeartbeats 4000000 in
theorem rbuild_tt (a b n s d c : Nat) (B A0 A1 A2 X1 F H Y1 Y2 Y3 T X3 X4 : ByteArray) (w : World) (hB : B.size = n) (hn : (n : Int) ≤ 1700)
    (e0 : IntKind.u64.wrap (a : Int) = (a : Int)) (e1 : IntKind.u64.wrap (b : Int) = (b : Int)) (e2 : IntKind.u64.wrap ((n : Int) + 8) = (n : Int) + 8) 
    (k : Hid (∀ W, Calls Tryd.prog 13 #[.agg #[.int .i64 (a : Int), .int .i64 (b : Int), .bool true, .string B]] W fun e W' => e = .returned (.int .i64 0) ∧ Below W.heap.size W W'))
    (c0 : ∀ W, Calls Tryd.prog 20 #[.int .u64 (a : Int), .int .i64 2] W fun e W' => e = .returned (.string A0) ∧ Below W.heap.size W W')
    (c1 : ∀ W, Calls Tryd.prog 20 #[.int .u64 (b : Int), .int .i64 2] W fun e W' => e = .returned (.string A1) ∧ Below W.heap.size W W')
    (c2 : ∀ W, Calls Tryd.prog 20 #[.int .u64 ((n : Int) + 8), .int .i64 2] W fun e W' => e = .returned (.string A2) ∧ Below W.heap.size W W')
    (g1 : ∀ W, (Op.stringOp .add A0 A1).run Tryd.prog W = .ok (.string X1) W) (g2 : ∀ W, (Op.stringOp .add X1 A2).run Tryd.prog W = .ok (.string F) W)
    (ch : ∀ W, Calls Tryd.prog 22 #[.int .u32 (s : Int), .int .u32 (d : Int), .int .i64 17, .int .i64 ((n : Int) + 8)] W fun e W' => e = .returned (.string H) ∧ Below W.heap.size W W')
    (g5 : ∀ W, (Op.stringOp .add H F).run Tryd.prog W = .ok (.string Y1) W) (g6 : ∀ W, (Op.stringOp .add Y1 ⟨#[0, 0]⟩).run Tryd.prog W = .ok (.string Y2) W) (g7 : ∀ W, (Op.stringOp .add Y2 B).run Tryd.prog W = .ok (.string Y3) W)
    (co : ∀ W, Calls Tryd.prog 21 #[.string Y3] W fun e W' => e = .returned (.int .i64 (c : Int)) ∧ Below W.heap.size W W')
    (hc : ((c : Int) == 0) = true)
    (cs : ∀ W, Calls Tryd.prog 20 #[.int .u64 0, .int .i64 2] W fun e W' => e = .returned (.string T) ∧ Below W.heap.size W W')
    (g3 : ∀ W, (Op.stringOp .add F T).run Tryd.prog W = .ok (.string X3) W) (g4 : ∀ W, (Op.stringOp .add X3 B).run Tryd.prog W = .ok (.string X4) W) :
    Calls Tryd.prog 10 #[.int .u32 (s : Int), .int .u32 (d : Int), .agg #[.int .i64 (a : Int), .int .i64 (b : Int), .bool true, .string B]] w fun e w' => e = .returned (.tuple #[.string X4, .int .i64 0]) ∧ Below w.heap.size w w' := by
  go_enter Tryd.func10, Tryd.ntmps10
  go_wp2_with fail
  refine (unhide k _).mono ?_
  rintro e w1 ⟨rfl, b1⟩
  have hb := bthen (alloc_below w _) b1
  have hr := Below.row b1 (heap_alloc_new w _)
  clear b1 k
  obtain ⟨k0, k1, k2, k3, _⟩ := cells4 hr
  go_wp2_with fail
  have d0 := at_grown c0 w1
  have d1 := at_grown c1 w1
  have d2 := at_grown c2 w1
  have q0 := cell_regrown k0
  have q1 := cell_regrown k1
  have q2 := cell_regrown k2
  have q3 := cell_regrown k3
  clear k0 k1 k2 k3 c0 c1 c2
  refine wp_region_quiet_below (by kernel_rfl) (by kernel_rfl) ?_
  repeat (go_big_quiet_step (first | (go_at_call_of 20 a; exact d0 _ _) | (go_at_call_of 20 b; exact d1 _ _) | (go_at_call 20; exact d2 _ _)))
  refine wpQuiet_nil ?_
  rintro _ ⟨⟨dq, osq⟩, rfl⟩
  have hb2 := grown_then hb dq osq
  have hr2 := Below.row (below_regrown w1 dq osq) hr
  generalize grow (redrawn w1 dq) osq = w2 at *
  clear q0 q1 q2 q3 d0 d1 d2 hr hb
  obtain ⟨k0, k1, k2, k3, _⟩ := cells4 hr2
  go_wp2_with fail
  have d0 := at_grown ch w2
  have d1 := at_grown co w2
  have q3 := cell_regrown k3
  clear k0 k1 k2 k3 ch co
  refine wp_region_quiet_below (by kernel_rfl) (by kernel_rfl) ?_
  repeat (go_big_quiet_step (first | (go_at_call 22; exact d0 _ _) | (go_at_call 21; exact d1 _ _)))
  refine wpQuiet_nil ?_
  rintro _ ⟨⟨dr, osr⟩, rfl⟩
  have hb4 := grown_then hb2 dr osr
  have hr4 := Below.row (below_regrown w2 dr osr) hr2
  generalize grow (redrawn w2 dr) osr = w4 at *
  clear q3 d0 d1 hr2 hb2
  obtain ⟨k0, k1, k2, k3, _⟩ := cells4 hr4
  go_wp2_with fail
  have d0 := at_grown cs w4
  have q3 := cell_regrown k3
  clear k0 k1 k2 k3 cs hr4
  refine wp_region_quiet_below (by kernel_rfl) (by kernel_rfl) ?_
  repeat (go_big_quiet_step ((go_at_call 20; exact d0 _ _)))
  refine wpQuiet_nil ?_
  rintro _ ⟨⟨du, osu⟩, rfl⟩
  go_wp2
  go_ret2
  exact ⟨rfl, grown_then hb4 du osu⟩
set_option maxRecDepth 100000 in
set_option maxHeartbeats 4000000 in
theorem rbuild_tf (a b n s d c : Nat) (B A0 A1 A2 X1 F H Y1 Y2 Y3 T X3 X4 : ByteArray) (w : World) (hB : B.size = n) (hn : (n : Int) ≤ 1700)
    (e0 : IntKind.u64.wrap (a : Int) = (a : Int)) (e1 : IntKind.u64.wrap (b : Int) = (b : Int)) (e2 : IntKind.u64.wrap ((n : Int) + 8) = (n : Int) + 8) 
    (k : Hid (∀ W, Calls Tryd.prog 13 #[.agg #[.int .i64 (a : Int), .int .i64 (b : Int), .bool true, .string B]] W fun e W' => e = .returned (.int .i64 0) ∧ Below W.heap.size W W'))
    (c0 : ∀ W, Calls Tryd.prog 20 #[.int .u64 (a : Int), .int .i64 2] W fun e W' => e = .returned (.string A0) ∧ Below W.heap.size W W')
    (c1 : ∀ W, Calls Tryd.prog 20 #[.int .u64 (b : Int), .int .i64 2] W fun e W' => e = .returned (.string A1) ∧ Below W.heap.size W W')
    (c2 : ∀ W, Calls Tryd.prog 20 #[.int .u64 ((n : Int) + 8), .int .i64 2] W fun e W' => e = .returned (.string A2) ∧ Below W.heap.size W W')
    (g1 : ∀ W, (Op.stringOp .add A0 A1).run Tryd.prog W = .ok (.string X1) W) (g2 : ∀ W, (Op.stringOp .add X1 A2).run Tryd.prog W = .ok (.string F) W)
    (ch : ∀ W, Calls Tryd.prog 22 #[.int .u32 (s : Int), .int .u32 (d : Int), .int .i64 17, .int .i64 ((n : Int) + 8)] W fun e W' => e = .returned (.string H) ∧ Below W.heap.size W W')
    (g5 : ∀ W, (Op.stringOp .add H F).run Tryd.prog W = .ok (.string Y1) W) (g6 : ∀ W, (Op.stringOp .add Y1 ⟨#[0, 0]⟩).run Tryd.prog W = .ok (.string Y2) W) (g7 : ∀ W, (Op.stringOp .add Y2 B).run Tryd.prog W = .ok (.string Y3) W)
    (co : ∀ W, Calls Tryd.prog 21 #[.string Y3] W fun e W' => e = .returned (.int .i64 (c : Int)) ∧ Below W.heap.size W W')
    (hc : ((c : Int) == 0) = false)
    (cs : ∀ W, Calls Tryd.prog 20 #[.int .u64 0, .int .i64 2] W fun e W' => e = .returned (.string T) ∧ Below W.heap.size W W')
    (g3 : ∀ W, (Op.stringOp .add F T).run Tryd.prog W = .ok (.string X3) W) (g4 : ∀ W, (Op.stringOp .add X3 B).run Tryd.prog W = .ok (.string X4) W) :
    Calls Tryd.prog 10 #[.int .u32 (s : Int), .int .u32 (d : Int), .agg #[.int .i64 (a : Int), .int .i64 (b : Int), .bool true, .string B]] w fun e w' => e = .returned (.tuple #[.string X4, .int .i64 0]) ∧ Below w.heap.size w w' := by
  go_enter Tryd.func10, Tryd.ntmps10
  go_wp2_with fail
  refine (unhide k _).mono ?_
  rintro e w1 ⟨rfl, b1⟩
  have hb := bthen (alloc_below w _) b1
  have hr := Below.row b1 (heap_alloc_new w _)
  clear b1 k
  obtain ⟨k0, k1, k2, k3, _⟩ := cells4 hr
  go_wp2_with fail
  have d0 := at_grown c0 w1
  have d1 := at_grown c1 w1
  have d2 := at_grown c2 w1
  have q0 := cell_regrown k0
  have q1 := cell_regrown k1
  have q2 := cell_regrown k2
  have q3 := cell_regrown k3
  clear k0 k1 k2 k3 c0 c1 c2
  refine wp_region_quiet_below (by kernel_rfl) (by kernel_rfl) ?_
  repeat (go_big_quiet_step (first | (go_at_call_of 20 a; exact d0 _ _) | (go_at_call_of 20 b; exact d1 _ _) | (go_at_call 20; exact d2 _ _)))
  refine wpQuiet_nil ?_
  rintro _ ⟨⟨dq, osq⟩, rfl⟩
  have hb2 := grown_then hb dq osq
  have hr2 := Below.row (below_regrown w1 dq osq) hr
  generalize grow (redrawn w1 dq) osq = w2 at *
  clear q0 q1 q2 q3 d0 d1 d2 hr hb
  obtain ⟨k0, k1, k2, k3, _⟩ := cells4 hr2
  go_wp2_with fail
  have d0 := at_grown ch w2
  have d1 := at_grown co w2
  have q3 := cell_regrown k3
  clear k0 k1 k2 k3 ch co
  refine wp_region_quiet_below (by kernel_rfl) (by kernel_rfl) ?_
  repeat (go_big_quiet_step (first | (go_at_call 22; exact d0 _ _) | (go_at_call 21; exact d1 _ _)))
  refine wpQuiet_nil ?_
  rintro _ ⟨⟨dr, osr⟩, rfl⟩
  have hb4 := grown_then hb2 dr osr
  have hr4 := Below.row (below_regrown w2 dr osr) hr2
  generalize grow (redrawn w2 dr) osr = w4 at *
  clear q3 d0 d1 hr2 hb2
  obtain ⟨k0, k1, k2, k3, _⟩ := cells4 hr4
  go_wp2_with fail
  have d0 := at_grown cs w4
  have q3 := cell_regrown k3
  clear k0 k1 k2 k3 cs hr4
  refine wp_region_quiet_below (by kernel_rfl) (by kernel_rfl) ?_
  repeat (go_big_quiet_step ((go_at_call 20; exact d0 _ _)))
  refine wpQuiet_nil ?_
  rintro _ ⟨⟨du, osu⟩, rfl⟩
  go_wp2
  go_ret2
  exact ⟨rfl, grown_then hb4 du osu⟩
set_option maxRecDepth 100000 in
set_option maxHeartbeats 4000000 in
theorem rbuild_ft (a b n s d c : Nat) (B A0 A1 A2 X1 F H Y1 Y2 Y3 T X3 X4 : ByteArray) (w : World) (hB : B.size = n) (hn : (n : Int) ≤ 1700)
    (e0 : IntKind.u64.wrap (a : Int) = (a : Int)) (e1 : IntKind.u64.wrap (b : Int) = (b : Int)) (e2 : IntKind.u64.wrap ((n : Int) + 8) = (n : Int) + 8) 
    (k : Hid (∀ W, Calls Tryd.prog 13 #[.agg #[.int .i64 (a : Int), .int .i64 (b : Int), .bool false, .string B]] W fun e W' => e = .returned (.int .i64 0) ∧ Below W.heap.size W W'))
    (c0 : ∀ W, Calls Tryd.prog 20 #[.int .u64 (a : Int), .int .i64 2] W fun e W' => e = .returned (.string A0) ∧ Below W.heap.size W W')
    (c1 : ∀ W, Calls Tryd.prog 20 #[.int .u64 (b : Int), .int .i64 2] W fun e W' => e = .returned (.string A1) ∧ Below W.heap.size W W')
    (c2 : ∀ W, Calls Tryd.prog 20 #[.int .u64 ((n : Int) + 8), .int .i64 2] W fun e W' => e = .returned (.string A2) ∧ Below W.heap.size W W')
    (g1 : ∀ W, (Op.stringOp .add A0 A1).run Tryd.prog W = .ok (.string X1) W) (g2 : ∀ W, (Op.stringOp .add X1 A2).run Tryd.prog W = .ok (.string F) W)
    (ch : ∀ W, Calls Tryd.prog 22 #[.int .u32 (s : Int), .int .u32 (d : Int), .int .i64 17, .int .i64 ((n : Int) + 8)] W fun e W' => e = .returned (.string H) ∧ Below W.heap.size W W')
    (g5 : ∀ W, (Op.stringOp .add H F).run Tryd.prog W = .ok (.string Y1) W) (g6 : ∀ W, (Op.stringOp .add Y1 ⟨#[0, 0]⟩).run Tryd.prog W = .ok (.string Y2) W) (g7 : ∀ W, (Op.stringOp .add Y2 B).run Tryd.prog W = .ok (.string Y3) W)
    (co : ∀ W, Calls Tryd.prog 21 #[.string Y3] W fun e W' => e = .returned (.int .i64 (c : Int)) ∧ Below W.heap.size W W')
    (hc : ((c : Int) == 0) = true)
    (cs : ∀ W, Calls Tryd.prog 20 #[.int .u64 65535, .int .i64 2] W fun e W' => e = .returned (.string T) ∧ Below W.heap.size W W')
    (g3 : ∀ W, (Op.stringOp .add F T).run Tryd.prog W = .ok (.string X3) W) (g4 : ∀ W, (Op.stringOp .add X3 B).run Tryd.prog W = .ok (.string X4) W) :
    Calls Tryd.prog 10 #[.int .u32 (s : Int), .int .u32 (d : Int), .agg #[.int .i64 (a : Int), .int .i64 (b : Int), .bool false, .string B]] w fun e w' => e = .returned (.tuple #[.string X4, .int .i64 0]) ∧ Below w.heap.size w w' := by
  go_enter Tryd.func10, Tryd.ntmps10
  go_wp2_with fail
  refine (unhide k _).mono ?_
  rintro e w1 ⟨rfl, b1⟩
  have hb := bthen (alloc_below w _) b1
  have hr := Below.row b1 (heap_alloc_new w _)
  clear b1 k
  obtain ⟨k0, k1, k2, k3, _⟩ := cells4 hr
  go_wp2_with fail
  have d0 := at_grown c0 w1
  have d1 := at_grown c1 w1
  have d2 := at_grown c2 w1
  have q0 := cell_regrown k0
  have q1 := cell_regrown k1
  have q2 := cell_regrown k2
  have q3 := cell_regrown k3
  clear k0 k1 k2 k3 c0 c1 c2
  refine wp_region_quiet_below (by kernel_rfl) (by kernel_rfl) ?_
  repeat (go_big_quiet_step (first | (go_at_call_of 20 a; exact d0 _ _) | (go_at_call_of 20 b; exact d1 _ _) | (go_at_call 20; exact d2 _ _)))
  refine wpQuiet_nil ?_
  rintro _ ⟨⟨dq, osq⟩, rfl⟩
  have hb2 := grown_then hb dq osq
  have hr2 := Below.row (below_regrown w1 dq osq) hr
  generalize grow (redrawn w1 dq) osq = w2 at *
  clear q0 q1 q2 q3 d0 d1 d2 hr hb
  obtain ⟨k0, k1, k2, k3, _⟩ := cells4 hr2
  go_wp2_with fail
  have d0 := at_grown ch w2
  have d1 := at_grown co w2
  have q3 := cell_regrown k3
  clear k0 k1 k2 k3 ch co
  refine wp_region_quiet_below (by kernel_rfl) (by kernel_rfl) ?_
  repeat (go_big_quiet_step (first | (go_at_call 22; exact d0 _ _) | (go_at_call 21; exact d1 _ _)))
  refine wpQuiet_nil ?_
  rintro _ ⟨⟨dr, osr⟩, rfl⟩
  have hb4 := grown_then hb2 dr osr
  have hr4 := Below.row (below_regrown w2 dr osr) hr2
  generalize grow (redrawn w2 dr) osr = w4 at *
  clear q3 d0 d1 hr2 hb2
  obtain ⟨k0, k1, k2, k3, _⟩ := cells4 hr4
  go_wp2_with fail
  have d0 := at_grown cs w4
  have q3 := cell_regrown k3
  clear k0 k1 k2 k3 cs hr4
  refine wp_region_quiet_below (by kernel_rfl) (by kernel_rfl) ?_
  repeat (go_big_quiet_step ((go_at_call 20; exact d0 _ _)))
  refine wpQuiet_nil ?_
  rintro _ ⟨⟨du, osu⟩, rfl⟩
  go_wp2
  go_ret2
  exact ⟨rfl, grown_then hb4 du osu⟩
set_option maxRecDepth 100000 in
set_option maxHeartbeats 4000000 in
theorem rbuild_ff (a b n s d c : Nat) (B A0 A1 A2 X1 F H Y1 Y2 Y3 T X3 X4 : ByteArray) (w : World) (hB : B.size = n) (hn : (n : Int) ≤ 1700)
    (e0 : IntKind.u64.wrap (a : Int) = (a : Int)) (e1 : IntKind.u64.wrap (b : Int) = (b : Int)) (e2 : IntKind.u64.wrap ((n : Int) + 8) = (n : Int) + 8) (e3 : IntKind.u64.wrap (c : Int) = (c : Int))
    (k : Hid (∀ W, Calls Tryd.prog 13 #[.agg #[.int .i64 (a : Int), .int .i64 (b : Int), .bool false, .string B]] W fun e W' => e = .returned (.int .i64 0) ∧ Below W.heap.size W W'))
    (c0 : ∀ W, Calls Tryd.prog 20 #[.int .u64 (a : Int), .int .i64 2] W fun e W' => e = .returned (.string A0) ∧ Below W.heap.size W W')
    (c1 : ∀ W, Calls Tryd.prog 20 #[.int .u64 (b : Int), .int .i64 2] W fun e W' => e = .returned (.string A1) ∧ Below W.heap.size W W')
    (c2 : ∀ W, Calls Tryd.prog 20 #[.int .u64 ((n : Int) + 8), .int .i64 2] W fun e W' => e = .returned (.string A2) ∧ Below W.heap.size W W')
    (g1 : ∀ W, (Op.stringOp .add A0 A1).run Tryd.prog W = .ok (.string X1) W) (g2 : ∀ W, (Op.stringOp .add X1 A2).run Tryd.prog W = .ok (.string F) W)
    (ch : ∀ W, Calls Tryd.prog 22 #[.int .u32 (s : Int), .int .u32 (d : Int), .int .i64 17, .int .i64 ((n : Int) + 8)] W fun e W' => e = .returned (.string H) ∧ Below W.heap.size W W')
    (g5 : ∀ W, (Op.stringOp .add H F).run Tryd.prog W = .ok (.string Y1) W) (g6 : ∀ W, (Op.stringOp .add Y1 ⟨#[0, 0]⟩).run Tryd.prog W = .ok (.string Y2) W) (g7 : ∀ W, (Op.stringOp .add Y2 B).run Tryd.prog W = .ok (.string Y3) W)
    (co : ∀ W, Calls Tryd.prog 21 #[.string Y3] W fun e W' => e = .returned (.int .i64 (c : Int)) ∧ Below W.heap.size W W')
    (hc : ((c : Int) == 0) = false)
    (cs : ∀ W, Calls Tryd.prog 20 #[.int .u64 (c : Int), .int .i64 2] W fun e W' => e = .returned (.string T) ∧ Below W.heap.size W W')
    (g3 : ∀ W, (Op.stringOp .add F T).run Tryd.prog W = .ok (.string X3) W) (g4 : ∀ W, (Op.stringOp .add X3 B).run Tryd.prog W = .ok (.string X4) W) :
    Calls Tryd.prog 10 #[.int .u32 (s : Int), .int .u32 (d : Int), .agg #[.int .i64 (a : Int), .int .i64 (b : Int), .bool false, .string B]] w fun e w' => e = .returned (.tuple #[.string X4, .int .i64 0]) ∧ Below w.heap.size w w' := by
  go_enter Tryd.func10, Tryd.ntmps10
  go_wp2_with fail
  refine (unhide k _).mono ?_
  rintro e w1 ⟨rfl, b1⟩
  have hb := bthen (alloc_below w _) b1
  have hr := Below.row b1 (heap_alloc_new w _)
  clear b1 k
  obtain ⟨k0, k1, k2, k3, _⟩ := cells4 hr
  go_wp2_with fail
  have d0 := at_grown c0 w1
  have d1 := at_grown c1 w1
  have d2 := at_grown c2 w1
  have q0 := cell_regrown k0
  have q1 := cell_regrown k1
  have q2 := cell_regrown k2
  have q3 := cell_regrown k3
  clear k0 k1 k2 k3 c0 c1 c2
  refine wp_region_quiet_below (by kernel_rfl) (by kernel_rfl) ?_
  repeat (go_big_quiet_step (first | (go_at_call_of 20 a; exact d0 _ _) | (go_at_call_of 20 b; exact d1 _ _) | (go_at_call 20; exact d2 _ _)))
  refine wpQuiet_nil ?_
  rintro _ ⟨⟨dq, osq⟩, rfl⟩
  have hb2 := grown_then hb dq osq
  have hr2 := Below.row (below_regrown w1 dq osq) hr
  generalize grow (redrawn w1 dq) osq = w2 at *
  clear q0 q1 q2 q3 d0 d1 d2 hr hb
  obtain ⟨k0, k1, k2, k3, _⟩ := cells4 hr2
  go_wp2_with fail
  have d0 := at_grown ch w2
  have d1 := at_grown co w2
  have q3 := cell_regrown k3
  clear k0 k1 k2 k3 ch co
  refine wp_region_quiet_below (by kernel_rfl) (by kernel_rfl) ?_
  repeat (go_big_quiet_step (first | (go_at_call 22; exact d0 _ _) | (go_at_call 21; exact d1 _ _)))
  refine wpQuiet_nil ?_
  rintro _ ⟨⟨dr, osr⟩, rfl⟩
  have hb4 := grown_then hb2 dr osr
  have hr4 := Below.row (below_regrown w2 dr osr) hr2
  generalize grow (redrawn w2 dr) osr = w4 at *
  clear q3 d0 d1 hr2 hb2
  obtain ⟨k0, k1, k2, k3, _⟩ := cells4 hr4
  go_wp2_with fail
  have d0 := at_grown cs w4
  have q3 := cell_regrown k3
  clear k0 k1 k2 k3 cs hr4
  refine wp_region_quiet_below (by kernel_rfl) (by kernel_rfl) ?_
  repeat (go_big_quiet_step ((go_at_call 20; exact d0 _ _)))
  refine wpQuiet_nil ?_
  rintro _ ⟨⟨du, osu⟩, rfl⟩
  go_wp2
  go_ret2
  exact ⟨rfl, grown_then hb4 du osu⟩
theorem rbuild_bad (u : Ud) (s d : Int) (w : World) (h : u.body.length ≤ 1700) (hc : u.check ≠ 0) : Calls Tryd.prog 10 #[.int .u32 s, .int .u32 d, u.val] w fun e w' => e = .returned (.tuple #[.string ByteArray.empty, .int .i64 u.check]) ∧ Below w.heap.size w w' := by
  have C := hide fun W => rcheck_any u W h
  have hz2 : (u.check != 0) = true := by rw [bne_iff_ne]; exact hc
  clear h hc
  obtain ⟨a, b, x, l⟩ := u
  unfold Ud.val at *
  simp only at *
  generalize (Ud.mk a b x l).check = c at *
  go_enter Tryd.func10, Tryd.ntmps10
  go_wp2_with fail
  refine (unhide C _).mono ?_
  rintro e w1 ⟨rfl, b1⟩
  have hb := bthen (alloc_below w _) b1
  clear b1 C
  go_wp2_with fail
  go_ret2
  exact ⟨rfl, hb⟩
theorem rbuild_ok (u : Ud) (s d : Nat) (w : World) (h : u.body.length ≤ 1700) (hs : s < 4294967296) (hd : d < 4294967296) (hc : u.check = 0) :
    Calls Tryd.prog 10 #[.int .u32 (s : Int), .int .u32 (d : Int), u.val] w fun e w' => e = .returned (.tuple #[.string (bs (u.bytes s d)), .int .i64 0]) ∧ Below w.heap.size w w' := by
  have ho := check_ok.1 hc
  have k := fun W => rcheck_any u W h
  rw [hc] at k
  have e : u.bytes s d = u.fore ++ be (u.sum s d) 2 ++ u.body := by unfold Ud.bytes Ud.with; simp only [List.append_assoc]
  have ef : u.fore = be u.src.toNat 2 ++ be u.dst.toNat 2 ++ be (8 + u.body.length) 2 := by unfold Ud.fore; simp only [List.append_assoc]
  have lf := u.fore_length
  have ls := u.sum_le s d
  have c2 := fun W => rbytes (8 + u.body.length) 2 W (by decide) (by omega)
  rw [show ((8 + u.body.length : Nat) : Int) = (u.body.length : Int) + 8 by omega] at c2
  have cs := fun W => rbytes (u.sum s d) 2 W (by decide) (by omega)
  have g2 := fun W => add_bs (be u.src.toNat 2 ++ be u.dst.toNat 2) (be (8 + u.body.length) 2) (by simp [be_length]) W
  rw [← ef] at g2
  have g3 := fun W => add_bs u.fore (be (u.sum s d) 2) (by rw [lf, be_length]; decide) W
  have g4 := fun W => add_bs (u.fore ++ be (u.sum s d) 2) u.body (by rw [List.length_append, lf, be_length]; omega) W
  rw [e]
  have c0 := fun W => rbytes u.src.toNat 2 W (by decide) (by omega)
  have c1 := fun W => rbytes u.dst.toNat 2 W (by decide) (by omega)
  have ev : u.val = .agg #[.int .i64 ((u.src.toNat : Nat) : Int), .int .i64 ((u.dst.toNat : Nat) : Int), .bool u.noSum, .string (bs u.body)] := by
    rw [show ((u.src.toNat : Nat) : Int) = u.src by omega, show ((u.dst.toNat : Nat) : Int) = u.dst by omega]; rfl
  have ch := fun W => rhead s d 17 (8 + u.body.length) 17 (8 + u.body.length) 17 ((u.body.length : Int) + 8) W hs hd (by decide) (by rw [IntKind.wrap_u64]; omega) (by decide) (by omega)
  have g5 := fun W => add_bs (headB s d 17 (8 + u.body.length)) u.fore (by rw [headB_length, lf]; decide) W
  have g6 := fun W => add_bs (headB s d 17 (8 + u.body.length) ++ u.fore) [0, 0] (by rw [List.length_append, headB_length, lf]; decide) W
  have g7 := fun W => add_bs (headB s d 17 (8 + u.body.length) ++ u.fore ++ [0, 0]) u.body (by simp only [List.length_append, headB_length, lf, List.length_cons, List.length_nil]; omega) W
  have co := fun W => rof (headB s d 17 (8 + u.body.length) ++ u.fore ++ [0, 0] ++ u.body) W (by simp only [List.length_append, headB_length, lf, List.length_cons, List.length_nil]; omega)
  have eo : headB s d 17 (8 + u.body.length) ++ u.fore ++ [0, 0] ++ u.body = u.over s d 0 := by
    unfold Ud.over
    rw [show be 0 2 = [0, 0] from rfl]
    simp only [List.append_assoc]
  rw [eo] at co g7
  have lc := ck_le (u.over s d 0)
  have es : u.noSum = false → u.sum s d = told (ck (u.over s d 0)) := fun hn => by
    unfold Ud.sum
    rw [if_neg (by rw [hn]; decide)]
  have co' := fun W => (co W).mono fun e w' (h : e = _ ∧ w' = W) => (⟨h.1, by rw [h.2]; exact Below.refl _ _⟩ : e = _ ∧ Below W.heap.size W w')
  have hz := u.sum_zero s d
  rw [ev] at k ⊢
  have E0 : IntKind.u64.wrap ((u.src.toNat : Nat) : Int) = ((u.src.toNat : Nat) : Int) := u64_id _ (by omega)
  have E1 : IntKind.u64.wrap ((u.dst.toNat : Nat) : Int) = ((u.dst.toNat : Nat) : Int) := u64_id _ (by omega)
  have E2 : IntKind.u64.wrap ((u.body.length : Int) + 8) = (u.body.length : Int) + 8 := by rw [IntKind.wrap_u64]; omega
  have E3 : IntKind.u64.wrap ((ck (u.over s d 0) : Nat) : Int) = ((ck (u.over s d 0) : Nat) : Int) := u64_id _ (by omega)
  have gf := fun W => add_bs (be u.src.toNat 2) (be u.dst.toNat 2) (by simp [be_length]) W
  by_cases hn : u.noSum = true
  · rw [hz.2 hn] at cs g3 g4 ⊢
    rw [hn] at k ⊢
    by_cases c : ck (u.over s d 0) = 0
    · exact rbuild_tt _ _ u.body.length s d _ (bs u.body) _ _ _ _ _ _ _ _ _ _ _ _ w (bs_size _) (by omega) E0 E1 E2 (hide k) c0 c1 c2 gf g2 ch g5 g6 g7 co' (by rw [c]; rfl) cs g3 g4
    · exact rbuild_tf _ _ u.body.length s d _ (bs u.body) _ _ _ _ _ _ _ _ _ _ _ _ w (bs_size _) (by omega) E0 E1 E2 (hide k) c0 c1 c2 gf g2 ch g5 g6 g7 co' (by rw [beq_eq_false_iff_ne]; omega) cs g3 g4
  · have hn : u.noSum = false := by simpa using hn
    rw [es hn] at cs g3 g4 ⊢
    rw [hn] at k ⊢
    by_cases c : ck (u.over s d 0) = 0
    · rw [show told (ck (u.over s d 0)) = 65535 by rw [c]; rfl] at cs g3 g4 ⊢
      exact rbuild_ft _ _ u.body.length s d _ (bs u.body) _ _ _ _ _ _ _ _ _ _ _ _ w (bs_size _) (by omega) E0 E1 E2 (hide k) c0 c1 c2 gf g2 ch g5 g6 g7 co' (by rw [c]; rfl) cs g3 g4
    · rw [show told (ck (u.over s d 0)) = ck (u.over s d 0) by unfold told; rw [if_neg c]] at cs g3 g4 ⊢
      exact rbuild_ff _ _ u.body.length s d _ (bs u.body) _ _ _ _ _ _ _ _ _ _ _ _ w (bs_size _) (by omega) E0 E1 E2 E3 (hide k) c0 c1 c2 gf g2 ch g5 g6 g7 co' (by rw [beq_eq_false_iff_ne]; omega) cs g3 g4
end Go.Proofs.YtcgilcofcjehmaaDoor
