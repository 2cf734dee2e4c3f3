/-
  The document's answer for frames as bytes: the contract of gangwayref04's Build.
-/
import Derived.Test.YtfndofbkfinnmaaDoorRef4a
import Derived.Test.YtfndofbkfinnmaaDoorFixed4
namespace Go.Proofs.YtfndofbkfinnmaaDoor
open Go.RowKit Go.Sort

theorem rbuild_bad (d s : Nat) (has : Bool) (pri : Int) (dei : Bool) (vid ty : Int) (l : List UInt8) (w : World) (hl : l.length ≤ 10000) (h : (Fr.mk d s has pri dei vid ty l).check ≠ 0) :
    Calls Tryd.prog 9 #[.agg #[.int .u64 d, .int .u64 s, .bool has, .int .i64 pri, .bool dei, .int .i64 vid, .int .i64 ty, .string (bs l)]] w fun e w' => e = .returned (.tuple #[.string ByteArray.empty, .int .i64 (Fr.mk d s has pri dei vid ty l).check]) ∧ Below w.heap.size w w' := by
  have C := hide (fun W => rcheck d s has pri dei vid ty l W hl)
  generalize (Fr.mk d s has pri dei vid ty l).check = c at *
  go_enter Tryd.func9, Tryd.ntmps9
  go_wp2_with fail
  refine (unhide C _).mono ?_
  rintro e w1 ⟨rfl, b1⟩
  have hb := bthen (alloc_below w _) b1
  clear b1 C
  go_wp2_with fail
  go_ret2
  exact ⟨rfl, hb⟩
set_option maxRecDepth 20000 in
set_option maxHeartbeats 4000000 in
theorem rbuild_go_001 (d s t : Nat) (B D S K X Z R : ByteArray) (w : World) (ht : B.size = t) (hB : B.size ≤ 10000)
    (cC : Hid (∀ W, Calls Tryd.prog 13 #[.agg #[.int .u64 (d : Int), .int .u64 (s : Int), .bool false, .int .i64 0, .bool false, .int .i64 0, .int .i64 0, .string B]] W fun e w' => e = .returned (.int .i64 0) ∧ Below W.heap.size W w'))
    (cD : ∀ W, Calls Tryd.prog 21 #[.int .u64 d, .int .i64 6] W fun e w' => e = .returned (.string D) ∧ Below W.heap.size W w')
    (cS : ∀ W, Calls Tryd.prog 21 #[.int .u64 s, .int .i64 6] W fun e w' => e = .returned (.string S) ∧ Below W.heap.size W w')
    (cK : ∀ W, Calls Tryd.prog 21 #[.int .u64 t, .int .i64 2] W fun e w' => e = .returned (.string K) ∧ Below W.heap.size W w')
    (g1 : ∀ W, (Op.stringOp .add D S).run Tryd.prog W = .ok (.string X) W)
    (g4 : ∀ W, (Op.stringOp .add X K).run Tryd.prog W = .ok (.string Z) W) (g5 : ∀ W, (Op.stringOp .add Z B).run Tryd.prog W = .ok (.string R) W) :
    Calls Tryd.prog 9 #[.agg #[.int .u64 (d : Int), .int .u64 (s : Int), .bool false, .int .i64 0, .bool false, .int .i64 0, .int .i64 0, .string B]] w fun e w' => e = .returned (.tuple #[.string R, .int .i64 0]) ∧ Below w.heap.size w w' := by
  go_enter Tryd.func9, Tryd.ntmps9
  go_wp2_with fail
  refine (unhide cC _).mono ?_
  rintro e w1 ⟨rfl, b1⟩
  have hb1 := bthen (alloc_below w _) b1
  have hrow1 := Below.row b1 (heap_alloc_new w _)
  clear b1 cC
  go_wp2_with fail
  have cD' := at_grown cD w1
  have cS' := at_grown cS w1
  obtain ⟨k0, k1, k2, k3, k4, k5, k6, k7, _⟩ := cells8 hrow1
  have q0 := cell_regrown k0
  have q1 := cell_regrown k1
  have q2 := cell_regrown k2
  have q3 := cell_regrown k3
  have q4 := cell_regrown k4
  have q5 := cell_regrown k5
  have q6 := cell_regrown k6
  have q7 := cell_regrown k7
  clear k0 k1 k2 k3 k4 k5 k6 k7
  refine wp_region_quiet_below (by kernel_rfl) (by kernel_rfl) ?_
  repeat (go_big_quiet_step (first | (go_at_call_of 21 d; exact cD' _ _) | (go_at_call_of 21 s; exact cS' _ _)))
  refine wpQuiet_nil ?_
  rintro _ ⟨⟨dq, osq⟩, rfl⟩
  have b2 := below_regrown w1 dq osq
  have hb2 := bthen hb1 b2
  have hrow2 := Below.row b2 hrow1
  clear b2 hb1 hrow1 cD cS cD' cS' q0 q1 q2 q3 q4 q5 q6 q7
  generalize grow (redrawn w1 dq) osq = w2 at *
  obtain ⟨k0, k1, k2, k3, k4, k5, k6, k7, _⟩ := cells8 hrow2
  go_wp2_with fail
  have cK' := at_grown cK w2
  have q7 := cell_regrown k7
  clear k0 k1 k2 k3 k4 k5 k6 k7
  refine wp_region_quiet_below (by kernel_rfl) (by kernel_rfl) ?_
  repeat (go_big_quiet_step (first | (go_at_call 21; exact cK' _ _)))
  refine wpQuiet_nil ?_
  rintro _ ⟨⟨dq, osq⟩, rfl⟩
  go_wp2
  go_ret2
  exact ⟨rfl, grown_then hb2 dq osq⟩
set_option maxRecDepth 20000 in
set_option maxHeartbeats 4000000 in
theorem rbuild_go_000 (d s t : Nat) (ty : Int) (B D S K X Z R : ByteArray) (w : World) (hty : ty ≠ 0) (hc : IntKind.u64.wrap ty = (t : Int))
    (cC : Hid (∀ W, Calls Tryd.prog 13 #[.agg #[.int .u64 (d : Int), .int .u64 (s : Int), .bool false, .int .i64 0, .bool false, .int .i64 0, .int .i64 ty, .string B]] W fun e w' => e = .returned (.int .i64 0) ∧ Below W.heap.size W w'))
    (cD : ∀ W, Calls Tryd.prog 21 #[.int .u64 d, .int .i64 6] W fun e w' => e = .returned (.string D) ∧ Below W.heap.size W w')
    (cS : ∀ W, Calls Tryd.prog 21 #[.int .u64 s, .int .i64 6] W fun e w' => e = .returned (.string S) ∧ Below W.heap.size W w')
    (cK : ∀ W, Calls Tryd.prog 21 #[.int .u64 t, .int .i64 2] W fun e w' => e = .returned (.string K) ∧ Below W.heap.size W w')
    (g1 : ∀ W, (Op.stringOp .add D S).run Tryd.prog W = .ok (.string X) W)
    (g4 : ∀ W, (Op.stringOp .add X K).run Tryd.prog W = .ok (.string Z) W) (g5 : ∀ W, (Op.stringOp .add Z B).run Tryd.prog W = .ok (.string R) W) :
    Calls Tryd.prog 9 #[.agg #[.int .u64 (d : Int), .int .u64 (s : Int), .bool false, .int .i64 0, .bool false, .int .i64 0, .int .i64 ty, .string B]] w fun e w' => e = .returned (.tuple #[.string R, .int .i64 0]) ∧ Below w.heap.size w w' := by
  go_enter Tryd.func9, Tryd.ntmps9
  go_wp2_with fail
  refine (unhide cC _).mono ?_
  rintro e w1 ⟨rfl, b1⟩
  have hb1 := bthen (alloc_below w _) b1
  have hrow1 := Below.row b1 (heap_alloc_new w _)
  clear b1 cC
  go_wp2_with fail
  have cD' := at_grown cD w1
  have cS' := at_grown cS w1
  obtain ⟨k0, k1, k2, k3, k4, k5, k6, k7, _⟩ := cells8 hrow1
  have q0 := cell_regrown k0
  have q1 := cell_regrown k1
  have q2 := cell_regrown k2
  have q3 := cell_regrown k3
  have q4 := cell_regrown k4
  have q5 := cell_regrown k5
  have q6 := cell_regrown k6
  have q7 := cell_regrown k7
  clear k0 k1 k2 k3 k4 k5 k6 k7
  refine wp_region_quiet_below (by kernel_rfl) (by kernel_rfl) ?_
  repeat (go_big_quiet_step (first | (go_at_call_of 21 d; exact cD' _ _) | (go_at_call_of 21 s; exact cS' _ _)))
  refine wpQuiet_nil ?_
  rintro _ ⟨⟨dq, osq⟩, rfl⟩
  have b2 := below_regrown w1 dq osq
  have hb2 := bthen hb1 b2
  have hrow2 := Below.row b2 hrow1
  clear b2 hb1 hrow1 cD cS cD' cS' q0 q1 q2 q3 q4 q5 q6 q7
  generalize grow (redrawn w1 dq) osq = w2 at *
  obtain ⟨k0, k1, k2, k3, k4, k5, k6, k7, _⟩ := cells8 hrow2
  go_wp2_with fail
  have cK' := at_grown cK w2
  have q7 := cell_regrown k7
  clear k0 k1 k2 k3 k4 k5 k6 k7
  refine wp_region_quiet_below (by kernel_rfl) (by kernel_rfl) ?_
  repeat (go_big_quiet_step (first | (go_at_call 21; exact cK' _ _)))
  refine wpQuiet_nil ?_
  rintro _ ⟨⟨dq, osq⟩, rfl⟩
  go_wp2
  go_ret2
  exact ⟨rfl, grown_then hb2 dq osq⟩
set_option maxRecDepth 20000 in
set_option maxHeartbeats 4000000 in
theorem rbuild_go_101 (d s p v n t : Nat) (B D S K X Z R M MM Y : ByteArray) (w : World) (ht : B.size = t) (hB : B.size ≤ 10000) (hp : p ≤ 7) (hn : (p : Int) * 8192 + (v : Int) = (n : Int)) (hn1 : n < 65536)
    (cC : Hid (∀ W, Calls Tryd.prog 13 #[.agg #[.int .u64 (d : Int), .int .u64 (s : Int), .bool true, .int .i64 (p : Int), .bool false, .int .i64 (v : Int), .int .i64 0, .string B]] W fun e w' => e = .returned (.int .i64 0) ∧ Below W.heap.size W w'))
    (cD : ∀ W, Calls Tryd.prog 21 #[.int .u64 d, .int .i64 6] W fun e w' => e = .returned (.string D) ∧ Below W.heap.size W w')
    (cS : ∀ W, Calls Tryd.prog 21 #[.int .u64 s, .int .i64 6] W fun e w' => e = .returned (.string S) ∧ Below W.heap.size W w')
    (cK : ∀ W, Calls Tryd.prog 21 #[.int .u64 t, .int .i64 2] W fun e w' => e = .returned (.string K) ∧ Below W.heap.size W w')
    (cN : ∀ W, Calls Tryd.prog 21 #[.int .u64 n, .int .i64 2] W fun e w' => e = .returned (.string M) ∧ Below W.heap.size W w')
    (g2 : ∀ W, (Op.stringOp .add ⟨#[129, 0]⟩ M).run Tryd.prog W = .ok (.string MM) W) (g3 : ∀ W, (Op.stringOp .add X MM).run Tryd.prog W = .ok (.string Y) W)
    (g1 : ∀ W, (Op.stringOp .add D S).run Tryd.prog W = .ok (.string X) W)
    (g4 : ∀ W, (Op.stringOp .add Y K).run Tryd.prog W = .ok (.string Z) W) (g5 : ∀ W, (Op.stringOp .add Z B).run Tryd.prog W = .ok (.string R) W) :
    Calls Tryd.prog 9 #[.agg #[.int .u64 (d : Int), .int .u64 (s : Int), .bool true, .int .i64 (p : Int), .bool false, .int .i64 (v : Int), .int .i64 0, .string B]] w fun e w' => e = .returned (.tuple #[.string R, .int .i64 0]) ∧ Below w.heap.size w w' := by
  go_enter Tryd.func9, Tryd.ntmps9
  go_wp2_with fail
  refine (unhide cC _).mono ?_
  rintro e w1 ⟨rfl, b1⟩
  have hb1 := bthen (alloc_below w _) b1
  have hrow1 := Below.row b1 (heap_alloc_new w _)
  clear b1 cC
  go_wp2_with fail
  have cD' := at_grown cD w1
  have cS' := at_grown cS w1
  obtain ⟨k0, k1, k2, k3, k4, k5, k6, k7, _⟩ := cells8 hrow1
  have q0 := cell_regrown k0
  have q1 := cell_regrown k1
  have q2 := cell_regrown k2
  have q3 := cell_regrown k3
  have q4 := cell_regrown k4
  have q5 := cell_regrown k5
  have q6 := cell_regrown k6
  have q7 := cell_regrown k7
  clear k0 k1 k2 k3 k4 k5 k6 k7
  refine wp_region_quiet_below (by kernel_rfl) (by kernel_rfl) ?_
  repeat (go_big_quiet_step (first | (go_at_call_of 21 d; exact cD' _ _) | (go_at_call_of 21 s; exact cS' _ _)))
  refine wpQuiet_nil ?_
  rintro _ ⟨⟨dq, osq⟩, rfl⟩
  have b2 := below_regrown w1 dq osq
  have hb2 := bthen hb1 b2
  have hrow2 := Below.row b2 hrow1
  clear b2 hb1 hrow1 cD cS cD' cS' q0 q1 q2 q3 q4 q5 q6 q7
  generalize grow (redrawn w1 dq) osq = w2 at *
  obtain ⟨k0, k1, k2, k3, k4, k5, k6, k7, _⟩ := cells8 hrow2
  go_wp2_with fail
  refine (cN _).mono ?_
  rintro e w3 ⟨rfl, b3⟩
  have hb3 := bthen hb2 b3
  have hrow3 := Below.row b3 hrow2
  clear b3 hb2 hrow2 cN k0 k1 k2 k3 k4 k5 k6 k7
  obtain ⟨k0, k1, k2, k3, k4, k5, k6, k7, _⟩ := cells8 hrow3
  go_wp2_with fail
  have cK' := at_grown cK w3
  have q7 := cell_regrown k7
  clear k0 k1 k2 k3 k4 k5 k6 k7
  refine wp_region_quiet_below (by kernel_rfl) (by kernel_rfl) ?_
  repeat (go_big_quiet_step (first | (go_at_call 21; exact cK' _ _)))
  refine wpQuiet_nil ?_
  rintro _ ⟨⟨dq, osq⟩, rfl⟩
  go_wp2
  go_ret2
  exact ⟨rfl, grown_then hb3 dq osq⟩
set_option maxRecDepth 20000 in
set_option maxHeartbeats 4000000 in
theorem rbuild_go_100 (d s p v n t : Nat) (ty : Int) (B D S K X Z R M MM Y : ByteArray) (w : World) (hty : ty ≠ 0) (hc : IntKind.u64.wrap ty = (t : Int)) (hp : p ≤ 7) (hn : (p : Int) * 8192 + (v : Int) = (n : Int)) (hn1 : n < 65536)
    (cC : Hid (∀ W, Calls Tryd.prog 13 #[.agg #[.int .u64 (d : Int), .int .u64 (s : Int), .bool true, .int .i64 (p : Int), .bool false, .int .i64 (v : Int), .int .i64 ty, .string B]] W fun e w' => e = .returned (.int .i64 0) ∧ Below W.heap.size W w'))
    (cD : ∀ W, Calls Tryd.prog 21 #[.int .u64 d, .int .i64 6] W fun e w' => e = .returned (.string D) ∧ Below W.heap.size W w')
    (cS : ∀ W, Calls Tryd.prog 21 #[.int .u64 s, .int .i64 6] W fun e w' => e = .returned (.string S) ∧ Below W.heap.size W w')
    (cK : ∀ W, Calls Tryd.prog 21 #[.int .u64 t, .int .i64 2] W fun e w' => e = .returned (.string K) ∧ Below W.heap.size W w')
    (cN : ∀ W, Calls Tryd.prog 21 #[.int .u64 n, .int .i64 2] W fun e w' => e = .returned (.string M) ∧ Below W.heap.size W w')
    (g2 : ∀ W, (Op.stringOp .add ⟨#[129, 0]⟩ M).run Tryd.prog W = .ok (.string MM) W) (g3 : ∀ W, (Op.stringOp .add X MM).run Tryd.prog W = .ok (.string Y) W)
    (g1 : ∀ W, (Op.stringOp .add D S).run Tryd.prog W = .ok (.string X) W)
    (g4 : ∀ W, (Op.stringOp .add Y K).run Tryd.prog W = .ok (.string Z) W) (g5 : ∀ W, (Op.stringOp .add Z B).run Tryd.prog W = .ok (.string R) W) :
    Calls Tryd.prog 9 #[.agg #[.int .u64 (d : Int), .int .u64 (s : Int), .bool true, .int .i64 (p : Int), .bool false, .int .i64 (v : Int), .int .i64 ty, .string B]] w fun e w' => e = .returned (.tuple #[.string R, .int .i64 0]) ∧ Below w.heap.size w w' := by
  go_enter Tryd.func9, Tryd.ntmps9
  go_wp2_with fail
  refine (unhide cC _).mono ?_
  rintro e w1 ⟨rfl, b1⟩
  have hb1 := bthen (alloc_below w _) b1
  have hrow1 := Below.row b1 (heap_alloc_new w _)
  clear b1 cC
  go_wp2_with fail
  have cD' := at_grown cD w1
  have cS' := at_grown cS w1
  obtain ⟨k0, k1, k2, k3, k4, k5, k6, k7, _⟩ := cells8 hrow1
  have q0 := cell_regrown k0
  have q1 := cell_regrown k1
  have q2 := cell_regrown k2
  have q3 := cell_regrown k3
  have q4 := cell_regrown k4
  have q5 := cell_regrown k5
  have q6 := cell_regrown k6
  have q7 := cell_regrown k7
  clear k0 k1 k2 k3 k4 k5 k6 k7
  refine wp_region_quiet_below (by kernel_rfl) (by kernel_rfl) ?_
  repeat (go_big_quiet_step (first | (go_at_call_of 21 d; exact cD' _ _) | (go_at_call_of 21 s; exact cS' _ _)))
  refine wpQuiet_nil ?_
  rintro _ ⟨⟨dq, osq⟩, rfl⟩
  have b2 := below_regrown w1 dq osq
  have hb2 := bthen hb1 b2
  have hrow2 := Below.row b2 hrow1
  clear b2 hb1 hrow1 cD cS cD' cS' q0 q1 q2 q3 q4 q5 q6 q7
  generalize grow (redrawn w1 dq) osq = w2 at *
  obtain ⟨k0, k1, k2, k3, k4, k5, k6, k7, _⟩ := cells8 hrow2
  go_wp2_with fail
  refine (cN _).mono ?_
  rintro e w3 ⟨rfl, b3⟩
  have hb3 := bthen hb2 b3
  have hrow3 := Below.row b3 hrow2
  clear b3 hb2 hrow2 cN k0 k1 k2 k3 k4 k5 k6 k7
  obtain ⟨k0, k1, k2, k3, k4, k5, k6, k7, _⟩ := cells8 hrow3
  go_wp2_with fail
  have cK' := at_grown cK w3
  have q7 := cell_regrown k7
  clear k0 k1 k2 k3 k4 k5 k6 k7
  refine wp_region_quiet_below (by kernel_rfl) (by kernel_rfl) ?_
  repeat (go_big_quiet_step (first | (go_at_call 21; exact cK' _ _)))
  refine wpQuiet_nil ?_
  rintro _ ⟨⟨dq, osq⟩, rfl⟩
  go_wp2
  go_ret2
  exact ⟨rfl, grown_then hb3 dq osq⟩
set_option maxRecDepth 20000 in
set_option maxHeartbeats 4000000 in
theorem rbuild_go_111 (d s p v n n0 t : Nat) (B D S K X Z R M MM Y : ByteArray) (w : World) (ht : B.size = t) (hB : B.size ≤ 10000) (hp : p ≤ 7) (hn0 : (p : Int) * 8192 + (v : Int) = (n0 : Int)) (hn : (n0 : Int) + 4096 = (n : Int)) (hn1 : n < 65536)
    (cC : Hid (∀ W, Calls Tryd.prog 13 #[.agg #[.int .u64 (d : Int), .int .u64 (s : Int), .bool true, .int .i64 (p : Int), .bool true, .int .i64 (v : Int), .int .i64 0, .string B]] W fun e w' => e = .returned (.int .i64 0) ∧ Below W.heap.size W w'))
    (cD : ∀ W, Calls Tryd.prog 21 #[.int .u64 d, .int .i64 6] W fun e w' => e = .returned (.string D) ∧ Below W.heap.size W w')
    (cS : ∀ W, Calls Tryd.prog 21 #[.int .u64 s, .int .i64 6] W fun e w' => e = .returned (.string S) ∧ Below W.heap.size W w')
    (cK : ∀ W, Calls Tryd.prog 21 #[.int .u64 t, .int .i64 2] W fun e w' => e = .returned (.string K) ∧ Below W.heap.size W w')
    (cN : ∀ W, Calls Tryd.prog 21 #[.int .u64 n, .int .i64 2] W fun e w' => e = .returned (.string M) ∧ Below W.heap.size W w')
    (g2 : ∀ W, (Op.stringOp .add ⟨#[129, 0]⟩ M).run Tryd.prog W = .ok (.string MM) W) (g3 : ∀ W, (Op.stringOp .add X MM).run Tryd.prog W = .ok (.string Y) W)
    (g1 : ∀ W, (Op.stringOp .add D S).run Tryd.prog W = .ok (.string X) W)
    (g4 : ∀ W, (Op.stringOp .add Y K).run Tryd.prog W = .ok (.string Z) W) (g5 : ∀ W, (Op.stringOp .add Z B).run Tryd.prog W = .ok (.string R) W) :
    Calls Tryd.prog 9 #[.agg #[.int .u64 (d : Int), .int .u64 (s : Int), .bool true, .int .i64 (p : Int), .bool true, .int .i64 (v : Int), .int .i64 0, .string B]] w fun e w' => e = .returned (.tuple #[.string R, .int .i64 0]) ∧ Below w.heap.size w w' := by
  go_enter Tryd.func9, Tryd.ntmps9
  go_wp2_with fail
  refine (unhide cC _).mono ?_
  rintro e w1 ⟨rfl, b1⟩
  have hb1 := bthen (alloc_below w _) b1
  have hrow1 := Below.row b1 (heap_alloc_new w _)
  clear b1 cC
  go_wp2_with fail
  have cD' := at_grown cD w1
  have cS' := at_grown cS w1
  obtain ⟨k0, k1, k2, k3, k4, k5, k6, k7, _⟩ := cells8 hrow1
  have q0 := cell_regrown k0
  have q1 := cell_regrown k1
  have q2 := cell_regrown k2
  have q3 := cell_regrown k3
  have q4 := cell_regrown k4
  have q5 := cell_regrown k5
  have q6 := cell_regrown k6
  have q7 := cell_regrown k7
  clear k0 k1 k2 k3 k4 k5 k6 k7
  refine wp_region_quiet_below (by kernel_rfl) (by kernel_rfl) ?_
  repeat (go_big_quiet_step (first | (go_at_call_of 21 d; exact cD' _ _) | (go_at_call_of 21 s; exact cS' _ _)))
  refine wpQuiet_nil ?_
  rintro _ ⟨⟨dq, osq⟩, rfl⟩
  have b2 := below_regrown w1 dq osq
  have hb2 := bthen hb1 b2
  have hrow2 := Below.row b2 hrow1
  clear b2 hb1 hrow1 cD cS cD' cS' q0 q1 q2 q3 q4 q5 q6 q7
  generalize grow (redrawn w1 dq) osq = w2 at *
  obtain ⟨k0, k1, k2, k3, k4, k5, k6, k7, _⟩ := cells8 hrow2
  go_wp2_with fail
  refine (cN _).mono ?_
  rintro e w3 ⟨rfl, b3⟩
  have hb3 := bthen hb2 b3
  have hrow3 := Below.row b3 hrow2
  clear b3 hb2 hrow2 cN k0 k1 k2 k3 k4 k5 k6 k7
  obtain ⟨k0, k1, k2, k3, k4, k5, k6, k7, _⟩ := cells8 hrow3
  go_wp2_with fail
  have cK' := at_grown cK w3
  have q7 := cell_regrown k7
  clear k0 k1 k2 k3 k4 k5 k6 k7
  refine wp_region_quiet_below (by kernel_rfl) (by kernel_rfl) ?_
  repeat (go_big_quiet_step (first | (go_at_call 21; exact cK' _ _)))
  refine wpQuiet_nil ?_
  rintro _ ⟨⟨dq, osq⟩, rfl⟩
  go_wp2
  go_ret2
  exact ⟨rfl, grown_then hb3 dq osq⟩
set_option maxRecDepth 20000 in
set_option maxHeartbeats 4000000 in
theorem rbuild_go_110 (d s p v n n0 t : Nat) (ty : Int) (B D S K X Z R M MM Y : ByteArray) (w : World) (hty : ty ≠ 0) (hc : IntKind.u64.wrap ty = (t : Int)) (hp : p ≤ 7) (hn0 : (p : Int) * 8192 + (v : Int) = (n0 : Int)) (hn : (n0 : Int) + 4096 = (n : Int)) (hn1 : n < 65536)
    (cC : Hid (∀ W, Calls Tryd.prog 13 #[.agg #[.int .u64 (d : Int), .int .u64 (s : Int), .bool true, .int .i64 (p : Int), .bool true, .int .i64 (v : Int), .int .i64 ty, .string B]] W fun e w' => e = .returned (.int .i64 0) ∧ Below W.heap.size W w'))
    (cD : ∀ W, Calls Tryd.prog 21 #[.int .u64 d, .int .i64 6] W fun e w' => e = .returned (.string D) ∧ Below W.heap.size W w')
    (cS : ∀ W, Calls Tryd.prog 21 #[.int .u64 s, .int .i64 6] W fun e w' => e = .returned (.string S) ∧ Below W.heap.size W w')
    (cK : ∀ W, Calls Tryd.prog 21 #[.int .u64 t, .int .i64 2] W fun e w' => e = .returned (.string K) ∧ Below W.heap.size W w')
    (cN : ∀ W, Calls Tryd.prog 21 #[.int .u64 n, .int .i64 2] W fun e w' => e = .returned (.string M) ∧ Below W.heap.size W w')
    (g2 : ∀ W, (Op.stringOp .add ⟨#[129, 0]⟩ M).run Tryd.prog W = .ok (.string MM) W) (g3 : ∀ W, (Op.stringOp .add X MM).run Tryd.prog W = .ok (.string Y) W)
    (g1 : ∀ W, (Op.stringOp .add D S).run Tryd.prog W = .ok (.string X) W)
    (g4 : ∀ W, (Op.stringOp .add Y K).run Tryd.prog W = .ok (.string Z) W) (g5 : ∀ W, (Op.stringOp .add Z B).run Tryd.prog W = .ok (.string R) W) :
    Calls Tryd.prog 9 #[.agg #[.int .u64 (d : Int), .int .u64 (s : Int), .bool true, .int .i64 (p : Int), .bool true, .int .i64 (v : Int), .int .i64 ty, .string B]] w fun e w' => e = .returned (.tuple #[.string R, .int .i64 0]) ∧ Below w.heap.size w w' := by
  go_enter Tryd.func9, Tryd.ntmps9
  go_wp2_with fail
  refine (unhide cC _).mono ?_
  rintro e w1 ⟨rfl, b1⟩
  have hb1 := bthen (alloc_below w _) b1
  have hrow1 := Below.row b1 (heap_alloc_new w _)
  clear b1 cC
  go_wp2_with fail
  have cD' := at_grown cD w1
  have cS' := at_grown cS w1
  obtain ⟨k0, k1, k2, k3, k4, k5, k6, k7, _⟩ := cells8 hrow1
  have q0 := cell_regrown k0
  have q1 := cell_regrown k1
  have q2 := cell_regrown k2
  have q3 := cell_regrown k3
  have q4 := cell_regrown k4
  have q5 := cell_regrown k5
  have q6 := cell_regrown k6
  have q7 := cell_regrown k7
  clear k0 k1 k2 k3 k4 k5 k6 k7
  refine wp_region_quiet_below (by kernel_rfl) (by kernel_rfl) ?_
  repeat (go_big_quiet_step (first | (go_at_call_of 21 d; exact cD' _ _) | (go_at_call_of 21 s; exact cS' _ _)))
  refine wpQuiet_nil ?_
  rintro _ ⟨⟨dq, osq⟩, rfl⟩
  have b2 := below_regrown w1 dq osq
  have hb2 := bthen hb1 b2
  have hrow2 := Below.row b2 hrow1
  clear b2 hb1 hrow1 cD cS cD' cS' q0 q1 q2 q3 q4 q5 q6 q7
  generalize grow (redrawn w1 dq) osq = w2 at *
  obtain ⟨k0, k1, k2, k3, k4, k5, k6, k7, _⟩ := cells8 hrow2
  go_wp2_with fail
  refine (cN _).mono ?_
  rintro e w3 ⟨rfl, b3⟩
  have hb3 := bthen hb2 b3
  have hrow3 := Below.row b3 hrow2
  clear b3 hb2 hrow2 cN k0 k1 k2 k3 k4 k5 k6 k7
  obtain ⟨k0, k1, k2, k3, k4, k5, k6, k7, _⟩ := cells8 hrow3
  go_wp2_with fail
  have cK' := at_grown cK w3
  have q7 := cell_regrown k7
  clear k0 k1 k2 k3 k4 k5 k6 k7
  refine wp_region_quiet_below (by kernel_rfl) (by kernel_rfl) ?_
  repeat (go_big_quiet_step (first | (go_at_call 21; exact cK' _ _)))
  refine wpQuiet_nil ?_
  rintro _ ⟨⟨dq, osq⟩, rfl⟩
  go_wp2
  go_ret2
  exact ⟨rfl, grown_then hb3 dq osq⟩
theorem rbuild_ok (d s : Nat) (has : Bool) (pri : Int) (dei : Bool) (vid ty : Int) (l : List UInt8) (w : World) (h : (Fr.mk d s has pri dei vid ty l).check = 0) :
    Calls Tryd.prog 9 #[.agg #[.int .u64 d, .int .u64 s, .bool has, .int .i64 pri, .bool dei, .int .i64 vid, .int .i64 ty, .string (bs l)]] w fun e w' => e = .returned (.tuple #[.string (bs (Fr.mk d s has pri dei vid ty l).bytes), .int .i64 0]) ∧ Below w.heap.size w w' := by
  have c := check_spec _ h
  have t := tl_lt h
  simp only at c t
  have hsz : 14 + l.length + (if has then 4 else 0) ≤ 1600 := c.2.2.2.2
  have hl : l.length ≤ 10000 := by omega
  have cC := fun W => rcheck d s has pri dei vid ty l W hl
  rw [h] at cC
  have cD := fun W => rbytes d 6 W (by decide) (by omega)
  have cS := fun W => rbytes s 6 W (by decide) (by omega)
  have cK := fun W => rbytes (Fr.mk d s has pri dei vid ty l).tl 2 W (by decide) (by omega)
  have l6 := be_length d 6
  have m6 := be_length s 6
  have k2 := be_length (Fr.mk d s has pri dei vid ty l).tl 2
  have g1 := add_bs (be d 6) (be s 6) (by omega)
  cases has
  · have tg : pri = 0 ∧ dei = false ∧ vid = 0 := by simpa [tagOk] using c.2.2.1
    obtain ⟨rfl, rfl, rfl⟩ := tg
    have g4 := add_bs (be d 6 ++ be s 6) (be (Fr.mk d s false 0 false 0 ty l).tl 2) (by simp only [List.length_append]; omega)
    have g5 := add_bs (be d 6 ++ be s 6 ++ be (Fr.mk d s false 0 false 0 ty l).tl 2) l (by simp only [List.length_append]; omega)
    have e : (Fr.mk d s false 0 false 0 ty l).bytes = be d 6 ++ be s 6 ++ be (Fr.mk d s false 0 false 0 ty l).tl 2 ++ l := by unfold Fr.bytes Fr.tagB; simp
    rw [e]
    by_cases z : ty = 0
    · subst z
      exact rbuild_go_001 d s _ (bs l) _ _ _ _ _ _ w (by rw [bs_size]; exact (t.2.2.1 rfl).1.symm) (by rw [bs_size]; exact hl) (hide cC) cD cS cK g1 g4 g5
    · exact rbuild_go_000 d s _ ty (bs l) _ _ _ _ _ _ w z ((congrArg IntKind.u64.wrap (t.2.2.2 z).1).symm.trans (u64_small _ t.1)) (hide cC) cD cS cK g1 g4 g5
  · have tg : 0 ≤ pri ∧ pri ≤ 7 ∧ 0 ≤ vid ∧ vid ≤ 4095 := by simpa [tagOk] using c.2.2.1
    obtain ⟨p, rfl⟩ : ∃ p : Nat, pri = p := ⟨pri.toNat, by omega⟩
    obtain ⟨v, rfl⟩ : ∃ v : Nat, vid = v := ⟨vid.toNat, by omega⟩
    have n2 := be_length (tagNum p dei v) 2
    have tn := tagNum_lt (pri := p) (vid := v) (dei := dei) c.2.2.1
    have cN := fun W => rbytes (tagNum p dei v) 2 W (by decide) (by omega)
    have g2 := add_bs [129, 0] (be (tagNum p dei v) 2) (by simp only [List.length_cons, List.length_nil]; omega)
    have g3 := add_bs (be d 6 ++ be s 6) ([129, 0] ++ be (tagNum p dei v) 2) (by simp only [List.length_append, List.length_cons, List.length_nil]; omega)
    have g4 := add_bs (be d 6 ++ be s 6 ++ ([129, 0] ++ be (tagNum p dei v) 2)) (be (Fr.mk d s true p dei v ty l).tl 2) (by simp only [List.length_append, List.length_cons, List.length_nil]; omega)
    have g5 := add_bs (be d 6 ++ be s 6 ++ ([129, 0] ++ be (tagNum p dei v) 2) ++ be (Fr.mk d s true p dei v ty l).tl 2) l (by simp only [List.length_append, List.length_cons, List.length_nil]; omega)
    have e : (Fr.mk d s true p dei v ty l).bytes = be d 6 ++ be s 6 ++ ([129, 0] ++ be (tagNum p dei v) 2) ++ be (Fr.mk d s true p dei v ty l).tl 2 ++ l := rfl
    rw [e]
    cases dei
    · have hn : (p : Int) * 8192 + (v : Int) = ((tagNum p false v : Nat) : Int) := by unfold tagNum; simp
      by_cases z : ty = 0
      · subst z
        exact rbuild_go_101 d s p v _ _ (bs l) _ _ _ _ _ _ _ _ _ w (by rw [bs_size]; exact (t.2.2.1 rfl).1.symm) (by rw [bs_size]; exact hl) (by omega) hn tn.1 (hide cC) cD cS cK cN g2 g3 g1 g4 g5
      · exact rbuild_go_100 d s p v _ _ ty (bs l) _ _ _ _ _ _ _ _ _ w z ((congrArg IntKind.u64.wrap (t.2.2.2 z).1).symm.trans (u64_small _ t.1)) (by omega) hn tn.1 (hide cC) cD cS cK cN g2 g3 g1 g4 g5
    · have hn0 : (p : Int) * 8192 + (v : Int) = ((p * 8192 + v : Nat) : Int) := by omega
      have hn : ((p * 8192 + v : Nat) : Int) + 4096 = ((tagNum p true v : Nat) : Int) := by unfold tagNum; simp; omega
      by_cases z : ty = 0
      · subst z
        exact rbuild_go_111 d s p v _ _ _ (bs l) _ _ _ _ _ _ _ _ _ w (by rw [bs_size]; exact (t.2.2.1 rfl).1.symm) (by rw [bs_size]; exact hl) (by omega) hn0 hn tn.1 (hide cC) cD cS cK cN g2 g3 g1 g4 g5
      · exact rbuild_go_110 d s p v _ _ _ ty (bs l) _ _ _ _ _ _ _ _ _ w z ((congrArg IntKind.u64.wrap (t.2.2.2 z).1).symm.trans (u64_small _ t.1)) (by omega) hn0 hn tn.1 (hide cC) cD cS cK cN g2 g3 g1 g4 g5
theorem rbuild_any (f : Fr) (w : World) (hl : f.body.length ≤ 10000) :
    Calls Tryd.prog 9 #[f.val] w fun e w' => e = .returned (.tuple #[.string (bs f.built), .int .i64 f.check]) ∧ Below w.heap.size w w' := by
  obtain ⟨d, s, has, pri, dei, vid, ty, l⟩ := f
  by_cases h : (Fr.mk d s has pri dei vid ty l).check = 0
  · rw [Fr.built_ok h, h]; exact rbuild_ok d s has pri dei vid ty l w h
  · rw [Fr.built_no h]; exact rbuild_bad d s has pri dei vid ty l w hl h
end Go.Proofs.YtfndofbkfinnmaaDoor
