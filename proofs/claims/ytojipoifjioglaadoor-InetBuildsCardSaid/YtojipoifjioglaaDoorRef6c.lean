/-
  The document's answer for packets: the contracts of gangwayref06's Check, Head and Build.
-/
import Derived.Test.YtojipoifjioglaaDoorRef6b
namespace Go.Proofs.YtojipoifjioglaaDoor
open Go.RowKit Go.Sort

theorem small_is (a : Int) : (a / 256 == 0) = decide (0 ≤ a ∧ a ≤ 255) := by
  by_cases h : 0 ≤ a ∧ a ≤ 255
  · rw [decide_eq_true h, beq_iff_eq]; omega
  · rw [decide_eq_false h, beq_eq_false_iff_ne]; omega
theorem word_is (a : Int) : (a / 65536 != 0) = !decide (0 ≤ a ∧ a ≤ 65535) := by
  by_cases h : 0 ≤ a ∧ a ≤ 65535
  · rw [decide_eq_true h]
    have : a / 65536 = 0 := by omega
    rw [this]; rfl
  · rw [decide_eq_false h]
    have : a / 65536 ≠ 0 := by omega
    simpa using this
theorem off_is (a : Int) : (a / 8192 != 0) = !decide (0 ≤ a ∧ a ≤ 8191) := by
  by_cases h : 0 ≤ a ∧ a ≤ 8191
  · rw [decide_eq_true h]
    have : a / 8192 = 0 := by omega
    rw [this]; rfl
  · rw [decide_eq_false h]
    have : a / 8192 ≠ 0 := by omega
    simpa using this
theorem rcheck_any (p : Pk) (w : World) (h : p.fits) : Calls Tryd.prog 14 #[p.val] w fun e w' => e = .returned (.int .i64 p.check) ∧ Below w.heap.size w w' := by
  have c := rcheck_at p.tos p.id p.off p.ttl p.proto p.src p.dst p.whole p.more (bs p.body) _ _ _ _ _ w (by rw [bs_size]; have := h.2.2; omega) (small_is _) (small_is _) (small_is _) (word_is _) (off_is _)
  rw [Bool.not_not, Bool.not_not, ← check_bools p h.2.2] at c
  exact c
set_option maxRecDepth 100000 in
set_option maxHeartbeats 4000000 in
theorem rhead_ff (a b o t q s d n c : Nat) (B A1 A2 A3 A4 A5 A6 A7 A8 A9 X1 X2 X3 X4 X5 X6 X7 X8 X9 : ByteArray) (w : World) (hB : B.size = n) (hn : (n : Int) ≤ 1700) (ha : a < 65536) (hb0 : b < 65536) (ho : (o : Int) ≤ 8191) (ht : t < 65536) (hq : q < 65536) (hs : s < 4294967296) (hd : d < 4294967296) (hc : c < 65536)
    (c1 : ∀ W, Calls Tryd.prog 34 #[.int .u64 a, .int .i64 1] W fun e W' => e = .returned (.string A1) ∧ Below W.heap.size W W')
    (c2 : ∀ W, Calls Tryd.prog 34 #[.int .u64 (20 + (n : Int)), .int .i64 2] W fun e W' => e = .returned (.string A2) ∧ Below W.heap.size W W')
    (c3 : ∀ W, Calls Tryd.prog 34 #[.int .u64 b, .int .i64 2] W fun e W' => e = .returned (.string A3) ∧ Below W.heap.size W W')
    (c4 : ∀ W, Calls Tryd.prog 34 #[.int .u64 o, .int .i64 2] W fun e W' => e = .returned (.string A4) ∧ Below W.heap.size W W')
    (c5 : ∀ W, Calls Tryd.prog 34 #[.int .u64 t, .int .i64 1] W fun e W' => e = .returned (.string A5) ∧ Below W.heap.size W W')
    (c6 : ∀ W, Calls Tryd.prog 34 #[.int .u64 q, .int .i64 1] W fun e W' => e = .returned (.string A6) ∧ Below W.heap.size W W')
    (c7 : ∀ W, Calls Tryd.prog 34 #[.int .u64 c, .int .i64 2] W fun e W' => e = .returned (.string A7) ∧ Below W.heap.size W W')
    (c8 : ∀ W, Calls Tryd.prog 34 #[.int .u64 s, .int .i64 4] W fun e W' => e = .returned (.string A8) ∧ Below W.heap.size W W')
    (c9 : ∀ W, Calls Tryd.prog 34 #[.int .u64 d, .int .i64 4] W fun e W' => e = .returned (.string A9) ∧ Below W.heap.size W W')
    (g1 : ∀ W, (Op.stringOp .add ⟨#[69]⟩ A1).run Tryd.prog W = .ok (.string X1) W) (g2 : ∀ W, (Op.stringOp .add X1 A2).run Tryd.prog W = .ok (.string X2) W) (g3 : ∀ W, (Op.stringOp .add X2 A3).run Tryd.prog W = .ok (.string X3) W) (g4 : ∀ W, (Op.stringOp .add X3 A4).run Tryd.prog W = .ok (.string X4) W) (g5 : ∀ W, (Op.stringOp .add X4 A5).run Tryd.prog W = .ok (.string X5) W) (g6 : ∀ W, (Op.stringOp .add X5 A6).run Tryd.prog W = .ok (.string X6) W) (g7 : ∀ W, (Op.stringOp .add X6 A7).run Tryd.prog W = .ok (.string X7) W) (g8 : ∀ W, (Op.stringOp .add X7 A8).run Tryd.prog W = .ok (.string X8) W) (g9 : ∀ W, (Op.stringOp .add X8 A9).run Tryd.prog W = .ok (.string X9) W) :
    Calls Tryd.prog 25 #[.agg #[.int .i64 a, .int .i64 b, .bool false, .bool false, .int .i64 o, .int .i64 t, .int .i64 q, .int .u32 s, .int .u32 d, .string B], .int .i64 c] w fun e w' => e = .returned (.string X9) ∧ Below w.heap.size w w' := by
  have ea : IntKind.u64.wrap (a : Int) = (a : Int) := u64_id a (by omega)
  have en : IntKind.u64.wrap (20 + (n : Int)) = 20 + (n : Int) := by rw [IntKind.wrap_u64]; omega
  have eb : IntKind.u64.wrap (b : Int) = (b : Int) := u64_id b (by omega)
  have ef : IntKind.u64.wrap (o : Int) = (o : Int) := u64_id o (by omega)
  have et : IntKind.u64.wrap (t : Int) = (t : Int) := u64_id t (by omega)
  have eq : IntKind.u64.wrap (q : Int) = (q : Int) := u64_id q (by omega)
  have ec : IntKind.u64.wrap (c : Int) = (c : Int) := u64_id c (by omega)
  have es : IntKind.u64.wrap (s : Int) = (s : Int) := u64_id s (by omega)
  have ed : IntKind.u64.wrap (d : Int) = (d : Int) := u64_id d (by omega)
  clear ha hb0 ht hq hs hd hc
  go_enter Tryd.func25, Tryd.ntmps25
  go_wp2_with fail
  have hr := heap_alloc_new w (.cells #[.int .i64 a, .int .i64 b, .bool false, .bool false, .int .i64 o, .int .i64 t, .int .i64 q, .int .u32 s, .int .u32 d, .string B] 24)
  have hb := alloc_below w (.cells #[.int .i64 a, .int .i64 b, .bool false, .bool false, .int .i64 o, .int .i64 t, .int .i64 q, .int .u32 s, .int .u32 d, .string B] 24)
  generalize w.alloc (.cells #[.int .i64 a, .int .i64 b, .bool false, .bool false, .int .i64 o, .int .i64 t, .int .i64 q, .int .u32 s, .int .u32 d, .string B] 24) = w1 at *
  obtain ⟨k0, k1, k2, k3, k4, k5, k6, k7, k8, k9, _⟩ := cells10 hr
  have d1 := at_grown c1 w1
  have d2 := at_grown c2 w1
  have d3 := at_grown c3 w1
  have d4 := at_grown c4 w1
  have d5 := at_grown c5 w1
  have d6 := at_grown c6 w1
  have d7 := at_grown c7 w1
  have d8 := at_grown c8 w1
  have d9 := at_grown c9 w1
  replace k0 := cell_regrown k0
  replace k1 := cell_regrown k1
  replace k2 := cell_regrown k2
  replace k3 := cell_regrown k3
  replace k4 := cell_regrown k4
  replace k5 := cell_regrown k5
  replace k6 := cell_regrown k6
  replace k7 := cell_regrown k7
  replace k8 := cell_regrown k8
  replace k9 := cell_regrown k9
  clear c1 c2 c3 c4 c5 c6 c7 c8 c9 hr
  refine wp_region_quiet_below (by kernel_rfl) (by kernel_rfl) ?_
  repeat (go_big_quiet_step (first | (go_at_call_of 34 a; exact d1 _ _) | (go_at_call_of 34 b; exact d3 _ _) | (go_at_call_of 34 o; exact d4 _ _) | (go_at_call_of 34 t; exact d5 _ _) | (go_at_call_of 34 q; exact d6 _ _) | (go_at_call_of 34 c; exact d7 _ _) | (go_at_call_of 34 s; exact d8 _ _) | (go_at_call_of 34 d; exact d9 _ _) | (go_at_call 34; exact d2 _ _)))
  refine wpQuiet_nil ?_
  rintro _ ⟨⟨dq, osq⟩, rfl⟩
  go_wp2
  go_ret
  exact ⟨rfl, grown_then hb dq osq⟩
set_option maxRecDepth 100000 in
set_option maxHeartbeats 4000000 in
theorem rhead_tf (a b o t q s d n c f : Nat) (B A1 A2 A3 A4 A5 A6 A7 A8 A9 X1 X2 X3 X4 X5 X6 X7 X8 X9 : ByteArray) (w : World) (hB : B.size = n) (hn : (n : Int) ≤ 1700) (ha : a < 65536) (hb0 : b < 65536) (ho : (o : Int) ≤ 8191) (ht : t < 65536) (hq : q < 65536) (hs : s < 4294967296) (hd : d < 4294967296) (hc : c < 65536) (e1 : (o : Int) + 16384 = (f : Int))
    (c1 : ∀ W, Calls Tryd.prog 34 #[.int .u64 a, .int .i64 1] W fun e W' => e = .returned (.string A1) ∧ Below W.heap.size W W')
    (c2 : ∀ W, Calls Tryd.prog 34 #[.int .u64 (20 + (n : Int)), .int .i64 2] W fun e W' => e = .returned (.string A2) ∧ Below W.heap.size W W')
    (c3 : ∀ W, Calls Tryd.prog 34 #[.int .u64 b, .int .i64 2] W fun e W' => e = .returned (.string A3) ∧ Below W.heap.size W W')
    (c4 : ∀ W, Calls Tryd.prog 34 #[.int .u64 f, .int .i64 2] W fun e W' => e = .returned (.string A4) ∧ Below W.heap.size W W')
    (c5 : ∀ W, Calls Tryd.prog 34 #[.int .u64 t, .int .i64 1] W fun e W' => e = .returned (.string A5) ∧ Below W.heap.size W W')
    (c6 : ∀ W, Calls Tryd.prog 34 #[.int .u64 q, .int .i64 1] W fun e W' => e = .returned (.string A6) ∧ Below W.heap.size W W')
    (c7 : ∀ W, Calls Tryd.prog 34 #[.int .u64 c, .int .i64 2] W fun e W' => e = .returned (.string A7) ∧ Below W.heap.size W W')
    (c8 : ∀ W, Calls Tryd.prog 34 #[.int .u64 s, .int .i64 4] W fun e W' => e = .returned (.string A8) ∧ Below W.heap.size W W')
    (c9 : ∀ W, Calls Tryd.prog 34 #[.int .u64 d, .int .i64 4] W fun e W' => e = .returned (.string A9) ∧ Below W.heap.size W W')
    (g1 : ∀ W, (Op.stringOp .add ⟨#[69]⟩ A1).run Tryd.prog W = .ok (.string X1) W) (g2 : ∀ W, (Op.stringOp .add X1 A2).run Tryd.prog W = .ok (.string X2) W) (g3 : ∀ W, (Op.stringOp .add X2 A3).run Tryd.prog W = .ok (.string X3) W) (g4 : ∀ W, (Op.stringOp .add X3 A4).run Tryd.prog W = .ok (.string X4) W) (g5 : ∀ W, (Op.stringOp .add X4 A5).run Tryd.prog W = .ok (.string X5) W) (g6 : ∀ W, (Op.stringOp .add X5 A6).run Tryd.prog W = .ok (.string X6) W) (g7 : ∀ W, (Op.stringOp .add X6 A7).run Tryd.prog W = .ok (.string X7) W) (g8 : ∀ W, (Op.stringOp .add X7 A8).run Tryd.prog W = .ok (.string X8) W) (g9 : ∀ W, (Op.stringOp .add X8 A9).run Tryd.prog W = .ok (.string X9) W) :
    Calls Tryd.prog 25 #[.agg #[.int .i64 a, .int .i64 b, .bool true, .bool false, .int .i64 o, .int .i64 t, .int .i64 q, .int .u32 s, .int .u32 d, .string B], .int .i64 c] w fun e w' => e = .returned (.string X9) ∧ Below w.heap.size w w' := by
  have ea : IntKind.u64.wrap (a : Int) = (a : Int) := u64_id a (by omega)
  have en : IntKind.u64.wrap (20 + (n : Int)) = 20 + (n : Int) := by rw [IntKind.wrap_u64]; omega
  have eb : IntKind.u64.wrap (b : Int) = (b : Int) := u64_id b (by omega)
  have ef : IntKind.u64.wrap (f : Int) = (f : Int) := u64_id f (by omega)
  have et : IntKind.u64.wrap (t : Int) = (t : Int) := u64_id t (by omega)
  have eq : IntKind.u64.wrap (q : Int) = (q : Int) := u64_id q (by omega)
  have ec : IntKind.u64.wrap (c : Int) = (c : Int) := u64_id c (by omega)
  have es : IntKind.u64.wrap (s : Int) = (s : Int) := u64_id s (by omega)
  have ed : IntKind.u64.wrap (d : Int) = (d : Int) := u64_id d (by omega)
  clear ha hb0 ht hq hs hd hc
  go_enter Tryd.func25, Tryd.ntmps25
  go_wp2_with fail
  have hr := heap_alloc_new w (.cells #[.int .i64 a, .int .i64 b, .bool true, .bool false, .int .i64 o, .int .i64 t, .int .i64 q, .int .u32 s, .int .u32 d, .string B] 24)
  have hb := alloc_below w (.cells #[.int .i64 a, .int .i64 b, .bool true, .bool false, .int .i64 o, .int .i64 t, .int .i64 q, .int .u32 s, .int .u32 d, .string B] 24)
  generalize w.alloc (.cells #[.int .i64 a, .int .i64 b, .bool true, .bool false, .int .i64 o, .int .i64 t, .int .i64 q, .int .u32 s, .int .u32 d, .string B] 24) = w1 at *
  obtain ⟨k0, k1, k2, k3, k4, k5, k6, k7, k8, k9, _⟩ := cells10 hr
  have d1 := at_grown c1 w1
  have d2 := at_grown c2 w1
  have d3 := at_grown c3 w1
  have d4 := at_grown c4 w1
  have d5 := at_grown c5 w1
  have d6 := at_grown c6 w1
  have d7 := at_grown c7 w1
  have d8 := at_grown c8 w1
  have d9 := at_grown c9 w1
  replace k0 := cell_regrown k0
  replace k1 := cell_regrown k1
  replace k2 := cell_regrown k2
  replace k3 := cell_regrown k3
  replace k4 := cell_regrown k4
  replace k5 := cell_regrown k5
  replace k6 := cell_regrown k6
  replace k7 := cell_regrown k7
  replace k8 := cell_regrown k8
  replace k9 := cell_regrown k9
  clear c1 c2 c3 c4 c5 c6 c7 c8 c9 hr
  refine wp_region_quiet_below (by kernel_rfl) (by kernel_rfl) ?_
  repeat (go_big_quiet_step (first | (go_at_call_of 34 a; exact d1 _ _) | (go_at_call_of 34 b; exact d3 _ _) | (go_at_call_of 34 f; exact d4 _ _) | (go_at_call_of 34 t; exact d5 _ _) | (go_at_call_of 34 q; exact d6 _ _) | (go_at_call_of 34 c; exact d7 _ _) | (go_at_call_of 34 s; exact d8 _ _) | (go_at_call_of 34 d; exact d9 _ _) | (go_at_call 34; exact d2 _ _)))
  refine wpQuiet_nil ?_
  rintro _ ⟨⟨dq, osq⟩, rfl⟩
  go_wp2
  go_ret
  exact ⟨rfl, grown_then hb dq osq⟩
set_option maxRecDepth 100000 in
set_option maxHeartbeats 4000000 in
theorem rhead_ft (a b o t q s d n c f : Nat) (B A1 A2 A3 A4 A5 A6 A7 A8 A9 X1 X2 X3 X4 X5 X6 X7 X8 X9 : ByteArray) (w : World) (hB : B.size = n) (hn : (n : Int) ≤ 1700) (ha : a < 65536) (hb0 : b < 65536) (ho : (o : Int) ≤ 8191) (ht : t < 65536) (hq : q < 65536) (hs : s < 4294967296) (hd : d < 4294967296) (hc : c < 65536) (e1 : (o : Int) + 8192 = (f : Int))
    (c1 : ∀ W, Calls Tryd.prog 34 #[.int .u64 a, .int .i64 1] W fun e W' => e = .returned (.string A1) ∧ Below W.heap.size W W')
    (c2 : ∀ W, Calls Tryd.prog 34 #[.int .u64 (20 + (n : Int)), .int .i64 2] W fun e W' => e = .returned (.string A2) ∧ Below W.heap.size W W')
    (c3 : ∀ W, Calls Tryd.prog 34 #[.int .u64 b, .int .i64 2] W fun e W' => e = .returned (.string A3) ∧ Below W.heap.size W W')
    (c4 : ∀ W, Calls Tryd.prog 34 #[.int .u64 f, .int .i64 2] W fun e W' => e = .returned (.string A4) ∧ Below W.heap.size W W')
    (c5 : ∀ W, Calls Tryd.prog 34 #[.int .u64 t, .int .i64 1] W fun e W' => e = .returned (.string A5) ∧ Below W.heap.size W W')
    (c6 : ∀ W, Calls Tryd.prog 34 #[.int .u64 q, .int .i64 1] W fun e W' => e = .returned (.string A6) ∧ Below W.heap.size W W')
    (c7 : ∀ W, Calls Tryd.prog 34 #[.int .u64 c, .int .i64 2] W fun e W' => e = .returned (.string A7) ∧ Below W.heap.size W W')
    (c8 : ∀ W, Calls Tryd.prog 34 #[.int .u64 s, .int .i64 4] W fun e W' => e = .returned (.string A8) ∧ Below W.heap.size W W')
    (c9 : ∀ W, Calls Tryd.prog 34 #[.int .u64 d, .int .i64 4] W fun e W' => e = .returned (.string A9) ∧ Below W.heap.size W W')
    (g1 : ∀ W, (Op.stringOp .add ⟨#[69]⟩ A1).run Tryd.prog W = .ok (.string X1) W) (g2 : ∀ W, (Op.stringOp .add X1 A2).run Tryd.prog W = .ok (.string X2) W) (g3 : ∀ W, (Op.stringOp .add X2 A3).run Tryd.prog W = .ok (.string X3) W) (g4 : ∀ W, (Op.stringOp .add X3 A4).run Tryd.prog W = .ok (.string X4) W) (g5 : ∀ W, (Op.stringOp .add X4 A5).run Tryd.prog W = .ok (.string X5) W) (g6 : ∀ W, (Op.stringOp .add X5 A6).run Tryd.prog W = .ok (.string X6) W) (g7 : ∀ W, (Op.stringOp .add X6 A7).run Tryd.prog W = .ok (.string X7) W) (g8 : ∀ W, (Op.stringOp .add X7 A8).run Tryd.prog W = .ok (.string X8) W) (g9 : ∀ W, (Op.stringOp .add X8 A9).run Tryd.prog W = .ok (.string X9) W) :
    Calls Tryd.prog 25 #[.agg #[.int .i64 a, .int .i64 b, .bool false, .bool true, .int .i64 o, .int .i64 t, .int .i64 q, .int .u32 s, .int .u32 d, .string B], .int .i64 c] w fun e w' => e = .returned (.string X9) ∧ Below w.heap.size w w' := by
  have ea : IntKind.u64.wrap (a : Int) = (a : Int) := u64_id a (by omega)
  have en : IntKind.u64.wrap (20 + (n : Int)) = 20 + (n : Int) := by rw [IntKind.wrap_u64]; omega
  have eb : IntKind.u64.wrap (b : Int) = (b : Int) := u64_id b (by omega)
  have ef : IntKind.u64.wrap (f : Int) = (f : Int) := u64_id f (by omega)
  have et : IntKind.u64.wrap (t : Int) = (t : Int) := u64_id t (by omega)
  have eq : IntKind.u64.wrap (q : Int) = (q : Int) := u64_id q (by omega)
  have ec : IntKind.u64.wrap (c : Int) = (c : Int) := u64_id c (by omega)
  have es : IntKind.u64.wrap (s : Int) = (s : Int) := u64_id s (by omega)
  have ed : IntKind.u64.wrap (d : Int) = (d : Int) := u64_id d (by omega)
  clear ha hb0 ht hq hs hd hc
  go_enter Tryd.func25, Tryd.ntmps25
  go_wp2_with fail
  have hr := heap_alloc_new w (.cells #[.int .i64 a, .int .i64 b, .bool false, .bool true, .int .i64 o, .int .i64 t, .int .i64 q, .int .u32 s, .int .u32 d, .string B] 24)
  have hb := alloc_below w (.cells #[.int .i64 a, .int .i64 b, .bool false, .bool true, .int .i64 o, .int .i64 t, .int .i64 q, .int .u32 s, .int .u32 d, .string B] 24)
  generalize w.alloc (.cells #[.int .i64 a, .int .i64 b, .bool false, .bool true, .int .i64 o, .int .i64 t, .int .i64 q, .int .u32 s, .int .u32 d, .string B] 24) = w1 at *
  obtain ⟨k0, k1, k2, k3, k4, k5, k6, k7, k8, k9, _⟩ := cells10 hr
  have d1 := at_grown c1 w1
  have d2 := at_grown c2 w1
  have d3 := at_grown c3 w1
  have d4 := at_grown c4 w1
  have d5 := at_grown c5 w1
  have d6 := at_grown c6 w1
  have d7 := at_grown c7 w1
  have d8 := at_grown c8 w1
  have d9 := at_grown c9 w1
  replace k0 := cell_regrown k0
  replace k1 := cell_regrown k1
  replace k2 := cell_regrown k2
  replace k3 := cell_regrown k3
  replace k4 := cell_regrown k4
  replace k5 := cell_regrown k5
  replace k6 := cell_regrown k6
  replace k7 := cell_regrown k7
  replace k8 := cell_regrown k8
  replace k9 := cell_regrown k9
  clear c1 c2 c3 c4 c5 c6 c7 c8 c9 hr
  refine wp_region_quiet_below (by kernel_rfl) (by kernel_rfl) ?_
  repeat (go_big_quiet_step (first | (go_at_call_of 34 a; exact d1 _ _) | (go_at_call_of 34 b; exact d3 _ _) | (go_at_call_of 34 f; exact d4 _ _) | (go_at_call_of 34 t; exact d5 _ _) | (go_at_call_of 34 q; exact d6 _ _) | (go_at_call_of 34 c; exact d7 _ _) | (go_at_call_of 34 s; exact d8 _ _) | (go_at_call_of 34 d; exact d9 _ _) | (go_at_call 34; exact d2 _ _)))
  refine wpQuiet_nil ?_
  rintro _ ⟨⟨dq, osq⟩, rfl⟩
  go_wp2
  go_ret
  exact ⟨rfl, grown_then hb dq osq⟩
set_option maxRecDepth 100000 in
set_option maxHeartbeats 4000000 in
theorem rhead_tt (a b o t q s d n c f g : Nat) (B A1 A2 A3 A4 A5 A6 A7 A8 A9 X1 X2 X3 X4 X5 X6 X7 X8 X9 : ByteArray) (w : World) (hB : B.size = n) (hn : (n : Int) ≤ 1700) (ha : a < 65536) (hb0 : b < 65536) (ho : (o : Int) ≤ 8191) (ht : t < 65536) (hq : q < 65536) (hs : s < 4294967296) (hd : d < 4294967296) (hc : c < 65536) (e1 : (o : Int) + 16384 = (g : Int)) (e2 : (g : Int) + 8192 = (f : Int))
    (c1 : ∀ W, Calls Tryd.prog 34 #[.int .u64 a, .int .i64 1] W fun e W' => e = .returned (.string A1) ∧ Below W.heap.size W W')
    (c2 : ∀ W, Calls Tryd.prog 34 #[.int .u64 (20 + (n : Int)), .int .i64 2] W fun e W' => e = .returned (.string A2) ∧ Below W.heap.size W W')
    (c3 : ∀ W, Calls Tryd.prog 34 #[.int .u64 b, .int .i64 2] W fun e W' => e = .returned (.string A3) ∧ Below W.heap.size W W')
    (c4 : ∀ W, Calls Tryd.prog 34 #[.int .u64 f, .int .i64 2] W fun e W' => e = .returned (.string A4) ∧ Below W.heap.size W W')
    (c5 : ∀ W, Calls Tryd.prog 34 #[.int .u64 t, .int .i64 1] W fun e W' => e = .returned (.string A5) ∧ Below W.heap.size W W')
    (c6 : ∀ W, Calls Tryd.prog 34 #[.int .u64 q, .int .i64 1] W fun e W' => e = .returned (.string A6) ∧ Below W.heap.size W W')
    (c7 : ∀ W, Calls Tryd.prog 34 #[.int .u64 c, .int .i64 2] W fun e W' => e = .returned (.string A7) ∧ Below W.heap.size W W')
    (c8 : ∀ W, Calls Tryd.prog 34 #[.int .u64 s, .int .i64 4] W fun e W' => e = .returned (.string A8) ∧ Below W.heap.size W W')
    (c9 : ∀ W, Calls Tryd.prog 34 #[.int .u64 d, .int .i64 4] W fun e W' => e = .returned (.string A9) ∧ Below W.heap.size W W')
    (g1 : ∀ W, (Op.stringOp .add ⟨#[69]⟩ A1).run Tryd.prog W = .ok (.string X1) W) (g2 : ∀ W, (Op.stringOp .add X1 A2).run Tryd.prog W = .ok (.string X2) W) (g3 : ∀ W, (Op.stringOp .add X2 A3).run Tryd.prog W = .ok (.string X3) W) (g4 : ∀ W, (Op.stringOp .add X3 A4).run Tryd.prog W = .ok (.string X4) W) (g5 : ∀ W, (Op.stringOp .add X4 A5).run Tryd.prog W = .ok (.string X5) W) (g6 : ∀ W, (Op.stringOp .add X5 A6).run Tryd.prog W = .ok (.string X6) W) (g7 : ∀ W, (Op.stringOp .add X6 A7).run Tryd.prog W = .ok (.string X7) W) (g8 : ∀ W, (Op.stringOp .add X7 A8).run Tryd.prog W = .ok (.string X8) W) (g9 : ∀ W, (Op.stringOp .add X8 A9).run Tryd.prog W = .ok (.string X9) W) :
    Calls Tryd.prog 25 #[.agg #[.int .i64 a, .int .i64 b, .bool true, .bool true, .int .i64 o, .int .i64 t, .int .i64 q, .int .u32 s, .int .u32 d, .string B], .int .i64 c] w fun e w' => e = .returned (.string X9) ∧ Below w.heap.size w w' := by
  have ea : IntKind.u64.wrap (a : Int) = (a : Int) := u64_id a (by omega)
  have en : IntKind.u64.wrap (20 + (n : Int)) = 20 + (n : Int) := by rw [IntKind.wrap_u64]; omega
  have eb : IntKind.u64.wrap (b : Int) = (b : Int) := u64_id b (by omega)
  have ef : IntKind.u64.wrap (f : Int) = (f : Int) := u64_id f (by omega)
  have et : IntKind.u64.wrap (t : Int) = (t : Int) := u64_id t (by omega)
  have eq : IntKind.u64.wrap (q : Int) = (q : Int) := u64_id q (by omega)
  have ec : IntKind.u64.wrap (c : Int) = (c : Int) := u64_id c (by omega)
  have es : IntKind.u64.wrap (s : Int) = (s : Int) := u64_id s (by omega)
  have ed : IntKind.u64.wrap (d : Int) = (d : Int) := u64_id d (by omega)
  clear ha hb0 ht hq hs hd hc
  go_enter Tryd.func25, Tryd.ntmps25
  go_wp2_with fail
  have hr := heap_alloc_new w (.cells #[.int .i64 a, .int .i64 b, .bool true, .bool true, .int .i64 o, .int .i64 t, .int .i64 q, .int .u32 s, .int .u32 d, .string B] 24)
  have hb := alloc_below w (.cells #[.int .i64 a, .int .i64 b, .bool true, .bool true, .int .i64 o, .int .i64 t, .int .i64 q, .int .u32 s, .int .u32 d, .string B] 24)
  generalize w.alloc (.cells #[.int .i64 a, .int .i64 b, .bool true, .bool true, .int .i64 o, .int .i64 t, .int .i64 q, .int .u32 s, .int .u32 d, .string B] 24) = w1 at *
  obtain ⟨k0, k1, k2, k3, k4, k5, k6, k7, k8, k9, _⟩ := cells10 hr
  have d1 := at_grown c1 w1
  have d2 := at_grown c2 w1
  have d3 := at_grown c3 w1
  have d4 := at_grown c4 w1
  have d5 := at_grown c5 w1
  have d6 := at_grown c6 w1
  have d7 := at_grown c7 w1
  have d8 := at_grown c8 w1
  have d9 := at_grown c9 w1
  replace k0 := cell_regrown k0
  replace k1 := cell_regrown k1
  replace k2 := cell_regrown k2
  replace k3 := cell_regrown k3
  replace k4 := cell_regrown k4
  replace k5 := cell_regrown k5
  replace k6 := cell_regrown k6
  replace k7 := cell_regrown k7
  replace k8 := cell_regrown k8
  replace k9 := cell_regrown k9
  clear c1 c2 c3 c4 c5 c6 c7 c8 c9 hr
  refine wp_region_quiet_below (by kernel_rfl) (by kernel_rfl) ?_
  repeat (go_big_quiet_step (first | (go_at_call_of 34 a; exact d1 _ _) | (go_at_call_of 34 b; exact d3 _ _) | (go_at_call_of 34 f; exact d4 _ _) | (go_at_call_of 34 t; exact d5 _ _) | (go_at_call_of 34 q; exact d6 _ _) | (go_at_call_of 34 c; exact d7 _ _) | (go_at_call_of 34 s; exact d8 _ _) | (go_at_call_of 34 d; exact d9 _ _) | (go_at_call 34; exact d2 _ _)))
  refine wpQuiet_nil ?_
  rintro _ ⟨⟨dq, osq⟩, rfl⟩
  go_wp2
  go_ret
  exact ⟨rfl, grown_then hb dq osq⟩
theorem rhead_any (p : Pk) (c : Nat) (w : World) (h : p.fits) (ho : p.ok) (hc : c < 65536) : Calls Tryd.prog 25 #[p.val, .int .i64 c] w fun e w' => e = .returned (.string (bs (p.head c))) ∧ Below w.heap.size w w' := by
  have hf := flags_lt ho
  obtain ⟨hs, hd, hl⟩ := h
  obtain ⟨h1, h2, h3, h4, h5, h6⟩ := ho
  have e : p.head c = [69] ++ be p.tos.toNat 1 ++ be (20 + p.body.length) 2 ++ be p.id.toNat 2 ++ be p.flags 2 ++ be p.ttl.toNat 1 ++ be p.proto.toNat 1 ++ be c 2 ++ be p.src 4 ++ be p.dst 4 := by
    unfold Pk.head Pk.fore Pk.aft
    rw [show be 69 1 = [69] from rfl]
    simp only [List.append_assoc]
  rw [e]
  obtain ⟨F, hF⟩ : ∃ F, F = p.flags := ⟨_, rfl⟩
  rw [← hF] at hf ⊢
  unfold Pk.flags at hF
  obtain ⟨a, b, x, y, o, t, q, s, d, l⟩ := p
  unfold Pk.val at *
  simp only at *
  obtain ⟨a, rfl⟩ : ∃ k : Nat, a = k := ⟨a.toNat, by omega⟩
  obtain ⟨b, rfl⟩ : ∃ k : Nat, b = k := ⟨b.toNat, by omega⟩
  obtain ⟨o, rfl⟩ : ∃ k : Nat, o = k := ⟨o.toNat, by omega⟩
  obtain ⟨t, rfl⟩ : ∃ k : Nat, t = k := ⟨t.toNat, by omega⟩
  obtain ⟨q, rfl⟩ : ∃ k : Nat, q = k := ⟨q.toNat, by omega⟩
  simp only [Int.toNat_natCast] at hF ⊢
  have c2 := fun W => rbytes (20 + l.length) 2 W (by decide) (by omega)
  rw [show ((20 + l.length : Nat) : Int) = 20 + (l.length : Int) by omega] at c2
  have c1 := fun W => rbytes a 1 W (by decide) (by omega)
  have c3 := fun W => rbytes b 2 W (by decide) (by omega)
  have c4 := fun W => rbytes F 2 W (by decide) (by omega)
  have c5 := fun W => rbytes t 1 W (by decide) (by omega)
  have c6 := fun W => rbytes q 1 W (by decide) (by omega)
  have c7 := fun W => rbytes c 2 W (by decide) (by omega)
  have c8 := fun W => rbytes s 4 W (by decide) (by omega)
  have c9 := fun W => rbytes d 4 W (by decide) (by omega)
  have g : ∀ A B : List UInt8, A.length + B.length ≤ 10000 → ∀ W, (Op.stringOp .add (bs A) (bs B)).run Tryd.prog W = .ok (.string (bs (A ++ B))) W := fun A B h W => add_bs A B h W
  have g1 := g [69] (be a 1) (by simp [be_length])
  have g2 := g ([69] ++ be a 1) (be (20 + l.length) 2) (by simp [be_length])
  have g3 := g ([69] ++ be a 1 ++ be (20 + l.length) 2) (be b 2) (by simp [be_length])
  have g4 := g ([69] ++ be a 1 ++ be (20 + l.length) 2 ++ be b 2) (be F 2) (by simp [be_length])
  have g5 := g ([69] ++ be a 1 ++ be (20 + l.length) 2 ++ be b 2 ++ be F 2) (be t 1) (by simp [be_length])
  have g6 := g ([69] ++ be a 1 ++ be (20 + l.length) 2 ++ be b 2 ++ be F 2 ++ be t 1) (be q 1) (by simp [be_length])
  have g7 := g ([69] ++ be a 1 ++ be (20 + l.length) 2 ++ be b 2 ++ be F 2 ++ be t 1 ++ be q 1) (be c 2) (by simp [be_length])
  have g8 := g ([69] ++ be a 1 ++ be (20 + l.length) 2 ++ be b 2 ++ be F 2 ++ be t 1 ++ be q 1 ++ be c 2) (be s 4) (by simp [be_length])
  have g9 := g ([69] ++ be a 1 ++ be (20 + l.length) 2 ++ be b 2 ++ be F 2 ++ be t 1 ++ be q 1 ++ be c 2 ++ be s 4) (be d 4) (by simp [be_length])
  cases x <;> cases y
  · simp only [Bool.false_eq_true, if_false, Nat.add_zero] at hF
    subst hF
    exact rhead_ff a b F t q s d l.length c (bs l) _ _ _ _ _ _ _ _ _ _ _ _ _ _ _ _ _ _ w (bs_size l) (by omega) (by omega) (by omega) (by omega) (by omega) (by omega) hs hd hc c1 c2 c3 c4 c5 c6 c7 c8 c9 g1 g2 g3 g4 g5 g6 g7 g8 g9
  · simp only [Bool.false_eq_true, if_false, if_true, Nat.add_zero] at hF
    exact rhead_ft a b o t q s d l.length c F (bs l) _ _ _ _ _ _ _ _ _ _ _ _ _ _ _ _ _ _ w (bs_size l) (by omega) (by omega) (by omega) (by omega) (by omega) (by omega) hs hd hc (by omega) c1 c2 c3 c4 c5 c6 c7 c8 c9 g1 g2 g3 g4 g5 g6 g7 g8 g9
  · simp only [Bool.false_eq_true, if_false, if_true, Nat.add_zero] at hF
    exact rhead_tf a b o t q s d l.length c F (bs l) _ _ _ _ _ _ _ _ _ _ _ _ _ _ _ _ _ _ w (bs_size l) (by omega) (by omega) (by omega) (by omega) (by omega) (by omega) hs hd hc (by omega) c1 c2 c3 c4 c5 c6 c7 c8 c9 g1 g2 g3 g4 g5 g6 g7 g8 g9
  · simp only [if_true] at hF
    exact rhead_tt a b o t q s d l.length c F (o + 16384) (bs l) _ _ _ _ _ _ _ _ _ _ _ _ _ _ _ _ _ _ w (bs_size l) (by omega) (by omega) (by omega) (by omega) (by omega) (by omega) hs hd hc (by omega) (by omega) c1 c2 c3 c4 c5 c6 c7 c8 c9 g1 g2 g3 g4 g5 g6 g7 g8 g9
set_option maxRecDepth 100000 in
theorem rbuild_at (a b o t q s d : Int) (x y : Bool) (c : Nat) (B H0 H1 X : ByteArray) (w : World)
    (k : Hid (∀ W, Calls Tryd.prog 14 #[.agg #[.int .i64 a, .int .i64 b, .bool x, .bool y, .int .i64 o, .int .i64 t, .int .i64 q, .int .u32 s, .int .u32 d, .string B]] W fun e W' => e = .returned (.int .i64 0) ∧ Below W.heap.size W W'))
    (c0 : ∀ W, Calls Tryd.prog 25 #[.agg #[.int .i64 a, .int .i64 b, .bool x, .bool y, .int .i64 o, .int .i64 t, .int .i64 q, .int .u32 s, .int .u32 d, .string B], .int .i64 0] W fun e W' => e = .returned (.string H0) ∧ Below W.heap.size W W')
    (c1 : ∀ W, Calls Tryd.prog 26 #[.string H0] W fun e W' => e = .returned (.int .i64 c) ∧ Below W.heap.size W W')
    (c2 : ∀ W, Calls Tryd.prog 25 #[.agg #[.int .i64 a, .int .i64 b, .bool x, .bool y, .int .i64 o, .int .i64 t, .int .i64 q, .int .u32 s, .int .u32 d, .string B], .int .i64 c] W fun e W' => e = .returned (.string H1) ∧ Below W.heap.size W W')
    (g : ∀ W, (Op.stringOp .add H1 B).run Tryd.prog W = .ok (.string X) W) :
    Calls Tryd.prog 11 #[.agg #[.int .i64 a, .int .i64 b, .bool x, .bool y, .int .i64 o, .int .i64 t, .int .i64 q, .int .u32 s, .int .u32 d, .string B]] w fun e w' => e = .returned (.tuple #[.string X, .int .i64 0]) ∧ Below w.heap.size w w' := by
  go_enter Tryd.func11, Tryd.ntmps11
  go_wp2_with fail
  refine (unhide k _).mono ?_
  rintro e w1 ⟨rfl, b1⟩
  have hb := bthen (alloc_below w _) b1
  have hr := Below.row b1 (heap_alloc_new w _)
  clear b1 k
  obtain ⟨k0, k1, k2, k3, k4, k5, k6, k7, k8, k9, _⟩ := cells10 hr
  go_wp2_with fail
  have d0 := at_grown c0 w1
  have d1 := at_grown c1 w1
  have d2 := at_grown c2 w1
  replace k0 := cell_regrown k0
  replace k1 := cell_regrown k1
  replace k2 := cell_regrown k2
  replace k3 := cell_regrown k3
  replace k4 := cell_regrown k4
  replace k5 := cell_regrown k5
  replace k6 := cell_regrown k6
  replace k7 := cell_regrown k7
  replace k8 := cell_regrown k8
  replace k9 := cell_regrown k9
  clear c0 c1 c2 hr
  refine wp_region_quiet_below (by kernel_rfl) (by kernel_rfl) ?_
  repeat (go_big_quiet_step (first | (go_at_call 26; exact d1 _ _) | (go_at_call_of 25 c; exact d2 _ _) | (go_at_call 25; exact d0 _ _)))
  refine wpQuiet_nil ?_
  rintro _ ⟨⟨dq, osq⟩, rfl⟩
  go_wp2
  go_ret2
  exact ⟨rfl, grown_then hb dq osq⟩
theorem rbuild_any (p : Pk) (w : World) (h : p.fits) : Calls Tryd.prog 11 #[p.val] w fun e w' => e = .returned (.tuple #[.string (bs p.built), .int .i64 p.check]) ∧ Below w.heap.size w w' := by
  have K := fun W => rcheck_any p W h
  unfold Pk.built
  by_cases hc : p.check = 0
  · rw [if_pos hc]
    rw [hc] at K ⊢
    have ho := check_ok.1 hc
    have hsum := p.sum_le
    refine rbuild_at p.tos p.id p.off p.ttl p.proto p.src p.dst p.whole p.more p.sum (bs p.body) (bs (p.head 0)) (bs (p.head p.sum)) _ w (hide K) (fun W => rhead_any p 0 W h ho (by decide)) (fun W => ?_) (fun W => rhead_any p p.sum W h ho (by omega)) (fun W => add_bs _ _ (by rw [Pk.head_length]; have := h.2.2; omega) W)
    refine (rof (p.head 0) W (by rw [Pk.head_length]; decide)).mono fun e W' ⟨h1, h2⟩ => ⟨?_, by rw [h2]; exact Below.refl _ _⟩
    rw [h1, ← sum_ck]
    rfl
  · rw [if_neg hc]
    have hz : (p.check != 0) = true := by simpa using hc
    have K' := hide K
    clear K hc h
    obtain ⟨a, b, x, y, o, t, q, s, d, l⟩ := p
    unfold Pk.val at *
    simp only at *
    generalize (Pk.mk a b x y o t q s d l).check = c at *
    go_enter Tryd.func11, Tryd.ntmps11
    go_wp2_with fail
    refine (unhide K' _).mono ?_
    rintro e w1 ⟨rfl, b1⟩
    have hb := bthen (alloc_below w _) b1
    clear b1 K'
    go_wp2_with fail
    go_ret2
    exact ⟨rfl, hb⟩
end Go.Proofs.YtojipoifjioglaaDoor
