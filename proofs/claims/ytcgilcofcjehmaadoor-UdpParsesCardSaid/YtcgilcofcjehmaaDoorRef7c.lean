/-
  The document's answer for datagrams: the contract of gangwayref07's Parse; no cell that was there before has turned.
-/
import Derived.Test.YtcgilcofcjehmaaDoorRef7
import Derived.Test.YtcgilcofcjehmaaDoorUdp4
namespace Go.Proofs.YtcgilcofcjehmaaDoor
open Go.RowKit Go.Sort

set_option maxRecDepth 100000 in
set_option maxHeartbeats 4000000 in
theorem rparse_few (S : ByteArray) (s d : Nat) (w : World) (h : S.size < 8) :
    Calls Tryd.prog 15 #[.int .u32 (s : Int), .int .u32 (d : Int), .string S] w fun e w' => e = .returned (.tuple #[.agg #[.int .i64 0, .int .i64 0, .bool false, .string ⟨#[]⟩], .int .i64 70]) ∧ Below w.heap.size w w' := by
  go_enter Tryd.func15, Tryd.ntmps15
  go_wp2_with fail
  refine bodyPost_ret ?_ rfl ⟨rfl, alloc_below _ _⟩
  exact results_row2 rfl _ _ w.heap.size 26 _ _ _ _ rfl rfl (heap_last w _ _ rfl) Tryd.underlying26 rfl (by kernel_rfl)
set_option maxRecDepth 100000 in
set_option maxHeartbeats 4000000 in
theorem rparse_length (S : ByteArray) (s d : Nat) (n : Nat) (P4 : ByteArray) (w : World) (h8 : (8 : Int) ≤ (S.size : Int)) (hl0 : (S.size : Int) ≤ 10000)
    (z4 : ∀ W : World, (Instr.slice 9 (.string S) (some (.int .i64 4)) (some (.int .i64 6)) none).run Tryd.prog W = .ok (.string P4) W)
    (k4 : Hid (∀ W, Calls Tryd.prog 28 #[.string P4] W fun e W' => e = .returned (.int .u64 (n : Int)) ∧ W' = W))
    (en : IntKind.i64.wrap (n : Int) = (n : Int))
    (hn : (n : Int) < 8) :
    Calls Tryd.prog 15 #[.int .u32 (s : Int), .int .u32 (d : Int), .string S] w fun e w' => e = .returned (.tuple #[.agg #[.int .i64 0, .int .i64 0, .bool false, .string ⟨#[]⟩], .int .i64 71]) ∧ Below w.heap.size w w' := by
  go_enter Tryd.func15, Tryd.ntmps15
  go_wp2_with fail
  refine (unhide k4 _).mono ?_
  rintro e w1 ⟨rfl, rfl⟩
  go_wp2_with fail
  refine bodyPost_ret ?_ rfl ⟨rfl, alloc_below _ _⟩
  exact results_row2 rfl _ _ w.heap.size 26 _ _ _ _ rfl rfl (heap_last w _ _ rfl) Tryd.underlying26 rfl (by kernel_rfl)
set_option maxRecDepth 100000 in
set_option maxHeartbeats 4000000 in
theorem rparse_body (S : ByteArray) (s d : Nat) (n : Nat) (P4 : ByteArray) (w : World) (h8 : (8 : Int) ≤ (S.size : Int)) (hl0 : (S.size : Int) ≤ 10000)
    (z4 : ∀ W : World, (Instr.slice 9 (.string S) (some (.int .i64 4)) (some (.int .i64 6)) none).run Tryd.prog W = .ok (.string P4) W)
    (k4 : Hid (∀ W, Calls Tryd.prog 28 #[.string P4] W fun e W' => e = .returned (.int .u64 (n : Int)) ∧ W' = W))
    (en : IntKind.i64.wrap (n : Int) = (n : Int))
    (hn : ¬ (n : Int) < 8)
    (hb : (S.size : Int) < (n : Int)) :
    Calls Tryd.prog 15 #[.int .u32 (s : Int), .int .u32 (d : Int), .string S] w fun e w' => e = .returned (.tuple #[.agg #[.int .i64 0, .int .i64 0, .bool false, .string ⟨#[]⟩], .int .i64 70]) ∧ Below w.heap.size w w' := by
  go_enter Tryd.func15, Tryd.ntmps15
  go_wp2_with fail
  refine (unhide k4 _).mono ?_
  rintro e w1 ⟨rfl, rfl⟩
  go_wp2_with fail
  refine bodyPost_ret ?_ rfl ⟨rfl, alloc_below _ _⟩
  exact results_row2 rfl _ _ w.heap.size 26 _ _ _ _ rfl rfl (heap_last w _ _ rfl) Tryd.underlying26 rfl (by kernel_rfl)
set_option maxRecDepth 100000 in
set_option maxHeartbeats 4000000 in
theorem rparse_sum (S : ByteArray) (s d : Nat) (n c f : Nat) (P4 P6 H Q Y : ByteArray) (w : World) (h8 : (8 : Int) ≤ (S.size : Int)) (hl0 : (S.size : Int) ≤ 10000)
    (z4 : ∀ W : World, (Instr.slice 9 (.string S) (some (.int .i64 4)) (some (.int .i64 6)) none).run Tryd.prog W = .ok (.string P4) W)
    (k4 : Hid (∀ W, Calls Tryd.prog 28 #[.string P4] W fun e W' => e = .returned (.int .u64 (n : Int)) ∧ W' = W))
    (en : IntKind.i64.wrap (n : Int) = (n : Int))
    (hn : ¬ (n : Int) < 8)
    (hb : ¬ (S.size : Int) < (n : Int))
    (z6 : ∀ W : World, (Instr.slice 9 (.string S) (some (.int .i64 6)) (some (.int .i64 8)) none).run Tryd.prog W = .ok (.string P6) W)
    (k6 : Hid (∀ W, Calls Tryd.prog 28 #[.string P6] W fun e W' => e = .returned (.int .u64 (c : Int)) ∧ W' = W))
    (hc : ((c : Int) != 0) = true)
    (kh : ∀ W, Calls Tryd.prog 22 #[.int .u32 (s : Int), .int .u32 (d : Int), .int .i64 17, .int .i64 (n : Int)] W fun e W' => e = .returned (.string H) ∧ Below W.heap.size W W')
    (zq : ∀ W : World, (Instr.slice 9 (.string S) none (some (.int .i64 (n : Int))) none).run Tryd.prog W = .ok (.string Q) W)
    (g1 : ∀ W, (Op.stringOp .add H Q).run Tryd.prog W = .ok (.string Y) W)
    (ko : ∀ W, Calls Tryd.prog 21 #[.string Y] W fun e W' => e = .returned (.int .i64 (f : Int)) ∧ Below W.heap.size W W')
    (hf : ((f : Int) != 0) = true) :
    Calls Tryd.prog 15 #[.int .u32 (s : Int), .int .u32 (d : Int), .string S] w fun e w' => e = .returned (.tuple #[.agg #[.int .i64 0, .int .i64 0, .bool false, .string ⟨#[]⟩], .int .i64 72]) ∧ Below w.heap.size w w' := by
  go_enter Tryd.func15, Tryd.ntmps15
  go_wp2_with fail
  refine (unhide k4 _).mono ?_
  rintro e w1 ⟨rfl, rfl⟩
  go_wp2_with fail
  refine (unhide k6 _).mono ?_
  rintro e w1 ⟨rfl, rfl⟩
  go_wp2_with fail
  have hr := heap_alloc_new w (.cells #[.int .i64 0, .int .i64 0, .bool false, .string ⟨#[]⟩] 26)
  have hb0 := alloc_below w (.cells #[.int .i64 0, .int .i64 0, .bool false, .string ⟨#[]⟩] 26)
  generalize w.alloc (.cells #[.int .i64 0, .int .i64 0, .bool false, .string ⟨#[]⟩] 26) = w1 at *
  have d0 := at_grown kh w1
  have d1 := at_grown ko w1
  clear kh ko
  refine wp_region_quiet_below (by kernel_rfl) (by kernel_rfl) ?_
  repeat (go_big_quiet_step (first | (go_at_call 22; exact d0 _ _) | (go_at_call 21; exact d1 _ _)))
  refine wpQuiet_nil ?_
  rintro _ ⟨⟨dq, osq⟩, rfl⟩
  have hb4 := grown_then hb0 dq osq
  have hr4 := Below.row (below_regrown w1 dq osq) hr
  generalize grow (redrawn w1 dq) osq = w4 at *
  clear hr hb0 d0 d1
  obtain ⟨c0, c1, c2, c3, f0, f1, f2, f3⟩ := cells4 hr4
  have HR := hide hr4
  clear hr4
  go_wp2_with fail
  refine bodyPost_ret ?_ rfl ⟨rfl, below4 hb4 (Nat.le_refl _)⟩
  exact results_row2 rfl _ _ w.heap.size 26 _ _ _ _ rfl rfl (set4 (unhide HR)) Tryd.underlying26 rfl (by kernel_rfl)
set_option maxRecDepth 100000 in
set_option maxHeartbeats 4000000 in
theorem rparse_bare (S : ByteArray) (s d : Nat) (n a b : Nat) (P0 P2 P4 P6 B : ByteArray) (w : World) (h8 : (8 : Int) ≤ (S.size : Int)) (hl0 : (S.size : Int) ≤ 10000)
    (z4 : ∀ W : World, (Instr.slice 9 (.string S) (some (.int .i64 4)) (some (.int .i64 6)) none).run Tryd.prog W = .ok (.string P4) W)
    (k4 : Hid (∀ W, Calls Tryd.prog 28 #[.string P4] W fun e W' => e = .returned (.int .u64 (n : Int)) ∧ W' = W))
    (en : IntKind.i64.wrap (n : Int) = (n : Int))
    (hn : ¬ (n : Int) < 8)
    (hb : ¬ (S.size : Int) < (n : Int))
    (z6 : ∀ W : World, (Instr.slice 9 (.string S) (some (.int .i64 6)) (some (.int .i64 8)) none).run Tryd.prog W = .ok (.string P6) W)
    (k6 : Hid (∀ W, Calls Tryd.prog 28 #[.string P6] W fun e W' => e = .returned (.int .u64 0) ∧ W' = W))
    (z0 : ∀ W : World, (Instr.slice 9 (.string S) none (some (.int .i64 2)) none).run Tryd.prog W = .ok (.string P0) W)
    (k0 : Hid (∀ W, Calls Tryd.prog 28 #[.string P0] W fun e W' => e = .returned (.int .u64 (a : Int)) ∧ W' = W))
    (ea : IntKind.i64.wrap (a : Int) = (a : Int))
    (z2 : ∀ W : World, (Instr.slice 9 (.string S) (some (.int .i64 2)) (some (.int .i64 4)) none).run Tryd.prog W = .ok (.string P2) W)
    (k2 : Hid (∀ W, Calls Tryd.prog 28 #[.string P2] W fun e W' => e = .returned (.int .u64 (b : Int)) ∧ W' = W))
    (eb : IntKind.i64.wrap (b : Int) = (b : Int))
    (zb : ∀ W : World, (Instr.slice 9 (.string S) (some (.int .i64 8)) (some (.int .i64 (n : Int))) none).run Tryd.prog W = .ok (.string B) W) :
    Calls Tryd.prog 15 #[.int .u32 (s : Int), .int .u32 (d : Int), .string S] w fun e w' => e = .returned (.tuple #[.agg #[.int .i64 (a : Int), .int .i64 (b : Int), .bool true, .string B], .int .i64 0]) ∧ Below w.heap.size w w' := by
  go_enter Tryd.func15, Tryd.ntmps15
  go_wp2_with fail
  refine (unhide k4 _).mono ?_
  rintro e w1 ⟨rfl, rfl⟩
  go_wp2_with fail
  refine (unhide k6 _).mono ?_
  rintro e w1 ⟨rfl, rfl⟩
  go_wp2_with fail
  have hr := heap_alloc_new w (.cells #[.int .i64 0, .int .i64 0, .bool false, .string ⟨#[]⟩] 26)
  have hb0 := alloc_below w (.cells #[.int .i64 0, .int .i64 0, .bool false, .string ⟨#[]⟩] 26)
  generalize w.alloc (.cells #[.int .i64 0, .int .i64 0, .bool false, .string ⟨#[]⟩] 26) = w1 at *
  refine wp_region_quiet_below (by kernel_rfl) (by kernel_rfl) ?_
  repeat (go_big_quiet_step (fail))
  refine wpQuiet_nil ?_
  rintro _ ⟨⟨dq, osq⟩, rfl⟩
  have hb4 := grown_then hb0 dq osq
  have hr4 := Below.row (below_regrown w1 dq osq) hr
  generalize grow (redrawn w1 dq) osq = w4 at *
  clear hr hb0
  obtain ⟨c0, c1, c2, c3, f0, f1, f2, f3⟩ := cells4 hr4
  have HR := hide hr4
  clear hr4
  go_wp2_with fail
  go_region_held3 (fun _ => True) (exact True.intro) (first | (go_at_call_of 28 P0; refine (unhide k0 _).mono ?_; rintro e' w3 ⟨rfl, rfl⟩) | (go_at_call_of 28 P2; refine (unhide k2 _).mono ?_; rintro e' w3 ⟨rfl, rfl⟩))
  all_goals
    go_wp2_with fail
    refine bodyPost_ret ?_ rfl ⟨rfl, below4 hb4.drew (Nat.le_refl _)⟩
    exact results_row2 rfl _ _ w.heap.size 26 _ _ _ _ rfl rfl (set4 (W := w4.drew) (unhide HR)) Tryd.underlying26 rfl (by kernel_rfl)
set_option maxRecDepth 100000 in
set_option maxHeartbeats 4000000 in
theorem rparse_right (S : ByteArray) (s d : Nat) (n c a b : Nat) (P0 P2 P4 P6 H Q Y B : ByteArray) (w : World) (h8 : (8 : Int) ≤ (S.size : Int)) (hl0 : (S.size : Int) ≤ 10000)
    (z4 : ∀ W : World, (Instr.slice 9 (.string S) (some (.int .i64 4)) (some (.int .i64 6)) none).run Tryd.prog W = .ok (.string P4) W)
    (k4 : Hid (∀ W, Calls Tryd.prog 28 #[.string P4] W fun e W' => e = .returned (.int .u64 (n : Int)) ∧ W' = W))
    (en : IntKind.i64.wrap (n : Int) = (n : Int))
    (hn : ¬ (n : Int) < 8)
    (hb : ¬ (S.size : Int) < (n : Int))
    (z6 : ∀ W : World, (Instr.slice 9 (.string S) (some (.int .i64 6)) (some (.int .i64 8)) none).run Tryd.prog W = .ok (.string P6) W)
    (k6 : Hid (∀ W, Calls Tryd.prog 28 #[.string P6] W fun e W' => e = .returned (.int .u64 (c : Int)) ∧ W' = W))
    (hc : ((c : Int) != 0) = true)
    (kh : ∀ W, Calls Tryd.prog 22 #[.int .u32 (s : Int), .int .u32 (d : Int), .int .i64 17, .int .i64 (n : Int)] W fun e W' => e = .returned (.string H) ∧ Below W.heap.size W W')
    (zq : ∀ W : World, (Instr.slice 9 (.string S) none (some (.int .i64 (n : Int))) none).run Tryd.prog W = .ok (.string Q) W)
    (g1 : ∀ W, (Op.stringOp .add H Q).run Tryd.prog W = .ok (.string Y) W)
    (ko : ∀ W, Calls Tryd.prog 21 #[.string Y] W fun e W' => e = .returned (.int .i64 0) ∧ Below W.heap.size W W')
    (hx : ((c : Int) == 0) = false)
    (z0 : ∀ W : World, (Instr.slice 9 (.string S) none (some (.int .i64 2)) none).run Tryd.prog W = .ok (.string P0) W)
    (k0 : Hid (∀ W, Calls Tryd.prog 28 #[.string P0] W fun e W' => e = .returned (.int .u64 (a : Int)) ∧ W' = W))
    (ea : IntKind.i64.wrap (a : Int) = (a : Int))
    (z2 : ∀ W : World, (Instr.slice 9 (.string S) (some (.int .i64 2)) (some (.int .i64 4)) none).run Tryd.prog W = .ok (.string P2) W)
    (k2 : Hid (∀ W, Calls Tryd.prog 28 #[.string P2] W fun e W' => e = .returned (.int .u64 (b : Int)) ∧ W' = W))
    (eb : IntKind.i64.wrap (b : Int) = (b : Int))
    (zb : ∀ W : World, (Instr.slice 9 (.string S) (some (.int .i64 8)) (some (.int .i64 (n : Int))) none).run Tryd.prog W = .ok (.string B) W) :
    Calls Tryd.prog 15 #[.int .u32 (s : Int), .int .u32 (d : Int), .string S] w fun e w' => e = .returned (.tuple #[.agg #[.int .i64 (a : Int), .int .i64 (b : Int), .bool false, .string B], .int .i64 0]) ∧ Below w.heap.size w w' := by
  go_enter Tryd.func15, Tryd.ntmps15
  go_wp2_with fail
  refine (unhide k4 _).mono ?_
  rintro e w1 ⟨rfl, rfl⟩
  go_wp2_with fail
  refine (unhide k6 _).mono ?_
  rintro e w1 ⟨rfl, rfl⟩
  go_wp2_with fail
  have hr := heap_alloc_new w (.cells #[.int .i64 0, .int .i64 0, .bool false, .string ⟨#[]⟩] 26)
  have hb0 := alloc_below w (.cells #[.int .i64 0, .int .i64 0, .bool false, .string ⟨#[]⟩] 26)
  generalize w.alloc (.cells #[.int .i64 0, .int .i64 0, .bool false, .string ⟨#[]⟩] 26) = w1 at *
  have d0 := at_grown kh w1
  have d1 := at_grown ko w1
  clear kh ko
  refine wp_region_quiet_below (by kernel_rfl) (by kernel_rfl) ?_
  repeat (go_big_quiet_step (first | (go_at_call 22; exact d0 _ _) | (go_at_call 21; exact d1 _ _)))
  refine wpQuiet_nil ?_
  rintro _ ⟨⟨dq, osq⟩, rfl⟩
  have hb4 := grown_then hb0 dq osq
  have hr4 := Below.row (below_regrown w1 dq osq) hr
  generalize grow (redrawn w1 dq) osq = w4 at *
  clear hr hb0 d0 d1
  obtain ⟨c0, c1, c2, c3, f0, f1, f2, f3⟩ := cells4 hr4
  have HR := hide hr4
  clear hr4
  go_wp2_with fail
  go_region_held3 (fun _ => True) (exact True.intro) (first | (go_at_call_of 28 P0; refine (unhide k0 _).mono ?_; rintro e' w3 ⟨rfl, rfl⟩) | (go_at_call_of 28 P2; refine (unhide k2 _).mono ?_; rintro e' w3 ⟨rfl, rfl⟩))
  all_goals
    go_wp2_with fail
    refine bodyPost_ret ?_ rfl ⟨rfl, below4 hb4.drew (Nat.le_refl _)⟩
    exact results_row2 rfl _ _ w.heap.size 26 _ _ _ _ rfl rfl (set4 (W := w4.drew) (unhide HR)) Tryd.underlying26 rfl (by kernel_rfl)
theorem mid_cut (l : List UInt8) (a b : Nat) (h1 : a ≤ b) (h2 : b ≤ l.length) (W : World) : (Instr.slice 9 (.string (bs l)) (some (.int .i64 (a : Int))) (some (.int .i64 (b : Int))) none).run Tryd.prog W = .ok (.string (bs ((l.drop a).take (b - a)))) W := by
  have e := run_slice_string_lh (P := Tryd.prog) W 9 (bs l) Tryd.underlying9 .i64 .i64 (a : Int) (b : Int) (by omega) (by omega) (by rw [bs_size]; omega)
  rw [show ((a : Int)).toNat = a by omega, show ((b : Int)).toNat = b by omega] at e
  rw [e]
  have : (bs l).extract a b = bs ((l.drop a).take (b - a)) := by
    rw [← bs_of ((bs l).extract a b), extract_toList, bs_toList]
  rw [this]
theorem i64_id (n : Nat) (h : n < 65536) : IntKind.i64.wrap (n : Int) = (n : Int) := by rw [IntKind.wrap_i64]; omega
theorem rparse_any (l : List UInt8) (s d : Nat) (w : World) (hl : l.length ≤ 1720) (hs : s < 4294967296) (hd : d < 4294967296) :
    Calls Tryd.prog 15 #[.int .u32 (s : Int), .int .u32 (d : Int), .string (bs l)] w fun e w' => e = .returned (.tuple #[(Ud.parse s d l).1.val, .int .i64 (Ud.parse s d l).2]) ∧ Below w.heap.size w w' := by
  have hz : (bs l).size = l.length := bs_size l
  by_cases h0 : l.length < 8
  · have k : kindOf s d l = 1 := by unfold kindOf; rw [if_pos h0]
    have e : Ud.parse s d l = (.none, 70) := by unfold Ud.parse; rw [k]; rfl
    rw [e]
    exact rparse_few (bs l) s d w (by omega)
  have h1 : (8 : Int) ≤ ((bs l).size : Int) := by omega
  have h2 : ((bs l).size : Int) ≤ 10000 := by omega
  have z4 := mid_cut l 4 6 (by decide) (by omega)
  rw [show 6 - 4 = 2 from rfl] at z4
  have z6 := mid_cut l 6 8 (by decide) (by omega)
  rw [show 8 - 6 = 2 from rfl] at z6
  have z2 := mid_cut l 2 4 (by decide) (by omega)
  rw [show 4 - 2 = 2 from rfl] at z2
  have z0 := cut_to l 2 (by omega)
  have tk : ∀ a, ((l.drop a).take 2).length ≤ 7 := fun a => by rw [List.length_take]; omega
  have k4 := fun W => rnum ((l.drop 4).take 2) W (tk 4)
  have k6 := fun W => rnum ((l.drop 6).take 2) W (tk 6)
  have k2 := fun W => rnum ((l.drop 2).take 2) W (tk 2)
  have k0 := fun W => rnum (l.take 2) W (tk 0)
  have n4 : num ((l.drop 4).take 2) = nm l 4 2 := rfl
  have n6 : num ((l.drop 6).take 2) = nm l 6 2 := rfl
  have n2 : num ((l.drop 2).take 2) = nm l 2 2 := rfl
  have n0 : num (l.take 2) = nm l 0 2 := rfl
  rw [n4] at k4
  rw [n6] at k6
  rw [n2] at k2
  rw [n0] at k0
  have b4 := nm2_lt l 4
  by_cases hn : nm l 4 2 < 8
  · have k : kindOf s d l = 5 := by unfold kindOf; rw [if_neg h0, if_pos hn]
    have e : Ud.parse s d l = (.none, 71) := by unfold Ud.parse; rw [k]; rfl
    rw [e]
    exact rparse_length (bs l) s d _ _ w h1 h2 z4 (hide k4) (i64_id _ b4) (by omega)
  by_cases hb : l.length < nm l 4 2
  · have k : kindOf s d l = 2 := by unfold kindOf; rw [if_neg h0, if_neg hn, if_pos hb]
    have e : Ud.parse s d l = (.none, 70) := by unfold Ud.parse; rw [k]; rfl
    rw [e]
    exact rparse_body (bs l) s d _ _ w h1 h2 z4 (hide k4) (i64_id _ b4) (by omega) (by omega)
  have zb := mid_cut l 8 (nm l 4 2) (by omega) (by omega)
  have zq := cut_to l (nm l 4 2) (by omega)
  have kh := fun W => rhead s d 17 (nm l 4 2) 17 (nm l 4 2) 17 (nm l 4 2 : Nat) W hs hd (by decide) (by rw [IntKind.wrap_u64]; omega) (by decide) (by omega)
  have g1 := fun W => add_bs (headB s d 17 (nm l 4 2)) (l.take (nm l 4 2)) (by rw [headB_length, List.length_take]; omega) W
  have ko := fun W => (rof (headB s d 17 (nm l 4 2) ++ l.take (nm l 4 2)) W (by rw [List.length_append, headB_length, List.length_take]; omega)).mono fun e w' (h : e = _ ∧ w' = W) => (⟨h.1, by rw [h.2]; exact Below.refl _ _⟩ : e = _ ∧ Below W.heap.size W w')
  have fl := fold_le (tot (headB s d 17 (nm l 4 2) ++ l.take (nm l 4 2)))
  by_cases hc : nm l 6 2 = 0
  · have k : kindOf s d l = 0 := by unfold kindOf; rw [if_neg h0, if_neg hn, if_neg hb, if_neg fun x => x.1 hc]
    have e : Ud.parse s d l = (Ud.of l, 0) := by unfold Ud.parse; rw [if_pos k]
    have ex : decide (nm l 6 2 = 0) = true := decide_eq_true hc
    rw [e]
    unfold Ud.of Ud.val
    simp only
    rw [ex]
    rw [hc] at k6
    exact rparse_bare (bs l) s d _ _ _ _ _ _ _ _ w h1 h2 z4 (hide k4) (i64_id _ b4) (by omega) (by omega) z6 (hide k6) z0 (hide k0) (i64_id _ (nm2_lt l 0)) z2 (hide k2) (i64_id _ (nm2_lt l 2)) zb
  · have hc' : (((nm l 6 2 : Nat) : Int) != 0) = true := by rw [bne_iff_ne]; omega
    by_cases hr : fold (tot (headB s d 17 (nm l 4 2) ++ l.take (nm l 4 2))) = 65535
    · have k : kindOf s d l = 0 := by unfold kindOf; rw [if_neg h0, if_neg hn, if_neg hb, if_neg fun x => x.2 hr]
      have e : Ud.parse s d l = (Ud.of l, 0) := by unfold Ud.parse; rw [if_pos k]
      have ex : decide (nm l 6 2 = 0) = false := decide_eq_false hc
      have ec : ck (headB s d 17 (nm l 4 2) ++ l.take (nm l 4 2)) = 0 := by unfold ck; omega
      rw [e]
      unfold Ud.of Ud.val
      simp only
      rw [ex]
      rw [ec] at ko
      exact rparse_right (bs l) s d _ _ _ _ _ _ _ _ _ _ _ _ w h1 h2 z4 (hide k4) (i64_id _ b4) (by omega) (by omega) z6 (hide k6) hc' kh zq g1 ko (by rw [beq_eq_false_iff_ne]; omega) z0 (hide k0) (i64_id _ (nm2_lt l 0)) z2 (hide k2) (i64_id _ (nm2_lt l 2)) zb
    · have k : kindOf s d l = 6 := by unfold kindOf; rw [if_neg h0, if_neg hn, if_neg hb, if_pos ⟨hc, hr⟩]
      have e : Ud.parse s d l = (.none, 72) := by unfold Ud.parse; rw [k]; rfl
      have ec : ck (headB s d 17 (nm l 4 2) ++ l.take (nm l 4 2)) ≠ 0 := by unfold ck; omega
      rw [e]
      exact rparse_sum (bs l) s d _ _ _ _ _ _ _ _ w h1 h2 z4 (hide k4) (i64_id _ b4) (by omega) (by omega) z6 (hide k6) hc' kh zq g1 ko (by rw [bne_iff_ne]; omega)
end Go.Proofs.YtcgilcofcjehmaaDoor
