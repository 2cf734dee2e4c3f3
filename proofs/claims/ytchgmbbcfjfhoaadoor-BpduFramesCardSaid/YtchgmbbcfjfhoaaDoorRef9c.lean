/-
  The document's answer for bridges' messages: the contract of gangwayref09's Parse; no cell that was there before has turned.
-/
import Derived.Test.YtchgmbbcfjfhoaaDoorRef9
import Derived.Test.YtchgmbbcfjfhoaaDoorLoad9
import Derived.Deep.RegionHeld3
namespace Go.Proofs.YtchgmbbcfjfhoaaDoor
open Go.RowKit Go.Sort

set_option maxRecDepth 100000 in
set_option maxHeartbeats 4000000 in
theorem rparse_few (S : ByteArray) (w : World) (h : S.size < 7) :
    Calls Tryd.prog 15 #[.string S] w fun e w' => e = .returned (.tuple #[.agg #[.int .i64 0, .bool false, .bool false, .bool false, .bool false, .bool false, .bool false, .int .i64 0, .int .u64 0, .int .i64 0, .int .u64 0, .int .i64 0, .int .i64 0, .int .i64 0, .int .i64 0, .int .i64 0], .int .i64 90]) ∧ Below w.heap.size w w' := by
  go_enter Tryd.func15, Tryd.ntmps15
  go_wp2_with fail
  refine bodyPost_ret (v := .tuple #[.agg #[.int .i64 0, .bool false, .bool false, .bool false, .bool false, .bool false, .bool false, .int .i64 0, .int .u64 0, .int .i64 0, .int .u64 0, .int .i64 0, .int .i64 0, .int .i64 0, .int .i64 0, .int .i64 0], .int .i64 90]) ?_ rfl ⟨rfl, alloc_below _ _⟩
  exact results_row2 rfl _ _ w.heap.size 24 _ _ _ _ rfl rfl (heap_last w _ _ rfl) Tryd.underlying24 rfl (by kernel_rfl)
set_option maxRecDepth 100000 in
set_option maxHeartbeats 4000000 in
theorem rparse_head (S : ByteArray) (P5 : ByteArray) (w : World) (hs : (7 : Int) ≤ (S.size : Int)) (hs2 : (S.size : Int) ≤ 10000) (z5 : ∀ W : World, (Instr.slice 9 (.string S) none (some (.int .i64 5)) none).run Tryd.prog W = .ok (.string P5) W) (h5 : (P5.toList == [66, 66, 3, 0, 0]) = false)  :
    Calls Tryd.prog 15 #[.string S] w fun e w' => e = .returned (.tuple #[.agg #[.int .i64 0, .bool false, .bool false, .bool false, .bool false, .bool false, .bool false, .int .i64 0, .int .u64 0, .int .i64 0, .int .u64 0, .int .i64 0, .int .i64 0, .int .i64 0, .int .i64 0, .int .i64 0], .int .i64 91]) ∧ Below w.heap.size w w' := by
  go_enter Tryd.func15, Tryd.ntmps15
  go_wp2_with fail
  refine bodyPost_ret (v := .tuple #[.agg #[.int .i64 0, .bool false, .bool false, .bool false, .bool false, .bool false, .bool false, .int .i64 0, .int .u64 0, .int .i64 0, .int .u64 0, .int .i64 0, .int .i64 0, .int .i64 0, .int .i64 0, .int .i64 0], .int .i64 91]) ?_ rfl ⟨rfl, alloc_below _ _⟩
  exact results_row2 rfl _ _ w.heap.size 24 _ _ _ _ rfl rfl (heap_last w _ _ rfl) Tryd.underlying24 rfl (by kernel_rfl)
set_option maxRecDepth 100000 in
set_option maxHeartbeats 4000000 in
theorem rparse_turn (S : ByteArray) (P5 : ByteArray) (w : World) (hs : (7 : Int) ≤ (S.size : Int)) (hs2 : (S.size : Int) ≤ 10000) (z5 : ∀ W : World, (Instr.slice 9 (.string S) none (some (.int .i64 5)) none).run Tryd.prog W = .ok (.string P5) W) (h5 : (P5.toList == [66, 66, 3, 0, 0]) = true) (k5 : Hid (∀ W, Calls Tryd.prog 33 #[.string S, .int .i64 5, .int .i64 7] W fun e W' => e = .returned (.int .i64 128) ∧ W' = W)) :
    Calls Tryd.prog 15 #[.string S] w fun e w' => e = .returned (.tuple #[.agg #[.int .i64 128, .bool false, .bool false, .bool false, .bool false, .bool false, .bool false, .int .i64 0, .int .u64 0, .int .i64 0, .int .u64 0, .int .i64 0, .int .i64 0, .int .i64 0, .int .i64 0, .int .i64 0], .int .i64 0]) ∧ Below w.heap.size w w' := by
  go_enter Tryd.func15, Tryd.ntmps15
  go_wp2_with fail
  refine (unhide k5 _).mono ?_
  rintro e w1 ⟨rfl, rfl⟩
  clear k5
  go_wp2_with fail
  refine bodyPost_ret (v := .tuple #[.agg #[.int .i64 128, .bool false, .bool false, .bool false, .bool false, .bool false, .bool false, .int .i64 0, .int .u64 0, .int .i64 0, .int .u64 0, .int .i64 0, .int .i64 0, .int .i64 0, .int .i64 0, .int .i64 0], .int .i64 0]) ?_ rfl ⟨rfl, alloc_below _ _⟩
  exact results_row2 rfl _ _ w.heap.size 24 _ _ _ _ rfl rfl (heap_last w _ _ rfl) Tryd.underlying24 rfl (by kernel_rfl)
set_option maxRecDepth 100000 in
set_option maxHeartbeats 4000000 in
theorem rparse_kind (S : ByteArray) (P5 : ByteArray) (v : Int) (w : World) (hs : (7 : Int) ≤ (S.size : Int)) (hs2 : (S.size : Int) ≤ 10000) (z5 : ∀ W : World, (Instr.slice 9 (.string S) none (some (.int .i64 5)) none).run Tryd.prog W = .ok (.string P5) W) (h5 : (P5.toList == [66, 66, 3, 0, 0]) = true) (k5 : Hid (∀ W, Calls Tryd.prog 33 #[.string S, .int .i64 5, .int .i64 7] W fun e W' => e = .returned (.int .i64 v) ∧ W' = W))
    (h1 : (v == 128) = false) (h2 : (v != 0) = true) (h3 : (v != 514) = true) :
    Calls Tryd.prog 15 #[.string S] w fun e w' => e = .returned (.tuple #[.agg #[.int .i64 0, .bool false, .bool false, .bool false, .bool false, .bool false, .bool false, .int .i64 0, .int .u64 0, .int .i64 0, .int .u64 0, .int .i64 0, .int .i64 0, .int .i64 0, .int .i64 0, .int .i64 0], .int .i64 91]) ∧ Below w.heap.size w w' := by
  go_enter Tryd.func15, Tryd.ntmps15
  go_wp2_with fail
  refine (unhide k5 _).mono ?_
  rintro e w1 ⟨rfl, rfl⟩
  clear k5
  go_wp2_with fail
  refine bodyPost_ret (v := .tuple #[.agg #[.int .i64 0, .bool false, .bool false, .bool false, .bool false, .bool false, .bool false, .int .i64 0, .int .u64 0, .int .i64 0, .int .u64 0, .int .i64 0, .int .i64 0, .int .i64 0, .int .i64 0, .int .i64 0], .int .i64 91]) ?_ rfl ⟨rfl, alloc_below _ _⟩
  exact results_row2 rfl _ _ w.heap.size 24 _ _ _ _ rfl rfl (heap_last w _ _ rfl) Tryd.underlying24 rfl (by kernel_rfl)
set_option maxRecDepth 100000 in
set_option maxHeartbeats 4000000 in
theorem rparse_short (S : ByteArray) (P5 : ByteArray) (w : World) (hs : (7 : Int) ≤ (S.size : Int)) (hs2 : (S.size : Int) ≤ 10000) (z5 : ∀ W : World, (Instr.slice 9 (.string S) none (some (.int .i64 5)) none).run Tryd.prog W = .ok (.string P5) W) (h5 : (P5.toList == [66, 66, 3, 0, 0]) = true) (k5 : Hid (∀ W, Calls Tryd.prog 33 #[.string S, .int .i64 5, .int .i64 7] W fun e W' => e = .returned (.int .i64 0) ∧ W' = W)) (h : (S.size : Int) < 38) :
    Calls Tryd.prog 15 #[.string S] w fun e w' => e = .returned (.tuple #[.agg #[.int .i64 0, .bool false, .bool false, .bool false, .bool false, .bool false, .bool false, .int .i64 0, .int .u64 0, .int .i64 0, .int .u64 0, .int .i64 0, .int .i64 0, .int .i64 0, .int .i64 0, .int .i64 0], .int .i64 90]) ∧ Below w.heap.size w w' := by
  go_enter Tryd.func15, Tryd.ntmps15
  go_wp2_with fail
  refine (unhide k5 _).mono ?_
  rintro e w1 ⟨rfl, rfl⟩
  clear k5
  go_wp2_with fail
  refine bodyPost_ret (v := .tuple #[.agg #[.int .i64 0, .bool false, .bool false, .bool false, .bool false, .bool false, .bool false, .int .i64 0, .int .u64 0, .int .i64 0, .int .u64 0, .int .i64 0, .int .i64 0, .int .i64 0, .int .i64 0, .int .i64 0], .int .i64 90]) ?_ rfl ⟨rfl, alloc_below _ _⟩
  exact results_row2 rfl _ _ w.heap.size 24 _ _ _ _ rfl rfl (heap_last w _ _ rfl) Tryd.underlying24 rfl (by kernel_rfl)
set_option maxRecDepth 100000 in
set_option maxHeartbeats 4000000 in
theorem rparse_short2 (S : ByteArray) (P5 : ByteArray) (w : World) (hs : (7 : Int) ≤ (S.size : Int)) (hs2 : (S.size : Int) ≤ 10000) (z5 : ∀ W : World, (Instr.slice 9 (.string S) none (some (.int .i64 5)) none).run Tryd.prog W = .ok (.string P5) W) (h5 : (P5.toList == [66, 66, 3, 0, 0]) = true) (k5 : Hid (∀ W, Calls Tryd.prog 33 #[.string S, .int .i64 5, .int .i64 7] W fun e W' => e = .returned (.int .i64 514) ∧ W' = W)) (h : (S.size : Int) < 38) :
    Calls Tryd.prog 15 #[.string S] w fun e w' => e = .returned (.tuple #[.agg #[.int .i64 0, .bool false, .bool false, .bool false, .bool false, .bool false, .bool false, .int .i64 0, .int .u64 0, .int .i64 0, .int .u64 0, .int .i64 0, .int .i64 0, .int .i64 0, .int .i64 0, .int .i64 0], .int .i64 90]) ∧ Below w.heap.size w w' := by
  go_enter Tryd.func15, Tryd.ntmps15
  go_wp2_with fail
  refine (unhide k5 _).mono ?_
  rintro e w1 ⟨rfl, rfl⟩
  clear k5
  go_wp2_with fail
  refine bodyPost_ret (v := .tuple #[.agg #[.int .i64 0, .bool false, .bool false, .bool false, .bool false, .bool false, .bool false, .int .i64 0, .int .u64 0, .int .i64 0, .int .u64 0, .int .i64 0, .int .i64 0, .int .i64 0, .int .i64 0, .int .i64 0], .int .i64 90]) ?_ rfl ⟨rfl, alloc_below _ _⟩
  exact results_row2 rfl _ _ w.heap.size 24 _ _ _ _ rfl rfl (heap_last w _ _ rfl) Tryd.underlying24 rfl (by kernel_rfl)
set_option maxRecDepth 100000 in
set_option maxHeartbeats 4000000 in
theorem rparse_short3 (S : ByteArray) (P5 : ByteArray) (w : World) (hs : (7 : Int) ≤ (S.size : Int)) (hs2 : (S.size : Int) ≤ 10000) (z5 : ∀ W : World, (Instr.slice 9 (.string S) none (some (.int .i64 5)) none).run Tryd.prog W = .ok (.string P5) W) (h5 : (P5.toList == [66, 66, 3, 0, 0]) = true) (k5 : Hid (∀ W, Calls Tryd.prog 33 #[.string S, .int .i64 5, .int .i64 7] W fun e W' => e = .returned (.int .i64 514) ∧ W' = W)) (h0 : ¬ (S.size : Int) < 38) (h : (S.size : Int) < 39) :
    Calls Tryd.prog 15 #[.string S] w fun e w' => e = .returned (.tuple #[.agg #[.int .i64 0, .bool false, .bool false, .bool false, .bool false, .bool false, .bool false, .int .i64 0, .int .u64 0, .int .i64 0, .int .u64 0, .int .i64 0, .int .i64 0, .int .i64 0, .int .i64 0, .int .i64 0], .int .i64 90]) ∧ Below w.heap.size w w' := by
  go_enter Tryd.func15, Tryd.ntmps15
  go_wp2_with fail
  refine (unhide k5 _).mono ?_
  rintro e w1 ⟨rfl, rfl⟩
  clear k5
  go_wp2_with fail
  refine bodyPost_ret (v := .tuple #[.agg #[.int .i64 0, .bool false, .bool false, .bool false, .bool false, .bool false, .bool false, .int .i64 0, .int .u64 0, .int .i64 0, .int .u64 0, .int .i64 0, .int .i64 0, .int .i64 0, .int .i64 0, .int .i64 0], .int .i64 90]) ?_ rfl ⟨rfl, alloc_below _ _⟩
  exact results_row2 rfl _ _ w.heap.size 24 _ _ _ _ rfl rfl (heap_last w _ _ rfl) Tryd.underlying24 rfl (by kernel_rfl)
set_option maxRecDepth 100000 in
set_option maxHeartbeats 4000000 in
theorem rparse_conf (S : ByteArray) (P5 QR QB : ByteArray) (f R C B P A M H D : Int) (c x : Bool) (w : World) (hs : (7 : Int) ≤ (S.size : Int)) (hs2 : (S.size : Int) ≤ 10000) (z5 : ∀ W : World, (Instr.slice 9 (.string S) none (some (.int .i64 5)) none).run Tryd.prog W = .ok (.string P5) W) (h5 : (P5.toList == [66, 66, 3, 0, 0]) = true) 
    (k5 : Hid (∀ W, Calls Tryd.prog 33 #[.string S, .int .i64 5, .int .i64 7] W fun e W' => e = .returned (.int .i64 0) ∧ W' = W)) (h0 : ¬ (S.size : Int) < 38) (k7 : Hid (∀ W, Calls Tryd.prog 33 #[.string S, .int .i64 7, .int .i64 8] W fun e W' => e = .returned (.int .i64 f) ∧ W' = W))
    (nC : Hid (∀ W, Calls Tryd.prog 33 #[.string S, .int .i64 16, .int .i64 20] W fun e W' => e = .returned (.int .i64 C) ∧ W' = W))
    (nP : Hid (∀ W, Calls Tryd.prog 33 #[.string S, .int .i64 28, .int .i64 30] W fun e W' => e = .returned (.int .i64 P) ∧ W' = W))
    (nA : Hid (∀ W, Calls Tryd.prog 33 #[.string S, .int .i64 30, .int .i64 32] W fun e W' => e = .returned (.int .i64 A) ∧ W' = W))
    (nM : Hid (∀ W, Calls Tryd.prog 33 #[.string S, .int .i64 32, .int .i64 34] W fun e W' => e = .returned (.int .i64 M) ∧ W' = W))
    (nH : Hid (∀ W, Calls Tryd.prog 33 #[.string S, .int .i64 34, .int .i64 36] W fun e W' => e = .returned (.int .i64 H) ∧ W' = W))
    (nD : Hid (∀ W, Calls Tryd.prog 33 #[.string S, .int .i64 36, .int .i64 38] W fun e W' => e = .returned (.int .i64 D) ∧ W' = W))
    (zR : ∀ W : World, (Instr.slice 9 (.string S) (some (.int .i64 8)) (some (.int .i64 16)) none).run Tryd.prog W = .ok (.string QR) W) (zB : ∀ W : World, (Instr.slice 9 (.string S) (some (.int .i64 20)) (some (.int .i64 28)) none).run Tryd.prog W = .ok (.string QB) W)
    (nR : Hid (∀ W, Calls Tryd.prog 34 #[.string QR] W fun e W' => e = .returned (.int .u64 R) ∧ W' = W)) (nB : Hid (∀ W, Calls Tryd.prog 34 #[.string QB] W fun e W' => e = .returned (.int .u64 B) ∧ W' = W)) (hc : (f.tmod 2 == 1) = c) (hx : (IntKind.i64.wrap (f.tdiv 128) == 1) = x)  :
    Calls Tryd.prog 15 #[.string S] w fun e w' => e = .returned (.tuple #[.agg #[.int .i64 0, .bool c, .bool false, .bool false, .bool false, .bool false, .bool x, .int .i64 0, .int .u64 R, .int .i64 C, .int .u64 B, .int .i64 P, .int .i64 A, .int .i64 M, .int .i64 H, .int .i64 D], .int .i64 0]) ∧ Below w.heap.size w w' := by
  go_enter Tryd.func15, Tryd.ntmps15
  go_wp2_with fail
  refine (unhide k5 _).mono ?_
  rintro e w1 ⟨rfl, rfl⟩
  clear k5
  go_wp2_with fail
  refine (unhide k7 _).mono ?_
  rintro e w1 ⟨rfl, rfl⟩
  clear k7
  go_wp2_with fail
  have hb := hide (Below.drew (alloc_then (o := .cells #[.int .i64 0, .bool c, .bool false, .bool false, .bool false, .bool false, .bool x, .int .i64 0, .int .u64 R, .int .i64 C, .int .u64 B, .int .i64 P, .int .i64 A, .int .i64 M, .int .i64 H, .int .i64 D] 24) (alloc_below w (.cells #[.int .i64 0, .bool false, .bool false, .bool false, .bool false, .bool false, .bool false, .int .i64 0, .int .u64 0, .int .i64 0, .int .u64 0, .int .i64 0, .int .i64 0, .int .i64 0, .int .i64 0, .int .i64 0] 24))))
  have hr := hide (heap_alloc2_old w (.cells #[.int .i64 0, .bool false, .bool false, .bool false, .bool false, .bool false, .bool false, .int .i64 0, .int .u64 0, .int .i64 0, .int .u64 0, .int .i64 0, .int .i64 0, .int .i64 0, .int .i64 0, .int .i64 0] 24) (.cells #[.int .i64 0, .bool c, .bool false, .bool false, .bool false, .bool false, .bool x, .int .i64 0, .int .u64 R, .int .i64 C, .int .u64 B, .int .i64 P, .int .i64 A, .int .i64 M, .int .i64 H, .int .i64 D] 24))
  have hq := hide (heap_alloc2_new w (.cells #[.int .i64 0, .bool false, .bool false, .bool false, .bool false, .bool false, .bool false, .int .i64 0, .int .u64 0, .int .i64 0, .int .u64 0, .int .i64 0, .int .i64 0, .int .i64 0, .int .i64 0, .int .i64 0] 24) (.cells #[.int .i64 0, .bool c, .bool false, .bool false, .bool false, .bool false, .bool x, .int .i64 0, .int .u64 R, .int .i64 C, .int .u64 B, .int .i64 P, .int .i64 A, .int .i64 M, .int .i64 H, .int .i64 D] 24))
  go_upto_region 13 with fail
  go_cut [6] (fun v wx => v = .pointer (some ⟨w.heap.size + 1, 0, none⟩) ∧ ((w.alloc (.cells #[.int .i64 0, .bool false, .bool false, .bool false, .bool false, .bool false, .bool false, .int .i64 0, .int .u64 0, .int .i64 0, .int .u64 0, .int .i64 0, .int .i64 0, .int .i64 0, .int .i64 0, .int .i64 0] 24)).alloc (.cells #[.int .i64 0, .bool c, .bool false, .bool false, .bool false, .bool false, .bool x, .int .i64 0, .int .u64 R, .int .i64 C, .int .u64 B, .int .i64 P, .int .i64 A, .int .i64 M, .int .i64 H, .int .i64 D] 24)).drew = wx)
  case first =>
    go_region_held3 (fun _ => True) (exact True.intro) (first | (go_at_call_of 33 (#[.string S, .int .i64 16, .int .i64 20] : Array Value); refine (unhide nC _).mono ?_; rintro e9 w9 ⟨rfl, rfl⟩) | (go_at_call_of 33 (#[.string S, .int .i64 28, .int .i64 30] : Array Value); refine (unhide nP _).mono ?_; rintro e9 w9 ⟨rfl, rfl⟩) | (go_at_call_of 33 (#[.string S, .int .i64 30, .int .i64 32] : Array Value); refine (unhide nA _).mono ?_; rintro e9 w9 ⟨rfl, rfl⟩) | (go_at_call_of 33 (#[.string S, .int .i64 32, .int .i64 34] : Array Value); refine (unhide nM _).mono ?_; rintro e9 w9 ⟨rfl, rfl⟩) | (go_at_call_of 33 (#[.string S, .int .i64 34, .int .i64 36] : Array Value); refine (unhide nH _).mono ?_; rintro e9 w9 ⟨rfl, rfl⟩) | (go_at_call_of 33 (#[.string S, .int .i64 36, .int .i64 38] : Array Value); refine (unhide nD _).mono ?_; rintro e9 w9 ⟨rfl, rfl⟩) | (go_at_call_of 34 QR; refine (unhide nR _).mono ?_; rintro e9 w9 ⟨rfl, rfl⟩) | (go_at_call_of 34 QB; refine (unhide nB _).mono ?_; rintro e9 w9 ⟨rfl, rfl⟩))
    all_goals
      go_wp2_with fail
      go_meet
      exact ⟨rfl, rfl⟩
  case rest =>
    obtain ⟨rfl, rfl⟩ := hcut
    have HR := hide ((heap_drew ((w.alloc (.cells #[.int .i64 0, .bool false, .bool false, .bool false, .bool false, .bool false, .bool false, .int .i64 0, .int .u64 0, .int .i64 0, .int .u64 0, .int .i64 0, .int .i64 0, .int .i64 0, .int .i64 0, .int .i64 0] 24)).alloc (.cells #[.int .i64 0, .bool c, .bool false, .bool false, .bool false, .bool false, .bool x, .int .i64 0, .int .u64 R, .int .i64 C, .int .u64 B, .int .i64 P, .int .i64 A, .int .i64 M, .int .i64 H, .int .i64 D] 24))).symm ▸ unhide hr)
    have HQ := hide ((heap_drew ((w.alloc (.cells #[.int .i64 0, .bool false, .bool false, .bool false, .bool false, .bool false, .bool false, .int .i64 0, .int .u64 0, .int .i64 0, .int .u64 0, .int .i64 0, .int .i64 0, .int .i64 0, .int .i64 0, .int .i64 0] 24)).alloc (.cells #[.int .i64 0, .bool c, .bool false, .bool false, .bool false, .bool false, .bool x, .int .i64 0, .int .u64 R, .int .i64 C, .int .u64 B, .int .i64 P, .int .i64 A, .int .i64 M, .int .i64 H, .int .i64 D] 24))).symm ▸ unhide hq)
    clear hr hq
    generalize ((w.alloc (.cells #[.int .i64 0, .bool false, .bool false, .bool false, .bool false, .bool false, .bool false, .int .i64 0, .int .u64 0, .int .i64 0, .int .u64 0, .int .i64 0, .int .i64 0, .int .i64 0, .int .i64 0, .int .i64 0] 24)).alloc (.cells #[.int .i64 0, .bool c, .bool false, .bool false, .bool false, .bool false, .bool x, .int .i64 0, .int .u64 R, .int .i64 C, .int .u64 B, .int .i64 P, .int .i64 A, .int .i64 M, .int .i64 H, .int .i64 D] 24)).drew = v at *
    obtain ⟨c0, c1, c2, c3, c4, c5, c6, c7, c8, c9, c10, c11, c12, c13, c14, c15, g0, g1, g2, g3, g4, g5, g6, g7, g8, g9, g10, g11, g12, g13, g14, g15⟩ := cells16 (unhide HR)
    go_wp2_with (first | (refine load_want 24 _ rfl (w.heap.size + 1) rfl rfl 24 _ _ _ (unhide HQ) Tryd.underlying24 rfl (by kernel_rfl) ?_; simp only [Act.put, List.setIfInBounds_toArray, List.set_cons_zero, List.set_cons_succ]))
    refine bodyPost_ret (v := .tuple #[.agg #[.int .i64 0, .bool c, .bool false, .bool false, .bool false, .bool false, .bool x, .int .i64 0, .int .u64 R, .int .i64 C, .int .u64 B, .int .i64 P, .int .i64 A, .int .i64 M, .int .i64 H, .int .i64 D], .int .i64 0]) ?_ rfl ⟨rfl, below16 (unhide hb) (Nat.le_refl _)⟩
    exact results_row2 rfl _ _ w.heap.size 24 _ _ _ _ rfl rfl (set16 (unhide HR)) Tryd.underlying24 rfl (by kernel_rfl)
end Go.Proofs.YtchgmbbcfjfhoaaDoor
