/-
  The document's answer for bytes as frames: the contracts of gangwayref04's word and Parse.
-/
import Derived.Test.YtfndofbkfinnmaaDoorRef4b
import Derived.Deep.RegionHeld3
import Derived.WalkSmall
namespace Go.Proofs.YtfndofbkfinnmaaDoor
open Go.RowKit Go.Sort

theorem rword (l : List UInt8) (w : World) (hl : l.length = 2) : Calls Tryd.prog 25 #[.string (bs l)] w fun e w' => e = .returned (.int .i64 ((num l : Nat) : Int)) ∧ Below w.heap.size w w' := by
  match l, hl with
  | [a, b], _ =>
    have hs : (bs [a, b]).size = 2 := rfl
    have i0 : ((bs [a, b])[0]'(by rw [hs]; decide)) = a := rfl
    have i1 : ((bs [a, b])[1]'(by rw [hs]; decide)) = b := rfl
    have ha := a.toNat_lt
    have hb := b.toNat_lt
    have hn : num [a, b] = a.toNat * 256 + b.toNat := by simp [num]
    rw [hn]
    clear hn
    generalize bs [a, b] = s at *
    go_enter Tryd.func25, Tryd.ntmps25
    go_wp2_with fail
    go_quiet (fail)
    go_wp2_with fail
    go_ret
    exact ⟨by simp, below_drewN (Below.refl _ _) _⟩
set_option maxRecDepth 20000 in
set_option maxHeartbeats 400000 in
theorem rp_bad0 (s S1 S2 S3 R : ByteArray) (d q k : Nat) (w : World) (hs : s.size ≤ 1600) (h14 : 14 ≤ s.size) (hk1 : ((k : Int) == 33024) = false) (hk2 : (1500 : Int) < k) (hk3 : (k : Int) < 1536)
    (s1 : ∀ W : World, (Instr.slice 9 (.string s) none (some (.int .i64 6)) none).run Tryd.prog W = .ok (.string S1) W)
    (s2 : ∀ W : World, (Instr.slice 9 (.string s) (some (.int .i64 6)) (some (.int .i64 12)) none).run Tryd.prog W = .ok (.string S2) W)
    (s3 : ∀ W : World, (Instr.slice 9 (.string s) (some (.int .i64 12)) (some (.int .i64 14)) none).run Tryd.prog W = .ok (.string S3) W)
    (s4 : ∀ W : World, (Instr.slice 9 (.string s) (some (.int .i64 14)) none none).run Tryd.prog W = .ok (.string R) W)
    (N1 : Hid (∀ W, Calls Tryd.prog 24 #[.string S1] W fun e W' => e = .returned (.int .u64 (d : Int)) ∧ W' = W))
    (N2 : Hid (∀ W, Calls Tryd.prog 24 #[.string S2] W fun e W' => e = .returned (.int .u64 (q : Int)) ∧ W' = W))
    (N3 : Hid (∀ W, Calls Tryd.prog 25 #[.string S3] W fun e W' => e = .returned (.int .i64 (k : Int)) ∧ Below W.heap.size W W'))
    :
    Calls Tryd.prog 16 #[.string s] w fun e w' => e = .returned (.tuple #[.agg #[.int .u64 0, .int .u64 0, .bool false, .int .i64 0, .bool false, .int .i64 0, .int .i64 0, .string ⟨#[]⟩], .int .i64 41]) ∧ Below w.heap.size w w' := by
  go_enter Tryd.func16, Tryd.ntmps16
  go_wp2_with fail
  go_region_held3 (fun _ => True) (exact True.intro) (first | (go_at_call_of 24 S1; refine (unhide N1 _).mono ?_; rintro e' w3 ⟨rfl, rfl⟩) | (go_at_call_of 24 S2; refine (unhide N2 _).mono ?_; rintro e' w3 ⟨rfl, rfl⟩))
  all_goals
    go_wp2_with fail
    have hN2 := heap_alloc2_old w (.cells #[.int .u64 0, .int .u64 0, .bool false, .int .i64 0, .bool false, .int .i64 0, .int .i64 0, .string ⟨#[]⟩] 26) (.cells #[.int .u64 (d : Int), .int .u64 (q : Int), .bool false, .int .i64 0, .bool false, .int .i64 0, .int .i64 0, .string ⟨#[]⟩] 26)
    have hF2 := heap_alloc2_new w (.cells #[.int .u64 0, .int .u64 0, .bool false, .int .i64 0, .bool false, .int .i64 0, .int .i64 0, .string ⟨#[]⟩] 26) (.cells #[.int .u64 (d : Int), .int .u64 (q : Int), .bool false, .int .i64 0, .bool false, .int .i64 0, .int .i64 0, .string ⟨#[]⟩] 26)
    have hb2 : Below w.heap.size w ((w.alloc (.cells #[.int .u64 0, .int .u64 0, .bool false, .int .i64 0, .bool false, .int .i64 0, .int .i64 0, .string ⟨#[]⟩] 26)).alloc (.cells #[.int .u64 (d : Int), .int .u64 (q : Int), .bool false, .int .i64 0, .bool false, .int .i64 0, .int .i64 0, .string ⟨#[]⟩] 26)).drew := (alloc_then (alloc_below w _)).drew
    rw [← heap_drew] at hN2 hF2
    generalize ((w.alloc (.cells #[.int .u64 0, .int .u64 0, .bool false, .int .i64 0, .bool false, .int .i64 0, .int .i64 0, .string ⟨#[]⟩] 26)).alloc (.cells #[.int .u64 (d : Int), .int .u64 (q : Int), .bool false, .int .i64 0, .bool false, .int .i64 0, .int .i64 0, .string ⟨#[]⟩] 26)).drew = w2 at *
    have cW := at_grown (unhide N3) w2
    clear N1 N2 N3
    refine wp_region_quiet_below (by kernel_rfl) (by kernel_rfl) ?_
    repeat (go_big_quiet_step (first | (go_at_call 25; exact cW _ _)))
    refine wpQuiet_nil ?_
    rintro _ ⟨⟨dq, osq⟩, rfl⟩
    have b3 := below_regrown w2 dq osq
    have hb := bthen hb2 b3
    have hN := Below.row b3 hN2
    have hF := Below.row b3 hF2
    clear b3 hb2 hN2 hF2 cW
    generalize grow (redrawn w2 dq) osq = w3 at *
    obtain ⟨c0, c1, c2, c3, c4, c5, c6, c7, f0, f1, f2, f3, f4, f5, f6, f7⟩ := cells8 hN
    have HR := hide hN
    clear hN hF
    go_wp2_with fail
    refine bodyPost_ret ?_ rfl ⟨rfl, below8 hb (Nat.le_refl _)⟩
    exact results_row2 rfl _ _ w.heap.size 26 _ _ _ _ rfl rfl (set8 (unhide HR)) Tryd.underlying26 rfl (by kernel_rfl)
set_option maxRecDepth 20000 in
set_option maxHeartbeats 400000 in
theorem rp_typ0 (s S1 S2 S3 R : ByteArray) (d q k : Nat) (w : World) (hs : s.size ≤ 1600) (h14 : 14 ≤ s.size) (hk1 : ((k : Int) == 33024) = false) (hk2 : (1500 : Int) < k) (hk3 : (1536 : Int) ≤ k)
    (s1 : ∀ W : World, (Instr.slice 9 (.string s) none (some (.int .i64 6)) none).run Tryd.prog W = .ok (.string S1) W)
    (s2 : ∀ W : World, (Instr.slice 9 (.string s) (some (.int .i64 6)) (some (.int .i64 12)) none).run Tryd.prog W = .ok (.string S2) W)
    (s3 : ∀ W : World, (Instr.slice 9 (.string s) (some (.int .i64 12)) (some (.int .i64 14)) none).run Tryd.prog W = .ok (.string S3) W)
    (s4 : ∀ W : World, (Instr.slice 9 (.string s) (some (.int .i64 14)) none none).run Tryd.prog W = .ok (.string R) W)
    (N1 : Hid (∀ W, Calls Tryd.prog 24 #[.string S1] W fun e W' => e = .returned (.int .u64 (d : Int)) ∧ W' = W))
    (N2 : Hid (∀ W, Calls Tryd.prog 24 #[.string S2] W fun e W' => e = .returned (.int .u64 (q : Int)) ∧ W' = W))
    (N3 : Hid (∀ W, Calls Tryd.prog 25 #[.string S3] W fun e W' => e = .returned (.int .i64 (k : Int)) ∧ Below W.heap.size W W'))
    :
    Calls Tryd.prog 16 #[.string s] w fun e w' => e = .returned (.tuple #[.agg #[.int .u64 (d : Int), .int .u64 (q : Int), .bool false, .int .i64 0, .bool false, .int .i64 0, .int .i64 k, .string R], .int .i64 0]) ∧ Below w.heap.size w w' := by
  go_enter Tryd.func16, Tryd.ntmps16
  go_wp2_with fail
  go_region_held3 (fun _ => True) (exact True.intro) (first | (go_at_call_of 24 S1; refine (unhide N1 _).mono ?_; rintro e' w3 ⟨rfl, rfl⟩) | (go_at_call_of 24 S2; refine (unhide N2 _).mono ?_; rintro e' w3 ⟨rfl, rfl⟩))
  all_goals
    go_wp2_with fail
    have hN2 := heap_alloc2_old w (.cells #[.int .u64 0, .int .u64 0, .bool false, .int .i64 0, .bool false, .int .i64 0, .int .i64 0, .string ⟨#[]⟩] 26) (.cells #[.int .u64 (d : Int), .int .u64 (q : Int), .bool false, .int .i64 0, .bool false, .int .i64 0, .int .i64 0, .string ⟨#[]⟩] 26)
    have hF2 := heap_alloc2_new w (.cells #[.int .u64 0, .int .u64 0, .bool false, .int .i64 0, .bool false, .int .i64 0, .int .i64 0, .string ⟨#[]⟩] 26) (.cells #[.int .u64 (d : Int), .int .u64 (q : Int), .bool false, .int .i64 0, .bool false, .int .i64 0, .int .i64 0, .string ⟨#[]⟩] 26)
    have hb2 : Below w.heap.size w ((w.alloc (.cells #[.int .u64 0, .int .u64 0, .bool false, .int .i64 0, .bool false, .int .i64 0, .int .i64 0, .string ⟨#[]⟩] 26)).alloc (.cells #[.int .u64 (d : Int), .int .u64 (q : Int), .bool false, .int .i64 0, .bool false, .int .i64 0, .int .i64 0, .string ⟨#[]⟩] 26)).drew := (alloc_then (alloc_below w _)).drew
    rw [← heap_drew] at hN2 hF2
    generalize ((w.alloc (.cells #[.int .u64 0, .int .u64 0, .bool false, .int .i64 0, .bool false, .int .i64 0, .int .i64 0, .string ⟨#[]⟩] 26)).alloc (.cells #[.int .u64 (d : Int), .int .u64 (q : Int), .bool false, .int .i64 0, .bool false, .int .i64 0, .int .i64 0, .string ⟨#[]⟩] 26)).drew = w2 at *
    have cW := at_grown (unhide N3) w2
    clear N1 N2 N3
    refine wp_region_quiet_below (by kernel_rfl) (by kernel_rfl) ?_
    repeat (go_big_quiet_step (first | (go_at_call 25; exact cW _ _)))
    refine wpQuiet_nil ?_
    rintro _ ⟨⟨dq, osq⟩, rfl⟩
    have b3 := below_regrown w2 dq osq
    have hb := bthen hb2 b3
    have hN := Below.row b3 hN2
    have hF := Below.row b3 hF2
    clear b3 hb2 hN2 hF2 cW
    generalize grow (redrawn w2 dq) osq = w3 at *
    obtain ⟨d0, d1, d2, d3, d4, d5, d6, d7, g0, g1, g2, g3, g4, g5, g6, g7⟩ := cells8 hF
    have hF' := setType (v6 := .int .i64 k) (v7 := .string R) hF
    have hN' : ((w3.setCell ⟨w.heap.size + 1, 6, none⟩ (.int .i64 k)).setCell ⟨w.heap.size + 1, 7, none⟩ (.string R)).heap[w.heap.size]? = _ := ((heap_setCell_other _ ⟨w.heap.size + 1, 7, none⟩ w.heap.size _ (Nat.ne_of_lt (Nat.lt_succ_self _))).trans (heap_setCell_other w3 ⟨w.heap.size + 1, 6, none⟩ w.heap.size _ (Nat.ne_of_lt (Nat.lt_succ_self _)))).trans hN
    have hb' : Below w.heap.size w ((w3.setCell ⟨w.heap.size + 1, 6, none⟩ (.int .i64 k)).setCell ⟨w.heap.size + 1, 7, none⟩ (.string R)) := (hb.setCell (p := ⟨w.heap.size + 1, 6, none⟩) (Nat.le_succ _) _).setCell (p := ⟨w.heap.size + 1, 7, none⟩) (Nat.le_succ _) _
    obtain ⟨d0', d1', d2', d3', d4', d5', d6', d7', _⟩ := cells8 hF'
    obtain ⟨c0, c1, c2, c3, c4, c5, c6, c7, f0, f1, f2, f3, f4, f5, f6, f7⟩ := cells8 hN'
    have HR := hide hN'
    clear hN hF hF' hN'
    go_wp2_with fail
    refine bodyPost_ret ?_ rfl ⟨rfl, below8 hb' (Nat.le_refl _)⟩
    exact results_row2 rfl _ _ w.heap.size 26 _ _ _ _ rfl rfl (set8 (unhide HR)) Tryd.underlying26 rfl (by kernel_rfl)
set_option maxRecDepth 20000 in
set_option maxHeartbeats 400000 in
theorem rp_short0 (s S1 S2 S3 R : ByteArray) (d q k : Nat) (w : World) (hs : s.size ≤ 1600) (h14 : 14 ≤ s.size) (hk1 : ((k : Int) == 33024) = false) (hk2 : (k : Int) ≤ 1500) (hk3 : (R.size : Int) < k)
    (s1 : ∀ W : World, (Instr.slice 9 (.string s) none (some (.int .i64 6)) none).run Tryd.prog W = .ok (.string S1) W)
    (s2 : ∀ W : World, (Instr.slice 9 (.string s) (some (.int .i64 6)) (some (.int .i64 12)) none).run Tryd.prog W = .ok (.string S2) W)
    (s3 : ∀ W : World, (Instr.slice 9 (.string s) (some (.int .i64 12)) (some (.int .i64 14)) none).run Tryd.prog W = .ok (.string S3) W)
    (s4 : ∀ W : World, (Instr.slice 9 (.string s) (some (.int .i64 14)) none none).run Tryd.prog W = .ok (.string R) W)
    (N1 : Hid (∀ W, Calls Tryd.prog 24 #[.string S1] W fun e W' => e = .returned (.int .u64 (d : Int)) ∧ W' = W))
    (N2 : Hid (∀ W, Calls Tryd.prog 24 #[.string S2] W fun e W' => e = .returned (.int .u64 (q : Int)) ∧ W' = W))
    (N3 : Hid (∀ W, Calls Tryd.prog 25 #[.string S3] W fun e W' => e = .returned (.int .i64 (k : Int)) ∧ Below W.heap.size W W'))
    :
    Calls Tryd.prog 16 #[.string s] w fun e w' => e = .returned (.tuple #[.agg #[.int .u64 0, .int .u64 0, .bool false, .int .i64 0, .bool false, .int .i64 0, .int .i64 0, .string ⟨#[]⟩], .int .i64 40]) ∧ Below w.heap.size w w' := by
  go_enter Tryd.func16, Tryd.ntmps16
  go_wp2_with fail
  go_region_held3 (fun _ => True) (exact True.intro) (first | (go_at_call_of 24 S1; refine (unhide N1 _).mono ?_; rintro e' w3 ⟨rfl, rfl⟩) | (go_at_call_of 24 S2; refine (unhide N2 _).mono ?_; rintro e' w3 ⟨rfl, rfl⟩))
  all_goals
    go_wp2_with fail
    have hN2 := heap_alloc2_old w (.cells #[.int .u64 0, .int .u64 0, .bool false, .int .i64 0, .bool false, .int .i64 0, .int .i64 0, .string ⟨#[]⟩] 26) (.cells #[.int .u64 (d : Int), .int .u64 (q : Int), .bool false, .int .i64 0, .bool false, .int .i64 0, .int .i64 0, .string ⟨#[]⟩] 26)
    have hF2 := heap_alloc2_new w (.cells #[.int .u64 0, .int .u64 0, .bool false, .int .i64 0, .bool false, .int .i64 0, .int .i64 0, .string ⟨#[]⟩] 26) (.cells #[.int .u64 (d : Int), .int .u64 (q : Int), .bool false, .int .i64 0, .bool false, .int .i64 0, .int .i64 0, .string ⟨#[]⟩] 26)
    have hb2 : Below w.heap.size w ((w.alloc (.cells #[.int .u64 0, .int .u64 0, .bool false, .int .i64 0, .bool false, .int .i64 0, .int .i64 0, .string ⟨#[]⟩] 26)).alloc (.cells #[.int .u64 (d : Int), .int .u64 (q : Int), .bool false, .int .i64 0, .bool false, .int .i64 0, .int .i64 0, .string ⟨#[]⟩] 26)).drew := (alloc_then (alloc_below w _)).drew
    rw [← heap_drew] at hN2 hF2
    generalize ((w.alloc (.cells #[.int .u64 0, .int .u64 0, .bool false, .int .i64 0, .bool false, .int .i64 0, .int .i64 0, .string ⟨#[]⟩] 26)).alloc (.cells #[.int .u64 (d : Int), .int .u64 (q : Int), .bool false, .int .i64 0, .bool false, .int .i64 0, .int .i64 0, .string ⟨#[]⟩] 26)).drew = w2 at *
    have cW := at_grown (unhide N3) w2
    clear N1 N2 N3
    refine wp_region_quiet_below (by kernel_rfl) (by kernel_rfl) ?_
    repeat (go_big_quiet_step (first | (go_at_call 25; exact cW _ _)))
    refine wpQuiet_nil ?_
    rintro _ ⟨⟨dq, osq⟩, rfl⟩
    have b3 := below_regrown w2 dq osq
    have hb := bthen hb2 b3
    have hN := Below.row b3 hN2
    have hF := Below.row b3 hF2
    clear b3 hb2 hN2 hF2 cW
    generalize grow (redrawn w2 dq) osq = w3 at *
    obtain ⟨c0, c1, c2, c3, c4, c5, c6, c7, f0, f1, f2, f3, f4, f5, f6, f7⟩ := cells8 hN
    have HR := hide hN
    clear hN hF
    go_wp2_with fail
    refine bodyPost_ret ?_ rfl ⟨rfl, below8 hb (Nat.le_refl _)⟩
    exact results_row2 rfl _ _ w.heap.size 26 _ _ _ _ rfl rfl (set8 (unhide HR)) Tryd.underlying26 rfl (by kernel_rfl)
set_option maxRecDepth 20000 in
set_option maxHeartbeats 400000 in
theorem rp_len0 (s S1 S2 S3 R T : ByteArray) (d q k : Nat) (w : World) (hs : s.size ≤ 1600) (h14 : 14 ≤ s.size) (hk1 : ((k : Int) == 33024) = false) (hk2 : (k : Int) ≤ 1500) (hk3 : (k : Int) ≤ R.size)
    (s1 : ∀ W : World, (Instr.slice 9 (.string s) none (some (.int .i64 6)) none).run Tryd.prog W = .ok (.string S1) W)
    (s2 : ∀ W : World, (Instr.slice 9 (.string s) (some (.int .i64 6)) (some (.int .i64 12)) none).run Tryd.prog W = .ok (.string S2) W)
    (s3 : ∀ W : World, (Instr.slice 9 (.string s) (some (.int .i64 12)) (some (.int .i64 14)) none).run Tryd.prog W = .ok (.string S3) W)
    (s4 : ∀ W : World, (Instr.slice 9 (.string s) (some (.int .i64 14)) none none).run Tryd.prog W = .ok (.string R) W)
    (N1 : Hid (∀ W, Calls Tryd.prog 24 #[.string S1] W fun e W' => e = .returned (.int .u64 (d : Int)) ∧ W' = W))
    (N2 : Hid (∀ W, Calls Tryd.prog 24 #[.string S2] W fun e W' => e = .returned (.int .u64 (q : Int)) ∧ W' = W))
    (N3 : Hid (∀ W, Calls Tryd.prog 25 #[.string S3] W fun e W' => e = .returned (.int .i64 (k : Int)) ∧ Below W.heap.size W W'))
    (s5 : ∀ W : World, (Instr.slice 9 (.string R) none (some (.int .i64 (k : Int))) none).run Tryd.prog W = .ok (.string T) W)
    :
    Calls Tryd.prog 16 #[.string s] w fun e w' => e = .returned (.tuple #[.agg #[.int .u64 (d : Int), .int .u64 (q : Int), .bool false, .int .i64 0, .bool false, .int .i64 0, .int .i64 0, .string T], .int .i64 0]) ∧ Below w.heap.size w w' := by
  go_enter Tryd.func16, Tryd.ntmps16
  go_wp2_with fail
  go_region_held3 (fun _ => True) (exact True.intro) (first | (go_at_call_of 24 S1; refine (unhide N1 _).mono ?_; rintro e' w3 ⟨rfl, rfl⟩) | (go_at_call_of 24 S2; refine (unhide N2 _).mono ?_; rintro e' w3 ⟨rfl, rfl⟩))
  all_goals
    go_wp2_with fail
    have hN2 := heap_alloc2_old w (.cells #[.int .u64 0, .int .u64 0, .bool false, .int .i64 0, .bool false, .int .i64 0, .int .i64 0, .string ⟨#[]⟩] 26) (.cells #[.int .u64 (d : Int), .int .u64 (q : Int), .bool false, .int .i64 0, .bool false, .int .i64 0, .int .i64 0, .string ⟨#[]⟩] 26)
    have hF2 := heap_alloc2_new w (.cells #[.int .u64 0, .int .u64 0, .bool false, .int .i64 0, .bool false, .int .i64 0, .int .i64 0, .string ⟨#[]⟩] 26) (.cells #[.int .u64 (d : Int), .int .u64 (q : Int), .bool false, .int .i64 0, .bool false, .int .i64 0, .int .i64 0, .string ⟨#[]⟩] 26)
    have hb2 : Below w.heap.size w ((w.alloc (.cells #[.int .u64 0, .int .u64 0, .bool false, .int .i64 0, .bool false, .int .i64 0, .int .i64 0, .string ⟨#[]⟩] 26)).alloc (.cells #[.int .u64 (d : Int), .int .u64 (q : Int), .bool false, .int .i64 0, .bool false, .int .i64 0, .int .i64 0, .string ⟨#[]⟩] 26)).drew := (alloc_then (alloc_below w _)).drew
    rw [← heap_drew] at hN2 hF2
    generalize ((w.alloc (.cells #[.int .u64 0, .int .u64 0, .bool false, .int .i64 0, .bool false, .int .i64 0, .int .i64 0, .string ⟨#[]⟩] 26)).alloc (.cells #[.int .u64 (d : Int), .int .u64 (q : Int), .bool false, .int .i64 0, .bool false, .int .i64 0, .int .i64 0, .string ⟨#[]⟩] 26)).drew = w2 at *
    have cW := at_grown (unhide N3) w2
    clear N1 N2 N3
    refine wp_region_quiet_below (by kernel_rfl) (by kernel_rfl) ?_
    repeat (go_big_quiet_step (first | (go_at_call 25; exact cW _ _)))
    refine wpQuiet_nil ?_
    rintro _ ⟨⟨dq, osq⟩, rfl⟩
    have b3 := below_regrown w2 dq osq
    have hb := bthen hb2 b3
    have hN := Below.row b3 hN2
    have hF := Below.row b3 hF2
    clear b3 hb2 hN2 hF2 cW
    generalize grow (redrawn w2 dq) osq = w3 at *
    obtain ⟨d0, d1, d2, d3, d4, d5, d6, d7, g0, g1, g2, g3, g4, g5, g6, g7⟩ := cells8 hF
    have hF' := setBody (v7 := .string T) hF
    have hN' : (w3.setCell ⟨w.heap.size + 1, 7, none⟩ (.string T)).heap[w.heap.size]? = _ := (heap_setCell_other w3 ⟨w.heap.size + 1, 7, none⟩ w.heap.size _ (Nat.ne_of_lt (Nat.lt_succ_self _))).trans hN
    have hb' : Below w.heap.size w (w3.setCell ⟨w.heap.size + 1, 7, none⟩ (.string T)) := hb.setCell (p := ⟨w.heap.size + 1, 7, none⟩) (Nat.le_succ _) _
    obtain ⟨d0', d1', d2', d3', d4', d5', d6', d7', _⟩ := cells8 hF'
    obtain ⟨c0, c1, c2, c3, c4, c5, c6, c7, f0, f1, f2, f3, f4, f5, f6, f7⟩ := cells8 hN'
    have HR := hide hN'
    clear hN hF hF' hN'
    go_wp2_with fail
    refine bodyPost_ret ?_ rfl ⟨rfl, below8 hb' (Nat.le_refl _)⟩
    exact results_row2 rfl _ _ w.heap.size 26 _ _ _ _ rfl rfl (set8 (unhide HR)) Tryd.underlying26 rfl (by kernel_rfl)
set_option maxRecDepth 20000 in
set_option maxHeartbeats 400000 in
theorem rp_cut1 (s S1 S2 S3 R : ByteArray) (d q : Nat) (w : World) (hs : s.size ≤ 1600) (h14 : 14 ≤ s.size) (hr4 : (R.size : Int) < 4)
    (s1 : ∀ W : World, (Instr.slice 9 (.string s) none (some (.int .i64 6)) none).run Tryd.prog W = .ok (.string S1) W)
    (s2 : ∀ W : World, (Instr.slice 9 (.string s) (some (.int .i64 6)) (some (.int .i64 12)) none).run Tryd.prog W = .ok (.string S2) W)
    (s3 : ∀ W : World, (Instr.slice 9 (.string s) (some (.int .i64 12)) (some (.int .i64 14)) none).run Tryd.prog W = .ok (.string S3) W)
    (s4 : ∀ W : World, (Instr.slice 9 (.string s) (some (.int .i64 14)) none none).run Tryd.prog W = .ok (.string R) W)
    (N1 : Hid (∀ W, Calls Tryd.prog 24 #[.string S1] W fun e W' => e = .returned (.int .u64 (d : Int)) ∧ W' = W))
    (N2 : Hid (∀ W, Calls Tryd.prog 24 #[.string S2] W fun e W' => e = .returned (.int .u64 (q : Int)) ∧ W' = W))
    (N3 : Hid (∀ W, Calls Tryd.prog 25 #[.string S3] W fun e W' => e = .returned (.int .i64 33024) ∧ Below W.heap.size W W'))
    :
    Calls Tryd.prog 16 #[.string s] w fun e w' => e = .returned (.tuple #[.agg #[.int .u64 0, .int .u64 0, .bool false, .int .i64 0, .bool false, .int .i64 0, .int .i64 0, .string ⟨#[]⟩], .int .i64 40]) ∧ Below w.heap.size w w' := by
  go_enter Tryd.func16, Tryd.ntmps16
  go_wp2_with fail
  go_region_held3 (fun _ => True) (exact True.intro) (first | (go_at_call_of 24 S1; refine (unhide N1 _).mono ?_; rintro e' w3 ⟨rfl, rfl⟩) | (go_at_call_of 24 S2; refine (unhide N2 _).mono ?_; rintro e' w3 ⟨rfl, rfl⟩))
  all_goals
    go_wp2_with fail
    have hN2 := heap_alloc2_old w (.cells #[.int .u64 0, .int .u64 0, .bool false, .int .i64 0, .bool false, .int .i64 0, .int .i64 0, .string ⟨#[]⟩] 26) (.cells #[.int .u64 (d : Int), .int .u64 (q : Int), .bool false, .int .i64 0, .bool false, .int .i64 0, .int .i64 0, .string ⟨#[]⟩] 26)
    have hF2 := heap_alloc2_new w (.cells #[.int .u64 0, .int .u64 0, .bool false, .int .i64 0, .bool false, .int .i64 0, .int .i64 0, .string ⟨#[]⟩] 26) (.cells #[.int .u64 (d : Int), .int .u64 (q : Int), .bool false, .int .i64 0, .bool false, .int .i64 0, .int .i64 0, .string ⟨#[]⟩] 26)
    have hb2 : Below w.heap.size w ((w.alloc (.cells #[.int .u64 0, .int .u64 0, .bool false, .int .i64 0, .bool false, .int .i64 0, .int .i64 0, .string ⟨#[]⟩] 26)).alloc (.cells #[.int .u64 (d : Int), .int .u64 (q : Int), .bool false, .int .i64 0, .bool false, .int .i64 0, .int .i64 0, .string ⟨#[]⟩] 26)).drew := (alloc_then (alloc_below w _)).drew
    rw [← heap_drew] at hN2 hF2
    generalize ((w.alloc (.cells #[.int .u64 0, .int .u64 0, .bool false, .int .i64 0, .bool false, .int .i64 0, .int .i64 0, .string ⟨#[]⟩] 26)).alloc (.cells #[.int .u64 (d : Int), .int .u64 (q : Int), .bool false, .int .i64 0, .bool false, .int .i64 0, .int .i64 0, .string ⟨#[]⟩] 26)).drew = w2 at *
    have cW := at_grown (unhide N3) w2
    clear N1 N2 N3
    refine wp_region_quiet_below (by kernel_rfl) (by kernel_rfl) ?_
    repeat (go_big_quiet_step (first | (go_at_call 25; exact cW _ _)))
    refine wpQuiet_nil ?_
    rintro _ ⟨⟨dq, osq⟩, rfl⟩
    have b3 := below_regrown w2 dq osq
    have hb := bthen hb2 b3
    have hN := Below.row b3 hN2
    have hF := Below.row b3 hF2
    clear b3 hb2 hN2 hF2 cW
    generalize grow (redrawn w2 dq) osq = w3 at *
    obtain ⟨c0, c1, c2, c3, c4, c5, c6, c7, f0, f1, f2, f3, f4, f5, f6, f7⟩ := cells8 hN
    have HR := hide hN
    clear hN hF
    go_wp2_with fail
    refine bodyPost_ret ?_ rfl ⟨rfl, below8 hb (Nat.le_refl _)⟩
    exact results_row2 rfl _ _ w.heap.size 26 _ _ _ _ rfl rfl (set8 (unhide HR)) Tryd.underlying26 rfl (by kernel_rfl)
set_option maxRecDepth 20000 in
set_option maxHeartbeats 400000 in
theorem rp_mark1 (s S1 S2 S3 R R1 R2 R3 : ByteArray) (d q v k : Nat) (w : World) (hs : s.size ≤ 1600) (h14 : 14 ≤ s.size) (hr4 : (4 : Int) ≤ R.size) (hv : v < 65536) (hk1 : ((k : Int) == 33024) = true)
    (s1 : ∀ W : World, (Instr.slice 9 (.string s) none (some (.int .i64 6)) none).run Tryd.prog W = .ok (.string S1) W)
    (s2 : ∀ W : World, (Instr.slice 9 (.string s) (some (.int .i64 6)) (some (.int .i64 12)) none).run Tryd.prog W = .ok (.string S2) W)
    (s3 : ∀ W : World, (Instr.slice 9 (.string s) (some (.int .i64 12)) (some (.int .i64 14)) none).run Tryd.prog W = .ok (.string S3) W)
    (s4 : ∀ W : World, (Instr.slice 9 (.string s) (some (.int .i64 14)) none none).run Tryd.prog W = .ok (.string R) W)
    (N1 : Hid (∀ W, Calls Tryd.prog 24 #[.string S1] W fun e W' => e = .returned (.int .u64 (d : Int)) ∧ W' = W))
    (N2 : Hid (∀ W, Calls Tryd.prog 24 #[.string S2] W fun e W' => e = .returned (.int .u64 (q : Int)) ∧ W' = W))
    (N3 : Hid (∀ W, Calls Tryd.prog 25 #[.string S3] W fun e W' => e = .returned (.int .i64 33024) ∧ Below W.heap.size W W'))
    (s6 : ∀ W : World, (Instr.slice 9 (.string R) none (some (.int .i64 2)) none).run Tryd.prog W = .ok (.string R1) W)
    (s7 : ∀ W : World, (Instr.slice 9 (.string R) (some (.int .i64 2)) (some (.int .i64 4)) none).run Tryd.prog W = .ok (.string R2) W)
    (s8 : ∀ W : World, (Instr.slice 9 (.string R) (some (.int .i64 4)) none none).run Tryd.prog W = .ok (.string R3) W)
    (N4 : Hid (∀ W, Calls Tryd.prog 25 #[.string R1] W fun e W' => e = .returned (.int .i64 (v : Int)) ∧ Below W.heap.size W W'))
    (N5 : Hid (∀ W, Calls Tryd.prog 25 #[.string R2] W fun e W' => e = .returned (.int .i64 (k : Int)) ∧ Below W.heap.size W W'))
    :
    Calls Tryd.prog 16 #[.string s] w fun e w' => e = .returned (.tuple #[.agg #[.int .u64 0, .int .u64 0, .bool false, .int .i64 0, .bool false, .int .i64 0, .int .i64 0, .string ⟨#[]⟩], .int .i64 41]) ∧ Below w.heap.size w w' := by
  go_enter Tryd.func16, Tryd.ntmps16
  go_wp2_with fail
  go_region_held3 (fun _ => True) (exact True.intro) (first | (go_at_call_of 24 S1; refine (unhide N1 _).mono ?_; rintro e' w3 ⟨rfl, rfl⟩) | (go_at_call_of 24 S2; refine (unhide N2 _).mono ?_; rintro e' w3 ⟨rfl, rfl⟩))
  all_goals
    go_wp2_with fail
    have hN2 := heap_alloc2_old w (.cells #[.int .u64 0, .int .u64 0, .bool false, .int .i64 0, .bool false, .int .i64 0, .int .i64 0, .string ⟨#[]⟩] 26) (.cells #[.int .u64 (d : Int), .int .u64 (q : Int), .bool false, .int .i64 0, .bool false, .int .i64 0, .int .i64 0, .string ⟨#[]⟩] 26)
    have hF2 := heap_alloc2_new w (.cells #[.int .u64 0, .int .u64 0, .bool false, .int .i64 0, .bool false, .int .i64 0, .int .i64 0, .string ⟨#[]⟩] 26) (.cells #[.int .u64 (d : Int), .int .u64 (q : Int), .bool false, .int .i64 0, .bool false, .int .i64 0, .int .i64 0, .string ⟨#[]⟩] 26)
    have hb2 : Below w.heap.size w ((w.alloc (.cells #[.int .u64 0, .int .u64 0, .bool false, .int .i64 0, .bool false, .int .i64 0, .int .i64 0, .string ⟨#[]⟩] 26)).alloc (.cells #[.int .u64 (d : Int), .int .u64 (q : Int), .bool false, .int .i64 0, .bool false, .int .i64 0, .int .i64 0, .string ⟨#[]⟩] 26)).drew := (alloc_then (alloc_below w _)).drew
    rw [← heap_drew] at hN2 hF2
    generalize ((w.alloc (.cells #[.int .u64 0, .int .u64 0, .bool false, .int .i64 0, .bool false, .int .i64 0, .int .i64 0, .string ⟨#[]⟩] 26)).alloc (.cells #[.int .u64 (d : Int), .int .u64 (q : Int), .bool false, .int .i64 0, .bool false, .int .i64 0, .int .i64 0, .string ⟨#[]⟩] 26)).drew = w2 at *
    have cW := at_grown (unhide N3) w2
    clear N1 N2 N3
    refine wp_region_quiet_below (by kernel_rfl) (by kernel_rfl) ?_
    repeat (go_big_quiet_step (first | (go_at_call 25; exact cW _ _)))
    refine wpQuiet_nil ?_
    rintro _ ⟨⟨dq, osq⟩, rfl⟩
    have b3 := below_regrown w2 dq osq
    have hb := bthen hb2 b3
    have hN := Below.row b3 hN2
    have hF := Below.row b3 hF2
    clear b3 hb2 hN2 hF2 cW
    generalize grow (redrawn w2 dq) osq = w3 at *
    go_wp2_with fail
    refine (unhide N4 _).mono ?_
    rintro e' w4 ⟨rfl, b4⟩
    have hb4 := bthen hb b4
    have hN4 := Below.row b4 hN
    have hF4 := Below.row b4 hF
    clear b4 hb hN hF N4
    obtain ⟨d0, d1, d2, d3, d4, d5, d6, d7, g0, g1, g2, g3, g4, g5, g6, g7⟩ := cells8 hF4
    have HF := hide (setTag (v2 := .bool true) (v3 := .int .i64 ((v : Int) / 8192)) (v4 := .bool ((v : Int) / 4096 % 2 == 1)) (v5 := .int .i64 ((v : Int) % 4096)) hF4)
    have HN : Hid (((((w4.setCell ⟨w.heap.size + 1, 2, none⟩ (.bool true)).setCell ⟨w.heap.size + 1, 3, none⟩ (.int .i64 ((v : Int) / 8192))).setCell ⟨w.heap.size + 1, 4, none⟩ (.bool ((v : Int) / 4096 % 2 == 1))).setCell ⟨w.heap.size + 1, 5, none⟩ (.int .i64 ((v : Int) % 4096))).heap[w.heap.size]? = _) := hide ((((heap_setCell_other _ ⟨w.heap.size + 1, 5, none⟩ w.heap.size _ (Nat.ne_of_lt (Nat.lt_succ_self _))).trans (heap_setCell_other _ ⟨w.heap.size + 1, 4, none⟩ w.heap.size _ (Nat.ne_of_lt (Nat.lt_succ_self _)))).trans ((heap_setCell_other _ ⟨w.heap.size + 1, 3, none⟩ w.heap.size _ (Nat.ne_of_lt (Nat.lt_succ_self _))).trans (heap_setCell_other w4 ⟨w.heap.size + 1, 2, none⟩ w.heap.size _ (Nat.ne_of_lt (Nat.lt_succ_self _))))).trans hN4)
    have HB : Hid (Below w.heap.size w ((((w4.setCell ⟨w.heap.size + 1, 2, none⟩ (.bool true)).setCell ⟨w.heap.size + 1, 3, none⟩ (.int .i64 ((v : Int) / 8192))).setCell ⟨w.heap.size + 1, 4, none⟩ (.bool ((v : Int) / 4096 % 2 == 1))).setCell ⟨w.heap.size + 1, 5, none⟩ (.int .i64 ((v : Int) % 4096)))) := hide ((((hb4.setCell (p := ⟨w.heap.size + 1, 2, none⟩) (Nat.le_succ _) _).setCell (p := ⟨w.heap.size + 1, 3, none⟩) (Nat.le_succ _) _).setCell (p := ⟨w.heap.size + 1, 4, none⟩) (Nat.le_succ _) _).setCell (p := ⟨w.heap.size + 1, 5, none⟩) (Nat.le_succ _) _)
    clear hN4 hF4 hb4
    go_wp2_with fail
    refine (unhide N5 _).mono ?_
    rintro e' w6 ⟨rfl, b6⟩
    have hb := bthen (unhide HB) b6
    have hN := Below.row b6 (unhide HN)
    have hF := Below.row b6 (unhide HF)
    clear b6 HB HN HF N5 d0 d1 d2 d3 d4 d5 d6 d7 g0 g1 g2 g3 g4 g5 g6 g7
    obtain ⟨c0, c1, c2, c3, c4, c5, c6, c7, f0, f1, f2, f3, f4, f5, f6, f7⟩ := cells8 hN
    have HR := hide hN
    clear hN hF
    go_wp2_with fail
    refine bodyPost_ret ?_ rfl ⟨rfl, below8 hb (Nat.le_refl _)⟩
    exact results_row2 rfl _ _ w.heap.size 26 _ _ _ _ rfl rfl (set8 (unhide HR)) Tryd.underlying26 rfl (by kernel_rfl)
set_option maxRecDepth 20000 in
set_option maxHeartbeats 400000 in
theorem rp_bad1 (s S1 S2 S3 R R1 R2 R3 : ByteArray) (d q v k : Nat) (w : World) (hs : s.size ≤ 1600) (h14 : 14 ≤ s.size) (hr4 : (4 : Int) ≤ R.size) (hv : v < 65536) (hk1 : ((k : Int) == 33024) = false) (hk2 : (1500 : Int) < k) (hk3 : (k : Int) < 1536)
    (s1 : ∀ W : World, (Instr.slice 9 (.string s) none (some (.int .i64 6)) none).run Tryd.prog W = .ok (.string S1) W)
    (s2 : ∀ W : World, (Instr.slice 9 (.string s) (some (.int .i64 6)) (some (.int .i64 12)) none).run Tryd.prog W = .ok (.string S2) W)
    (s3 : ∀ W : World, (Instr.slice 9 (.string s) (some (.int .i64 12)) (some (.int .i64 14)) none).run Tryd.prog W = .ok (.string S3) W)
    (s4 : ∀ W : World, (Instr.slice 9 (.string s) (some (.int .i64 14)) none none).run Tryd.prog W = .ok (.string R) W)
    (N1 : Hid (∀ W, Calls Tryd.prog 24 #[.string S1] W fun e W' => e = .returned (.int .u64 (d : Int)) ∧ W' = W))
    (N2 : Hid (∀ W, Calls Tryd.prog 24 #[.string S2] W fun e W' => e = .returned (.int .u64 (q : Int)) ∧ W' = W))
    (N3 : Hid (∀ W, Calls Tryd.prog 25 #[.string S3] W fun e W' => e = .returned (.int .i64 33024) ∧ Below W.heap.size W W'))
    (s6 : ∀ W : World, (Instr.slice 9 (.string R) none (some (.int .i64 2)) none).run Tryd.prog W = .ok (.string R1) W)
    (s7 : ∀ W : World, (Instr.slice 9 (.string R) (some (.int .i64 2)) (some (.int .i64 4)) none).run Tryd.prog W = .ok (.string R2) W)
    (s8 : ∀ W : World, (Instr.slice 9 (.string R) (some (.int .i64 4)) none none).run Tryd.prog W = .ok (.string R3) W)
    (N4 : Hid (∀ W, Calls Tryd.prog 25 #[.string R1] W fun e W' => e = .returned (.int .i64 (v : Int)) ∧ Below W.heap.size W W'))
    (N5 : Hid (∀ W, Calls Tryd.prog 25 #[.string R2] W fun e W' => e = .returned (.int .i64 (k : Int)) ∧ Below W.heap.size W W'))
    :
    Calls Tryd.prog 16 #[.string s] w fun e w' => e = .returned (.tuple #[.agg #[.int .u64 0, .int .u64 0, .bool false, .int .i64 0, .bool false, .int .i64 0, .int .i64 0, .string ⟨#[]⟩], .int .i64 41]) ∧ Below w.heap.size w w' := by
  go_enter Tryd.func16, Tryd.ntmps16
  go_wp2_with fail
  go_region_held3 (fun _ => True) (exact True.intro) (first | (go_at_call_of 24 S1; refine (unhide N1 _).mono ?_; rintro e' w3 ⟨rfl, rfl⟩) | (go_at_call_of 24 S2; refine (unhide N2 _).mono ?_; rintro e' w3 ⟨rfl, rfl⟩))
  all_goals
    go_wp2_with fail
    have hN2 := heap_alloc2_old w (.cells #[.int .u64 0, .int .u64 0, .bool false, .int .i64 0, .bool false, .int .i64 0, .int .i64 0, .string ⟨#[]⟩] 26) (.cells #[.int .u64 (d : Int), .int .u64 (q : Int), .bool false, .int .i64 0, .bool false, .int .i64 0, .int .i64 0, .string ⟨#[]⟩] 26)
    have hF2 := heap_alloc2_new w (.cells #[.int .u64 0, .int .u64 0, .bool false, .int .i64 0, .bool false, .int .i64 0, .int .i64 0, .string ⟨#[]⟩] 26) (.cells #[.int .u64 (d : Int), .int .u64 (q : Int), .bool false, .int .i64 0, .bool false, .int .i64 0, .int .i64 0, .string ⟨#[]⟩] 26)
    have hb2 : Below w.heap.size w ((w.alloc (.cells #[.int .u64 0, .int .u64 0, .bool false, .int .i64 0, .bool false, .int .i64 0, .int .i64 0, .string ⟨#[]⟩] 26)).alloc (.cells #[.int .u64 (d : Int), .int .u64 (q : Int), .bool false, .int .i64 0, .bool false, .int .i64 0, .int .i64 0, .string ⟨#[]⟩] 26)).drew := (alloc_then (alloc_below w _)).drew
    rw [← heap_drew] at hN2 hF2
    generalize ((w.alloc (.cells #[.int .u64 0, .int .u64 0, .bool false, .int .i64 0, .bool false, .int .i64 0, .int .i64 0, .string ⟨#[]⟩] 26)).alloc (.cells #[.int .u64 (d : Int), .int .u64 (q : Int), .bool false, .int .i64 0, .bool false, .int .i64 0, .int .i64 0, .string ⟨#[]⟩] 26)).drew = w2 at *
    have cW := at_grown (unhide N3) w2
    clear N1 N2 N3
    refine wp_region_quiet_below (by kernel_rfl) (by kernel_rfl) ?_
    repeat (go_big_quiet_step (first | (go_at_call 25; exact cW _ _)))
    refine wpQuiet_nil ?_
    rintro _ ⟨⟨dq, osq⟩, rfl⟩
    have b3 := below_regrown w2 dq osq
    have hb := bthen hb2 b3
    have hN := Below.row b3 hN2
    have hF := Below.row b3 hF2
    clear b3 hb2 hN2 hF2 cW
    generalize grow (redrawn w2 dq) osq = w3 at *
    go_wp2_with fail
    refine (unhide N4 _).mono ?_
    rintro e' w4 ⟨rfl, b4⟩
    have hb4 := bthen hb b4
    have hN4 := Below.row b4 hN
    have hF4 := Below.row b4 hF
    clear b4 hb hN hF N4
    obtain ⟨d0, d1, d2, d3, d4, d5, d6, d7, g0, g1, g2, g3, g4, g5, g6, g7⟩ := cells8 hF4
    have HF := hide (setTag (v2 := .bool true) (v3 := .int .i64 ((v : Int) / 8192)) (v4 := .bool ((v : Int) / 4096 % 2 == 1)) (v5 := .int .i64 ((v : Int) % 4096)) hF4)
    have HN : Hid (((((w4.setCell ⟨w.heap.size + 1, 2, none⟩ (.bool true)).setCell ⟨w.heap.size + 1, 3, none⟩ (.int .i64 ((v : Int) / 8192))).setCell ⟨w.heap.size + 1, 4, none⟩ (.bool ((v : Int) / 4096 % 2 == 1))).setCell ⟨w.heap.size + 1, 5, none⟩ (.int .i64 ((v : Int) % 4096))).heap[w.heap.size]? = _) := hide ((((heap_setCell_other _ ⟨w.heap.size + 1, 5, none⟩ w.heap.size _ (Nat.ne_of_lt (Nat.lt_succ_self _))).trans (heap_setCell_other _ ⟨w.heap.size + 1, 4, none⟩ w.heap.size _ (Nat.ne_of_lt (Nat.lt_succ_self _)))).trans ((heap_setCell_other _ ⟨w.heap.size + 1, 3, none⟩ w.heap.size _ (Nat.ne_of_lt (Nat.lt_succ_self _))).trans (heap_setCell_other w4 ⟨w.heap.size + 1, 2, none⟩ w.heap.size _ (Nat.ne_of_lt (Nat.lt_succ_self _))))).trans hN4)
    have HB : Hid (Below w.heap.size w ((((w4.setCell ⟨w.heap.size + 1, 2, none⟩ (.bool true)).setCell ⟨w.heap.size + 1, 3, none⟩ (.int .i64 ((v : Int) / 8192))).setCell ⟨w.heap.size + 1, 4, none⟩ (.bool ((v : Int) / 4096 % 2 == 1))).setCell ⟨w.heap.size + 1, 5, none⟩ (.int .i64 ((v : Int) % 4096)))) := hide ((((hb4.setCell (p := ⟨w.heap.size + 1, 2, none⟩) (Nat.le_succ _) _).setCell (p := ⟨w.heap.size + 1, 3, none⟩) (Nat.le_succ _) _).setCell (p := ⟨w.heap.size + 1, 4, none⟩) (Nat.le_succ _) _).setCell (p := ⟨w.heap.size + 1, 5, none⟩) (Nat.le_succ _) _)
    clear hN4 hF4 hb4
    go_wp2_with fail
    refine (unhide N5 _).mono ?_
    rintro e' w6 ⟨rfl, b6⟩
    have hb := bthen (unhide HB) b6
    have hN := Below.row b6 (unhide HN)
    have hF := Below.row b6 (unhide HF)
    clear b6 HB HN HF N5 d0 d1 d2 d3 d4 d5 d6 d7 g0 g1 g2 g3 g4 g5 g6 g7
    obtain ⟨c0, c1, c2, c3, c4, c5, c6, c7, f0, f1, f2, f3, f4, f5, f6, f7⟩ := cells8 hN
    have HR := hide hN
    clear hN hF
    go_wp2_with fail
    refine bodyPost_ret ?_ rfl ⟨rfl, below8 hb (Nat.le_refl _)⟩
    exact results_row2 rfl _ _ w.heap.size 26 _ _ _ _ rfl rfl (set8 (unhide HR)) Tryd.underlying26 rfl (by kernel_rfl)
set_option maxRecDepth 20000 in
set_option maxHeartbeats 400000 in
theorem rp_typ1 (s S1 S2 S3 R R1 R2 R3 : ByteArray) (d q v k : Nat) (w : World) (hs : s.size ≤ 1600) (h14 : 14 ≤ s.size) (hr4 : (4 : Int) ≤ R.size) (hv : v < 65536) (hk1 : ((k : Int) == 33024) = false) (hk2 : (1500 : Int) < k) (hk3 : (1536 : Int) ≤ k)
    (s1 : ∀ W : World, (Instr.slice 9 (.string s) none (some (.int .i64 6)) none).run Tryd.prog W = .ok (.string S1) W)
    (s2 : ∀ W : World, (Instr.slice 9 (.string s) (some (.int .i64 6)) (some (.int .i64 12)) none).run Tryd.prog W = .ok (.string S2) W)
    (s3 : ∀ W : World, (Instr.slice 9 (.string s) (some (.int .i64 12)) (some (.int .i64 14)) none).run Tryd.prog W = .ok (.string S3) W)
    (s4 : ∀ W : World, (Instr.slice 9 (.string s) (some (.int .i64 14)) none none).run Tryd.prog W = .ok (.string R) W)
    (N1 : Hid (∀ W, Calls Tryd.prog 24 #[.string S1] W fun e W' => e = .returned (.int .u64 (d : Int)) ∧ W' = W))
    (N2 : Hid (∀ W, Calls Tryd.prog 24 #[.string S2] W fun e W' => e = .returned (.int .u64 (q : Int)) ∧ W' = W))
    (N3 : Hid (∀ W, Calls Tryd.prog 25 #[.string S3] W fun e W' => e = .returned (.int .i64 33024) ∧ Below W.heap.size W W'))
    (s6 : ∀ W : World, (Instr.slice 9 (.string R) none (some (.int .i64 2)) none).run Tryd.prog W = .ok (.string R1) W)
    (s7 : ∀ W : World, (Instr.slice 9 (.string R) (some (.int .i64 2)) (some (.int .i64 4)) none).run Tryd.prog W = .ok (.string R2) W)
    (s8 : ∀ W : World, (Instr.slice 9 (.string R) (some (.int .i64 4)) none none).run Tryd.prog W = .ok (.string R3) W)
    (N4 : Hid (∀ W, Calls Tryd.prog 25 #[.string R1] W fun e W' => e = .returned (.int .i64 (v : Int)) ∧ Below W.heap.size W W'))
    (N5 : Hid (∀ W, Calls Tryd.prog 25 #[.string R2] W fun e W' => e = .returned (.int .i64 (k : Int)) ∧ Below W.heap.size W W'))
    :
    Calls Tryd.prog 16 #[.string s] w fun e w' => e = .returned (.tuple #[.agg #[.int .u64 (d : Int), .int .u64 (q : Int), .bool true, .int .i64 ((v : Int) / 8192), .bool ((v : Int) / 4096 % 2 == 1), .int .i64 ((v : Int) % 4096), .int .i64 k, .string R3], .int .i64 0]) ∧ Below w.heap.size w w' := by
  go_enter Tryd.func16, Tryd.ntmps16
  go_wp2_with fail
  go_region_held3 (fun _ => True) (exact True.intro) (first | (go_at_call_of 24 S1; refine (unhide N1 _).mono ?_; rintro e' w3 ⟨rfl, rfl⟩) | (go_at_call_of 24 S2; refine (unhide N2 _).mono ?_; rintro e' w3 ⟨rfl, rfl⟩))
  all_goals
    go_wp2_with fail
    have hN2 := heap_alloc2_old w (.cells #[.int .u64 0, .int .u64 0, .bool false, .int .i64 0, .bool false, .int .i64 0, .int .i64 0, .string ⟨#[]⟩] 26) (.cells #[.int .u64 (d : Int), .int .u64 (q : Int), .bool false, .int .i64 0, .bool false, .int .i64 0, .int .i64 0, .string ⟨#[]⟩] 26)
    have hF2 := heap_alloc2_new w (.cells #[.int .u64 0, .int .u64 0, .bool false, .int .i64 0, .bool false, .int .i64 0, .int .i64 0, .string ⟨#[]⟩] 26) (.cells #[.int .u64 (d : Int), .int .u64 (q : Int), .bool false, .int .i64 0, .bool false, .int .i64 0, .int .i64 0, .string ⟨#[]⟩] 26)
    have hb2 : Below w.heap.size w ((w.alloc (.cells #[.int .u64 0, .int .u64 0, .bool false, .int .i64 0, .bool false, .int .i64 0, .int .i64 0, .string ⟨#[]⟩] 26)).alloc (.cells #[.int .u64 (d : Int), .int .u64 (q : Int), .bool false, .int .i64 0, .bool false, .int .i64 0, .int .i64 0, .string ⟨#[]⟩] 26)).drew := (alloc_then (alloc_below w _)).drew
    rw [← heap_drew] at hN2 hF2
    generalize ((w.alloc (.cells #[.int .u64 0, .int .u64 0, .bool false, .int .i64 0, .bool false, .int .i64 0, .int .i64 0, .string ⟨#[]⟩] 26)).alloc (.cells #[.int .u64 (d : Int), .int .u64 (q : Int), .bool false, .int .i64 0, .bool false, .int .i64 0, .int .i64 0, .string ⟨#[]⟩] 26)).drew = w2 at *
    have cW := at_grown (unhide N3) w2
    clear N1 N2 N3
    refine wp_region_quiet_below (by kernel_rfl) (by kernel_rfl) ?_
    repeat (go_big_quiet_step (first | (go_at_call 25; exact cW _ _)))
    refine wpQuiet_nil ?_
    rintro _ ⟨⟨dq, osq⟩, rfl⟩
    have b3 := below_regrown w2 dq osq
    have hb := bthen hb2 b3
    have hN := Below.row b3 hN2
    have hF := Below.row b3 hF2
    clear b3 hb2 hN2 hF2 cW
    generalize grow (redrawn w2 dq) osq = w3 at *
    go_wp2_with fail
    refine (unhide N4 _).mono ?_
    rintro e' w4 ⟨rfl, b4⟩
    have hb4 := bthen hb b4
    have hN4 := Below.row b4 hN
    have hF4 := Below.row b4 hF
    clear b4 hb hN hF N4
    obtain ⟨d0, d1, d2, d3, d4, d5, d6, d7, g0, g1, g2, g3, g4, g5, g6, g7⟩ := cells8 hF4
    have HF := hide (setTag (v2 := .bool true) (v3 := .int .i64 ((v : Int) / 8192)) (v4 := .bool ((v : Int) / 4096 % 2 == 1)) (v5 := .int .i64 ((v : Int) % 4096)) hF4)
    have HN : Hid (((((w4.setCell ⟨w.heap.size + 1, 2, none⟩ (.bool true)).setCell ⟨w.heap.size + 1, 3, none⟩ (.int .i64 ((v : Int) / 8192))).setCell ⟨w.heap.size + 1, 4, none⟩ (.bool ((v : Int) / 4096 % 2 == 1))).setCell ⟨w.heap.size + 1, 5, none⟩ (.int .i64 ((v : Int) % 4096))).heap[w.heap.size]? = _) := hide ((((heap_setCell_other _ ⟨w.heap.size + 1, 5, none⟩ w.heap.size _ (Nat.ne_of_lt (Nat.lt_succ_self _))).trans (heap_setCell_other _ ⟨w.heap.size + 1, 4, none⟩ w.heap.size _ (Nat.ne_of_lt (Nat.lt_succ_self _)))).trans ((heap_setCell_other _ ⟨w.heap.size + 1, 3, none⟩ w.heap.size _ (Nat.ne_of_lt (Nat.lt_succ_self _))).trans (heap_setCell_other w4 ⟨w.heap.size + 1, 2, none⟩ w.heap.size _ (Nat.ne_of_lt (Nat.lt_succ_self _))))).trans hN4)
    have HB : Hid (Below w.heap.size w ((((w4.setCell ⟨w.heap.size + 1, 2, none⟩ (.bool true)).setCell ⟨w.heap.size + 1, 3, none⟩ (.int .i64 ((v : Int) / 8192))).setCell ⟨w.heap.size + 1, 4, none⟩ (.bool ((v : Int) / 4096 % 2 == 1))).setCell ⟨w.heap.size + 1, 5, none⟩ (.int .i64 ((v : Int) % 4096)))) := hide ((((hb4.setCell (p := ⟨w.heap.size + 1, 2, none⟩) (Nat.le_succ _) _).setCell (p := ⟨w.heap.size + 1, 3, none⟩) (Nat.le_succ _) _).setCell (p := ⟨w.heap.size + 1, 4, none⟩) (Nat.le_succ _) _).setCell (p := ⟨w.heap.size + 1, 5, none⟩) (Nat.le_succ _) _)
    clear hN4 hF4 hb4
    go_wp2_with fail
    refine (unhide N5 _).mono ?_
    rintro e' w6 ⟨rfl, b6⟩
    have hb := bthen (unhide HB) b6
    have hN := Below.row b6 (unhide HN)
    have hF := Below.row b6 (unhide HF)
    clear b6 HB HN HF N5 d0 d1 d2 d3 d4 d5 d6 d7 g0 g1 g2 g3 g4 g5 g6 g7
    obtain ⟨d0, d1, d2, d3, d4, d5, d6, d7, g0, g1, g2, g3, g4, g5, g6, g7⟩ := cells8 hF
    have hF' := setType (v6 := .int .i64 k) (v7 := .string R3) hF
    have hN' : ((w6.setCell ⟨w.heap.size + 1, 6, none⟩ (.int .i64 k)).setCell ⟨w.heap.size + 1, 7, none⟩ (.string R3)).heap[w.heap.size]? = _ := ((heap_setCell_other _ ⟨w.heap.size + 1, 7, none⟩ w.heap.size _ (Nat.ne_of_lt (Nat.lt_succ_self _))).trans (heap_setCell_other w6 ⟨w.heap.size + 1, 6, none⟩ w.heap.size _ (Nat.ne_of_lt (Nat.lt_succ_self _)))).trans hN
    have hb' : Below w.heap.size w ((w6.setCell ⟨w.heap.size + 1, 6, none⟩ (.int .i64 k)).setCell ⟨w.heap.size + 1, 7, none⟩ (.string R3)) := (hb.setCell (p := ⟨w.heap.size + 1, 6, none⟩) (Nat.le_succ _) _).setCell (p := ⟨w.heap.size + 1, 7, none⟩) (Nat.le_succ _) _
    obtain ⟨d0', d1', d2', d3', d4', d5', d6', d7', _⟩ := cells8 hF'
    obtain ⟨c0, c1, c2, c3, c4, c5, c6, c7, f0, f1, f2, f3, f4, f5, f6, f7⟩ := cells8 hN'
    have HR := hide hN'
    clear hN hF hF' hN'
    go_wp2_with fail
    refine bodyPost_ret ?_ rfl ⟨rfl, below8 hb' (Nat.le_refl _)⟩
    exact results_row2 rfl _ _ w.heap.size 26 _ _ _ _ rfl rfl (set8 (unhide HR)) Tryd.underlying26 rfl (by kernel_rfl)
set_option maxRecDepth 20000 in
set_option maxHeartbeats 400000 in
theorem rp_short1 (s S1 S2 S3 R R1 R2 R3 : ByteArray) (d q v k : Nat) (w : World) (hs : s.size ≤ 1600) (h14 : 14 ≤ s.size) (hr4 : (4 : Int) ≤ R.size) (hv : v < 65536) (hk1 : ((k : Int) == 33024) = false) (hk2 : (k : Int) ≤ 1500) (hk3 : (R3.size : Int) < k)
    (s1 : ∀ W : World, (Instr.slice 9 (.string s) none (some (.int .i64 6)) none).run Tryd.prog W = .ok (.string S1) W)
    (s2 : ∀ W : World, (Instr.slice 9 (.string s) (some (.int .i64 6)) (some (.int .i64 12)) none).run Tryd.prog W = .ok (.string S2) W)
    (s3 : ∀ W : World, (Instr.slice 9 (.string s) (some (.int .i64 12)) (some (.int .i64 14)) none).run Tryd.prog W = .ok (.string S3) W)
    (s4 : ∀ W : World, (Instr.slice 9 (.string s) (some (.int .i64 14)) none none).run Tryd.prog W = .ok (.string R) W)
    (N1 : Hid (∀ W, Calls Tryd.prog 24 #[.string S1] W fun e W' => e = .returned (.int .u64 (d : Int)) ∧ W' = W))
    (N2 : Hid (∀ W, Calls Tryd.prog 24 #[.string S2] W fun e W' => e = .returned (.int .u64 (q : Int)) ∧ W' = W))
    (N3 : Hid (∀ W, Calls Tryd.prog 25 #[.string S3] W fun e W' => e = .returned (.int .i64 33024) ∧ Below W.heap.size W W'))
    (s6 : ∀ W : World, (Instr.slice 9 (.string R) none (some (.int .i64 2)) none).run Tryd.prog W = .ok (.string R1) W)
    (s7 : ∀ W : World, (Instr.slice 9 (.string R) (some (.int .i64 2)) (some (.int .i64 4)) none).run Tryd.prog W = .ok (.string R2) W)
    (s8 : ∀ W : World, (Instr.slice 9 (.string R) (some (.int .i64 4)) none none).run Tryd.prog W = .ok (.string R3) W)
    (N4 : Hid (∀ W, Calls Tryd.prog 25 #[.string R1] W fun e W' => e = .returned (.int .i64 (v : Int)) ∧ Below W.heap.size W W'))
    (N5 : Hid (∀ W, Calls Tryd.prog 25 #[.string R2] W fun e W' => e = .returned (.int .i64 (k : Int)) ∧ Below W.heap.size W W'))
    :
    Calls Tryd.prog 16 #[.string s] w fun e w' => e = .returned (.tuple #[.agg #[.int .u64 0, .int .u64 0, .bool false, .int .i64 0, .bool false, .int .i64 0, .int .i64 0, .string ⟨#[]⟩], .int .i64 40]) ∧ Below w.heap.size w w' := by
  go_enter Tryd.func16, Tryd.ntmps16
  go_wp2_with fail
  go_region_held3 (fun _ => True) (exact True.intro) (first | (go_at_call_of 24 S1; refine (unhide N1 _).mono ?_; rintro e' w3 ⟨rfl, rfl⟩) | (go_at_call_of 24 S2; refine (unhide N2 _).mono ?_; rintro e' w3 ⟨rfl, rfl⟩))
  all_goals
    go_wp2_with fail
    have hN2 := heap_alloc2_old w (.cells #[.int .u64 0, .int .u64 0, .bool false, .int .i64 0, .bool false, .int .i64 0, .int .i64 0, .string ⟨#[]⟩] 26) (.cells #[.int .u64 (d : Int), .int .u64 (q : Int), .bool false, .int .i64 0, .bool false, .int .i64 0, .int .i64 0, .string ⟨#[]⟩] 26)
    have hF2 := heap_alloc2_new w (.cells #[.int .u64 0, .int .u64 0, .bool false, .int .i64 0, .bool false, .int .i64 0, .int .i64 0, .string ⟨#[]⟩] 26) (.cells #[.int .u64 (d : Int), .int .u64 (q : Int), .bool false, .int .i64 0, .bool false, .int .i64 0, .int .i64 0, .string ⟨#[]⟩] 26)
    have hb2 : Below w.heap.size w ((w.alloc (.cells #[.int .u64 0, .int .u64 0, .bool false, .int .i64 0, .bool false, .int .i64 0, .int .i64 0, .string ⟨#[]⟩] 26)).alloc (.cells #[.int .u64 (d : Int), .int .u64 (q : Int), .bool false, .int .i64 0, .bool false, .int .i64 0, .int .i64 0, .string ⟨#[]⟩] 26)).drew := (alloc_then (alloc_below w _)).drew
    rw [← heap_drew] at hN2 hF2
    generalize ((w.alloc (.cells #[.int .u64 0, .int .u64 0, .bool false, .int .i64 0, .bool false, .int .i64 0, .int .i64 0, .string ⟨#[]⟩] 26)).alloc (.cells #[.int .u64 (d : Int), .int .u64 (q : Int), .bool false, .int .i64 0, .bool false, .int .i64 0, .int .i64 0, .string ⟨#[]⟩] 26)).drew = w2 at *
    have cW := at_grown (unhide N3) w2
    clear N1 N2 N3
    refine wp_region_quiet_below (by kernel_rfl) (by kernel_rfl) ?_
    repeat (go_big_quiet_step (first | (go_at_call 25; exact cW _ _)))
    refine wpQuiet_nil ?_
    rintro _ ⟨⟨dq, osq⟩, rfl⟩
    have b3 := below_regrown w2 dq osq
    have hb := bthen hb2 b3
    have hN := Below.row b3 hN2
    have hF := Below.row b3 hF2
    clear b3 hb2 hN2 hF2 cW
    generalize grow (redrawn w2 dq) osq = w3 at *
    go_wp2_with fail
    refine (unhide N4 _).mono ?_
    rintro e' w4 ⟨rfl, b4⟩
    have hb4 := bthen hb b4
    have hN4 := Below.row b4 hN
    have hF4 := Below.row b4 hF
    clear b4 hb hN hF N4
    obtain ⟨d0, d1, d2, d3, d4, d5, d6, d7, g0, g1, g2, g3, g4, g5, g6, g7⟩ := cells8 hF4
    have HF := hide (setTag (v2 := .bool true) (v3 := .int .i64 ((v : Int) / 8192)) (v4 := .bool ((v : Int) / 4096 % 2 == 1)) (v5 := .int .i64 ((v : Int) % 4096)) hF4)
    have HN : Hid (((((w4.setCell ⟨w.heap.size + 1, 2, none⟩ (.bool true)).setCell ⟨w.heap.size + 1, 3, none⟩ (.int .i64 ((v : Int) / 8192))).setCell ⟨w.heap.size + 1, 4, none⟩ (.bool ((v : Int) / 4096 % 2 == 1))).setCell ⟨w.heap.size + 1, 5, none⟩ (.int .i64 ((v : Int) % 4096))).heap[w.heap.size]? = _) := hide ((((heap_setCell_other _ ⟨w.heap.size + 1, 5, none⟩ w.heap.size _ (Nat.ne_of_lt (Nat.lt_succ_self _))).trans (heap_setCell_other _ ⟨w.heap.size + 1, 4, none⟩ w.heap.size _ (Nat.ne_of_lt (Nat.lt_succ_self _)))).trans ((heap_setCell_other _ ⟨w.heap.size + 1, 3, none⟩ w.heap.size _ (Nat.ne_of_lt (Nat.lt_succ_self _))).trans (heap_setCell_other w4 ⟨w.heap.size + 1, 2, none⟩ w.heap.size _ (Nat.ne_of_lt (Nat.lt_succ_self _))))).trans hN4)
    have HB : Hid (Below w.heap.size w ((((w4.setCell ⟨w.heap.size + 1, 2, none⟩ (.bool true)).setCell ⟨w.heap.size + 1, 3, none⟩ (.int .i64 ((v : Int) / 8192))).setCell ⟨w.heap.size + 1, 4, none⟩ (.bool ((v : Int) / 4096 % 2 == 1))).setCell ⟨w.heap.size + 1, 5, none⟩ (.int .i64 ((v : Int) % 4096)))) := hide ((((hb4.setCell (p := ⟨w.heap.size + 1, 2, none⟩) (Nat.le_succ _) _).setCell (p := ⟨w.heap.size + 1, 3, none⟩) (Nat.le_succ _) _).setCell (p := ⟨w.heap.size + 1, 4, none⟩) (Nat.le_succ _) _).setCell (p := ⟨w.heap.size + 1, 5, none⟩) (Nat.le_succ _) _)
    clear hN4 hF4 hb4
    go_wp2_with fail
    refine (unhide N5 _).mono ?_
    rintro e' w6 ⟨rfl, b6⟩
    have hb := bthen (unhide HB) b6
    have hN := Below.row b6 (unhide HN)
    have hF := Below.row b6 (unhide HF)
    clear b6 HB HN HF N5 d0 d1 d2 d3 d4 d5 d6 d7 g0 g1 g2 g3 g4 g5 g6 g7
    obtain ⟨c0, c1, c2, c3, c4, c5, c6, c7, f0, f1, f2, f3, f4, f5, f6, f7⟩ := cells8 hN
    have HR := hide hN
    clear hN hF
    go_wp2_with fail
    refine bodyPost_ret ?_ rfl ⟨rfl, below8 hb (Nat.le_refl _)⟩
    exact results_row2 rfl _ _ w.heap.size 26 _ _ _ _ rfl rfl (set8 (unhide HR)) Tryd.underlying26 rfl (by kernel_rfl)
set_option maxRecDepth 20000 in
set_option maxHeartbeats 400000 in
theorem rp_len1 (s S1 S2 S3 R R1 R2 R3 T : ByteArray) (d q v k : Nat) (w : World) (hs : s.size ≤ 1600) (h14 : 14 ≤ s.size) (hr4 : (4 : Int) ≤ R.size) (hv : v < 65536) (hk1 : ((k : Int) == 33024) = false) (hk2 : (k : Int) ≤ 1500) (hk3 : (k : Int) ≤ R3.size)
    (s1 : ∀ W : World, (Instr.slice 9 (.string s) none (some (.int .i64 6)) none).run Tryd.prog W = .ok (.string S1) W)
    (s2 : ∀ W : World, (Instr.slice 9 (.string s) (some (.int .i64 6)) (some (.int .i64 12)) none).run Tryd.prog W = .ok (.string S2) W)
    (s3 : ∀ W : World, (Instr.slice 9 (.string s) (some (.int .i64 12)) (some (.int .i64 14)) none).run Tryd.prog W = .ok (.string S3) W)
    (s4 : ∀ W : World, (Instr.slice 9 (.string s) (some (.int .i64 14)) none none).run Tryd.prog W = .ok (.string R) W)
    (N1 : Hid (∀ W, Calls Tryd.prog 24 #[.string S1] W fun e W' => e = .returned (.int .u64 (d : Int)) ∧ W' = W))
    (N2 : Hid (∀ W, Calls Tryd.prog 24 #[.string S2] W fun e W' => e = .returned (.int .u64 (q : Int)) ∧ W' = W))
    (N3 : Hid (∀ W, Calls Tryd.prog 25 #[.string S3] W fun e W' => e = .returned (.int .i64 33024) ∧ Below W.heap.size W W'))
    (s6 : ∀ W : World, (Instr.slice 9 (.string R) none (some (.int .i64 2)) none).run Tryd.prog W = .ok (.string R1) W)
    (s7 : ∀ W : World, (Instr.slice 9 (.string R) (some (.int .i64 2)) (some (.int .i64 4)) none).run Tryd.prog W = .ok (.string R2) W)
    (s8 : ∀ W : World, (Instr.slice 9 (.string R) (some (.int .i64 4)) none none).run Tryd.prog W = .ok (.string R3) W)
    (N4 : Hid (∀ W, Calls Tryd.prog 25 #[.string R1] W fun e W' => e = .returned (.int .i64 (v : Int)) ∧ Below W.heap.size W W'))
    (N5 : Hid (∀ W, Calls Tryd.prog 25 #[.string R2] W fun e W' => e = .returned (.int .i64 (k : Int)) ∧ Below W.heap.size W W'))
    (s9 : ∀ W : World, (Instr.slice 9 (.string R3) none (some (.int .i64 (k : Int))) none).run Tryd.prog W = .ok (.string T) W)
    :
    Calls Tryd.prog 16 #[.string s] w fun e w' => e = .returned (.tuple #[.agg #[.int .u64 (d : Int), .int .u64 (q : Int), .bool true, .int .i64 ((v : Int) / 8192), .bool ((v : Int) / 4096 % 2 == 1), .int .i64 ((v : Int) % 4096), .int .i64 0, .string T], .int .i64 0]) ∧ Below w.heap.size w w' := by
  go_enter Tryd.func16, Tryd.ntmps16
  go_wp2_with fail
  go_region_held3 (fun _ => True) (exact True.intro) (first | (go_at_call_of 24 S1; refine (unhide N1 _).mono ?_; rintro e' w3 ⟨rfl, rfl⟩) | (go_at_call_of 24 S2; refine (unhide N2 _).mono ?_; rintro e' w3 ⟨rfl, rfl⟩))
  all_goals
    go_wp2_with fail
    have hN2 := heap_alloc2_old w (.cells #[.int .u64 0, .int .u64 0, .bool false, .int .i64 0, .bool false, .int .i64 0, .int .i64 0, .string ⟨#[]⟩] 26) (.cells #[.int .u64 (d : Int), .int .u64 (q : Int), .bool false, .int .i64 0, .bool false, .int .i64 0, .int .i64 0, .string ⟨#[]⟩] 26)
    have hF2 := heap_alloc2_new w (.cells #[.int .u64 0, .int .u64 0, .bool false, .int .i64 0, .bool false, .int .i64 0, .int .i64 0, .string ⟨#[]⟩] 26) (.cells #[.int .u64 (d : Int), .int .u64 (q : Int), .bool false, .int .i64 0, .bool false, .int .i64 0, .int .i64 0, .string ⟨#[]⟩] 26)
    have hb2 : Below w.heap.size w ((w.alloc (.cells #[.int .u64 0, .int .u64 0, .bool false, .int .i64 0, .bool false, .int .i64 0, .int .i64 0, .string ⟨#[]⟩] 26)).alloc (.cells #[.int .u64 (d : Int), .int .u64 (q : Int), .bool false, .int .i64 0, .bool false, .int .i64 0, .int .i64 0, .string ⟨#[]⟩] 26)).drew := (alloc_then (alloc_below w _)).drew
    rw [← heap_drew] at hN2 hF2
    generalize ((w.alloc (.cells #[.int .u64 0, .int .u64 0, .bool false, .int .i64 0, .bool false, .int .i64 0, .int .i64 0, .string ⟨#[]⟩] 26)).alloc (.cells #[.int .u64 (d : Int), .int .u64 (q : Int), .bool false, .int .i64 0, .bool false, .int .i64 0, .int .i64 0, .string ⟨#[]⟩] 26)).drew = w2 at *
    have cW := at_grown (unhide N3) w2
    clear N1 N2 N3
    refine wp_region_quiet_below (by kernel_rfl) (by kernel_rfl) ?_
    repeat (go_big_quiet_step (first | (go_at_call 25; exact cW _ _)))
    refine wpQuiet_nil ?_
    rintro _ ⟨⟨dq, osq⟩, rfl⟩
    have b3 := below_regrown w2 dq osq
    have hb := bthen hb2 b3
    have hN := Below.row b3 hN2
    have hF := Below.row b3 hF2
    clear b3 hb2 hN2 hF2 cW
    generalize grow (redrawn w2 dq) osq = w3 at *
    go_wp2_with fail
    refine (unhide N4 _).mono ?_
    rintro e' w4 ⟨rfl, b4⟩
    have hb4 := bthen hb b4
    have hN4 := Below.row b4 hN
    have hF4 := Below.row b4 hF
    clear b4 hb hN hF N4
    obtain ⟨d0, d1, d2, d3, d4, d5, d6, d7, g0, g1, g2, g3, g4, g5, g6, g7⟩ := cells8 hF4
    have HF := hide (setTag (v2 := .bool true) (v3 := .int .i64 ((v : Int) / 8192)) (v4 := .bool ((v : Int) / 4096 % 2 == 1)) (v5 := .int .i64 ((v : Int) % 4096)) hF4)
    have HN : Hid (((((w4.setCell ⟨w.heap.size + 1, 2, none⟩ (.bool true)).setCell ⟨w.heap.size + 1, 3, none⟩ (.int .i64 ((v : Int) / 8192))).setCell ⟨w.heap.size + 1, 4, none⟩ (.bool ((v : Int) / 4096 % 2 == 1))).setCell ⟨w.heap.size + 1, 5, none⟩ (.int .i64 ((v : Int) % 4096))).heap[w.heap.size]? = _) := hide ((((heap_setCell_other _ ⟨w.heap.size + 1, 5, none⟩ w.heap.size _ (Nat.ne_of_lt (Nat.lt_succ_self _))).trans (heap_setCell_other _ ⟨w.heap.size + 1, 4, none⟩ w.heap.size _ (Nat.ne_of_lt (Nat.lt_succ_self _)))).trans ((heap_setCell_other _ ⟨w.heap.size + 1, 3, none⟩ w.heap.size _ (Nat.ne_of_lt (Nat.lt_succ_self _))).trans (heap_setCell_other w4 ⟨w.heap.size + 1, 2, none⟩ w.heap.size _ (Nat.ne_of_lt (Nat.lt_succ_self _))))).trans hN4)
    have HB : Hid (Below w.heap.size w ((((w4.setCell ⟨w.heap.size + 1, 2, none⟩ (.bool true)).setCell ⟨w.heap.size + 1, 3, none⟩ (.int .i64 ((v : Int) / 8192))).setCell ⟨w.heap.size + 1, 4, none⟩ (.bool ((v : Int) / 4096 % 2 == 1))).setCell ⟨w.heap.size + 1, 5, none⟩ (.int .i64 ((v : Int) % 4096)))) := hide ((((hb4.setCell (p := ⟨w.heap.size + 1, 2, none⟩) (Nat.le_succ _) _).setCell (p := ⟨w.heap.size + 1, 3, none⟩) (Nat.le_succ _) _).setCell (p := ⟨w.heap.size + 1, 4, none⟩) (Nat.le_succ _) _).setCell (p := ⟨w.heap.size + 1, 5, none⟩) (Nat.le_succ _) _)
    clear hN4 hF4 hb4
    go_wp2_with fail
    refine (unhide N5 _).mono ?_
    rintro e' w6 ⟨rfl, b6⟩
    have hb := bthen (unhide HB) b6
    have hN := Below.row b6 (unhide HN)
    have hF := Below.row b6 (unhide HF)
    clear b6 HB HN HF N5 d0 d1 d2 d3 d4 d5 d6 d7 g0 g1 g2 g3 g4 g5 g6 g7
    obtain ⟨d0, d1, d2, d3, d4, d5, d6, d7, g0, g1, g2, g3, g4, g5, g6, g7⟩ := cells8 hF
    have hF' := setBody (v7 := .string T) hF
    have hN' : (w6.setCell ⟨w.heap.size + 1, 7, none⟩ (.string T)).heap[w.heap.size]? = _ := (heap_setCell_other w6 ⟨w.heap.size + 1, 7, none⟩ w.heap.size _ (Nat.ne_of_lt (Nat.lt_succ_self _))).trans hN
    have hb' : Below w.heap.size w (w6.setCell ⟨w.heap.size + 1, 7, none⟩ (.string T)) := hb.setCell (p := ⟨w.heap.size + 1, 7, none⟩) (Nat.le_succ _) _
    obtain ⟨d0', d1', d2', d3', d4', d5', d6', d7', _⟩ := cells8 hF'
    obtain ⟨c0, c1, c2, c3, c4, c5, c6, c7, f0, f1, f2, f3, f4, f5, f6, f7⟩ := cells8 hN'
    have HR := hide hN'
    clear hN hF hF' hN'
    go_wp2_with fail
    refine bodyPost_ret ?_ rfl ⟨rfl, below8 hb' (Nat.le_refl _)⟩
    exact results_row2 rfl _ _ w.heap.size 26 _ _ _ _ rfl rfl (set8 (unhide HR)) Tryd.underlying26 rfl (by kernel_rfl)
end Go.Proofs.YtfndofbkfinnmaaDoor
