/-
  The document's answer for bytes as messages: the contract of gangwayref05's Parse.
-/
import Derived.Test.YtffgdkcfemcpoaaDoorRef5
namespace Go.Proofs.YtffgdkcfemcpoaaDoor
open Go.RowKit Go.Sort

theorem rparse_short (s : ByteArray) (w : World) (h : s.size < 28) : Calls Tryd.prog 10 #[.string s] w fun e w' => e = .returned (.tuple #[.agg #[.int .i64 0, .int .u64 0, .int .u32 0, .int .u64 0, .int .u32 0], .int .i64 50]) ∧ Below w.heap.size w w' := by
  go_enter Tryd.func10, Tryd.ntmps10
  go_wp2_with fail
  refine bodyPost_ret ?_ rfl ⟨rfl, alloc_below _ _⟩
  exact results_row2 rfl _ _ w.heap.size 25 _ _ _ _ rfl rfl (heap_last w _ _ rfl) Tryd.underlying25 rfl (by kernel_rfl)
set_option maxRecDepth 100000 in
set_option maxHeartbeats 4000000 in
theorem rparse_head (H s S0 S1 S2 S3 S4 : ByteArray) (n0 n1 n2 n3 n4 : Nat) (w : World) (h : 28 ≤ s.size) (hl : s.size ≤ 10000) (h0 : n0 < 65536) (h2 : n2 < 4294967296) (h4 : n4 < 4294967296)
    (s0 : (∀ W : World, (Instr.slice 9 (.string s) (some (.int .i64 6)) (some (.int .i64 8)) none).run Tryd.prog W = .ok (.string S0) W))
    (s1 : (∀ W : World, (Instr.slice 9 (.string s) (some (.int .i64 8)) (some (.int .i64 14)) none).run Tryd.prog W = .ok (.string S1) W))
    (s2 : (∀ W : World, (Instr.slice 9 (.string s) (some (.int .i64 14)) (some (.int .i64 18)) none).run Tryd.prog W = .ok (.string S2) W))
    (s3 : (∀ W : World, (Instr.slice 9 (.string s) (some (.int .i64 18)) (some (.int .i64 24)) none).run Tryd.prog W = .ok (.string S3) W))
    (s4 : (∀ W : World, (Instr.slice 9 (.string s) (some (.int .i64 24)) (some (.int .i64 28)) none).run Tryd.prog W = .ok (.string S4) W))
    (N0 : Hid (∀ W, Calls Tryd.prog 23 #[.string S0] W fun e W' => e = .returned (.int .u64 (n0 : Int)) ∧ W' = W))
    (N1 : Hid (∀ W, Calls Tryd.prog 23 #[.string S1] W fun e W' => e = .returned (.int .u64 (n1 : Int)) ∧ W' = W))
    (N2 : Hid (∀ W, Calls Tryd.prog 23 #[.string S2] W fun e W' => e = .returned (.int .u64 (n2 : Int)) ∧ W' = W))
    (N3 : Hid (∀ W, Calls Tryd.prog 23 #[.string S3] W fun e W' => e = .returned (.int .u64 (n3 : Int)) ∧ W' = W))
    (N4 : Hid (∀ W, Calls Tryd.prog 23 #[.string S4] W fun e W' => e = .returned (.int .u64 (n4 : Int)) ∧ W' = W))
    (hH : ∀ W : World, (Instr.slice 9 (.string s) none (some (.int .i64 6)) none).run Tryd.prog W = .ok (.string H) W) (hD : (H.toList == [0, 1, 8, 0, 6, 4]) = false) :
    Calls Tryd.prog 10 #[.string s] w fun e w' => e = .returned (.tuple #[.agg #[.int .i64 0, .int .u64 0, .int .u32 0, .int .u64 0, .int .u32 0], .int .i64 51]) ∧ Below w.heap.size w w' := by
  have e0 : IntKind.i64.wrap (n0 : Int) = (n0 : Int) := by rw [IntKind.wrap_i64]; omega
  have e0' : wrap64 (n0 : Int) = (n0 : Int) := wrap64_id (by omega) (by omega)
  have e2 : IntKind.u32.wrap (n2 : Int) = (n2 : Int) := by rw [IntKind.wrap_u32]; omega
  have e4 : IntKind.u32.wrap (n4 : Int) = (n4 : Int) := by rw [IntKind.wrap_u32]; omega
  clear h0 h2 h4
  go_enter Tryd.func10, Tryd.ntmps10
  go_wp2_with fail
  go_region_held3 (fun _ => True) (exact True.intro) (first | (go_at_call_of 23 S0; refine (unhide N0 _).mono ?_; rintro e' w3 ⟨rfl, rfl⟩) | (go_at_call_of 23 S1; refine (unhide N1 _).mono ?_; rintro e' w3 ⟨rfl, rfl⟩) | (go_at_call_of 23 S2; refine (unhide N2 _).mono ?_; rintro e' w3 ⟨rfl, rfl⟩) | (go_at_call_of 23 S3; refine (unhide N3 _).mono ?_; rintro e' w3 ⟨rfl, rfl⟩) | (go_at_call_of 23 S4; refine (unhide N4 _).mono ?_; rintro e' w3 ⟨rfl, rfl⟩))
  all_goals
    have hN2 := heap_alloc2_old w (.cells #[.int .i64 0, .int .u64 0, .int .u32 0, .int .u64 0, .int .u32 0] 25) (.cells #[.int .i64 n0, .int .u64 n1, .int .u32 n2, .int .u64 n3, .int .u32 n4] 25)
    have hF2 := heap_alloc2_new w (.cells #[.int .i64 0, .int .u64 0, .int .u32 0, .int .u64 0, .int .u32 0] 25) (.cells #[.int .i64 n0, .int .u64 n1, .int .u32 n2, .int .u64 n3, .int .u32 n4] 25)
    have hb2 : Below w.heap.size w ((w.alloc (.cells #[.int .i64 0, .int .u64 0, .int .u32 0, .int .u64 0, .int .u32 0] 25)).alloc (.cells #[.int .i64 n0, .int .u64 n1, .int .u32 n2, .int .u64 n3, .int .u32 n4] 25)).drew := (alloc_then (alloc_below w _)).drew
    rw [← heap_drew] at hN2 hF2
    clear N0 N1 N2 N3 N4
    have HB := hide hb2
    have HN := hide hN2
    clear hb2 hN2 hF2
    go_wp2_with fail
    refine bodyPost_ret ?_ rfl ⟨rfl, unhide HB⟩
    exact results_row2 rfl _ _ w.heap.size 25 _ _ _ _ rfl rfl (unhide HN) Tryd.underlying25 rfl (by kernel_rfl)
set_option maxRecDepth 100000 in
set_option maxHeartbeats 4000000 in
theorem rparse_bad (s S0 S1 S2 S3 S4 : ByteArray) (n0 n1 n2 n3 n4 : Nat) (w : World) (h : 28 ≤ s.size) (hl : s.size ≤ 10000) (h0 : n0 < 65536) (h2 : n2 < 4294967296) (h4 : n4 < 4294967296)
    (s0 : (∀ W : World, (Instr.slice 9 (.string s) (some (.int .i64 6)) (some (.int .i64 8)) none).run Tryd.prog W = .ok (.string S0) W))
    (s1 : (∀ W : World, (Instr.slice 9 (.string s) (some (.int .i64 8)) (some (.int .i64 14)) none).run Tryd.prog W = .ok (.string S1) W))
    (s2 : (∀ W : World, (Instr.slice 9 (.string s) (some (.int .i64 14)) (some (.int .i64 18)) none).run Tryd.prog W = .ok (.string S2) W))
    (s3 : (∀ W : World, (Instr.slice 9 (.string s) (some (.int .i64 18)) (some (.int .i64 24)) none).run Tryd.prog W = .ok (.string S3) W))
    (s4 : (∀ W : World, (Instr.slice 9 (.string s) (some (.int .i64 24)) (some (.int .i64 28)) none).run Tryd.prog W = .ok (.string S4) W))
    (N0 : Hid (∀ W, Calls Tryd.prog 23 #[.string S0] W fun e W' => e = .returned (.int .u64 (n0 : Int)) ∧ W' = W))
    (N1 : Hid (∀ W, Calls Tryd.prog 23 #[.string S1] W fun e W' => e = .returned (.int .u64 (n1 : Int)) ∧ W' = W))
    (N2 : Hid (∀ W, Calls Tryd.prog 23 #[.string S2] W fun e W' => e = .returned (.int .u64 (n2 : Int)) ∧ W' = W))
    (N3 : Hid (∀ W, Calls Tryd.prog 23 #[.string S3] W fun e W' => e = .returned (.int .u64 (n3 : Int)) ∧ W' = W))
    (N4 : Hid (∀ W, Calls Tryd.prog 23 #[.string S4] W fun e W' => e = .returned (.int .u64 (n4 : Int)) ∧ W' = W))
    (hH : ∀ W : World, (Instr.slice 9 (.string s) none (some (.int .i64 6)) none).run Tryd.prog W = .ok (.string ⟨#[0, 1, 8, 0, 6, 4]⟩) W) (c : Int) (hc : (c != 0) = true)
    (K : Hid (∀ W, Calls Tryd.prog 13 #[.agg #[.int .i64 n0, .int .u64 n1, .int .u32 n2, .int .u64 n3, .int .u32 n4]] W fun e W' => e = .returned (.int .i64 c) ∧ Below W.heap.size W W')) :
    Calls Tryd.prog 10 #[.string s] w fun e w' => e = .returned (.tuple #[.agg #[.int .i64 0, .int .u64 0, .int .u32 0, .int .u64 0, .int .u32 0], .int .i64 51]) ∧ Below w.heap.size w w' := by
  have e0 : IntKind.i64.wrap (n0 : Int) = (n0 : Int) := by rw [IntKind.wrap_i64]; omega
  have e0' : wrap64 (n0 : Int) = (n0 : Int) := wrap64_id (by omega) (by omega)
  have e2 : IntKind.u32.wrap (n2 : Int) = (n2 : Int) := by rw [IntKind.wrap_u32]; omega
  have e4 : IntKind.u32.wrap (n4 : Int) = (n4 : Int) := by rw [IntKind.wrap_u32]; omega
  clear h0 h2 h4
  go_enter Tryd.func10, Tryd.ntmps10
  go_wp2_with fail
  go_region_held3 (fun _ => True) (exact True.intro) (first | (go_at_call_of 23 S0; refine (unhide N0 _).mono ?_; rintro e' w3 ⟨rfl, rfl⟩) | (go_at_call_of 23 S1; refine (unhide N1 _).mono ?_; rintro e' w3 ⟨rfl, rfl⟩) | (go_at_call_of 23 S2; refine (unhide N2 _).mono ?_; rintro e' w3 ⟨rfl, rfl⟩) | (go_at_call_of 23 S3; refine (unhide N3 _).mono ?_; rintro e' w3 ⟨rfl, rfl⟩) | (go_at_call_of 23 S4; refine (unhide N4 _).mono ?_; rintro e' w3 ⟨rfl, rfl⟩))
  all_goals
    have hN2 := heap_alloc2_old w (.cells #[.int .i64 0, .int .u64 0, .int .u32 0, .int .u64 0, .int .u32 0] 25) (.cells #[.int .i64 n0, .int .u64 n1, .int .u32 n2, .int .u64 n3, .int .u32 n4] 25)
    have hF2 := heap_alloc2_new w (.cells #[.int .i64 0, .int .u64 0, .int .u32 0, .int .u64 0, .int .u32 0] 25) (.cells #[.int .i64 n0, .int .u64 n1, .int .u32 n2, .int .u64 n3, .int .u32 n4] 25)
    have hb2 : Below w.heap.size w ((w.alloc (.cells #[.int .i64 0, .int .u64 0, .int .u32 0, .int .u64 0, .int .u32 0] 25)).alloc (.cells #[.int .i64 n0, .int .u64 n1, .int .u32 n2, .int .u64 n3, .int .u32 n4] 25)).drew := (alloc_then (alloc_below w _)).drew
    rw [← heap_drew] at hN2 hF2
    clear N0 N1 N2 N3 N4
    go_wp2_with fail
    refine (unhide K _).mono ?_
    rintro e w3 ⟨rfl, b3⟩
    have hb := bthen hb2 b3
    have hN := Below.row b3 hN2
    have hF := Below.row b3 hF2
    clear b3 hb2 hN2 hF2 K
    obtain ⟨c0, c1, c2, c3, c4, f0, f1, f2, f3, f4⟩ := cells5 hN
    obtain ⟨k0, k1, k2, k3, k4, _⟩ := cells5 hF
    have HR := hide hN
    clear hN hF
    go_wp2_with fail
    refine bodyPost_ret ?_ rfl ⟨rfl, below5 hb (Nat.le_refl _)⟩
    exact results_row2 rfl _ _ w.heap.size 25 _ _ _ _ rfl rfl (set5 (unhide HR)) Tryd.underlying25 rfl (by kernel_rfl)
set_option maxRecDepth 100000 in
set_option maxHeartbeats 4000000 in
theorem rparse_good (s S0 S1 S2 S3 S4 : ByteArray) (n0 n1 n2 n3 n4 : Nat) (w : World) (h : 28 ≤ s.size) (hl : s.size ≤ 10000) (h0 : n0 < 65536) (h2 : n2 < 4294967296) (h4 : n4 < 4294967296)
    (s0 : (∀ W : World, (Instr.slice 9 (.string s) (some (.int .i64 6)) (some (.int .i64 8)) none).run Tryd.prog W = .ok (.string S0) W))
    (s1 : (∀ W : World, (Instr.slice 9 (.string s) (some (.int .i64 8)) (some (.int .i64 14)) none).run Tryd.prog W = .ok (.string S1) W))
    (s2 : (∀ W : World, (Instr.slice 9 (.string s) (some (.int .i64 14)) (some (.int .i64 18)) none).run Tryd.prog W = .ok (.string S2) W))
    (s3 : (∀ W : World, (Instr.slice 9 (.string s) (some (.int .i64 18)) (some (.int .i64 24)) none).run Tryd.prog W = .ok (.string S3) W))
    (s4 : (∀ W : World, (Instr.slice 9 (.string s) (some (.int .i64 24)) (some (.int .i64 28)) none).run Tryd.prog W = .ok (.string S4) W))
    (N0 : Hid (∀ W, Calls Tryd.prog 23 #[.string S0] W fun e W' => e = .returned (.int .u64 (n0 : Int)) ∧ W' = W))
    (N1 : Hid (∀ W, Calls Tryd.prog 23 #[.string S1] W fun e W' => e = .returned (.int .u64 (n1 : Int)) ∧ W' = W))
    (N2 : Hid (∀ W, Calls Tryd.prog 23 #[.string S2] W fun e W' => e = .returned (.int .u64 (n2 : Int)) ∧ W' = W))
    (N3 : Hid (∀ W, Calls Tryd.prog 23 #[.string S3] W fun e W' => e = .returned (.int .u64 (n3 : Int)) ∧ W' = W))
    (N4 : Hid (∀ W, Calls Tryd.prog 23 #[.string S4] W fun e W' => e = .returned (.int .u64 (n4 : Int)) ∧ W' = W))
    (hH : ∀ W : World, (Instr.slice 9 (.string s) none (some (.int .i64 6)) none).run Tryd.prog W = .ok (.string ⟨#[0, 1, 8, 0, 6, 4]⟩) W) (K : Hid (∀ W, Calls Tryd.prog 13 #[.agg #[.int .i64 n0, .int .u64 n1, .int .u32 n2, .int .u64 n3, .int .u32 n4]] W fun e W' => e = .returned (.int .i64 0) ∧ Below W.heap.size W W')) :
    Calls Tryd.prog 10 #[.string s] w fun e w' => e = .returned (.tuple #[.agg #[.int .i64 n0, .int .u64 n1, .int .u32 n2, .int .u64 n3, .int .u32 n4], .int .i64 0]) ∧ Below w.heap.size w w' := by
  have e0 : IntKind.i64.wrap (n0 : Int) = (n0 : Int) := by rw [IntKind.wrap_i64]; omega
  have e0' : wrap64 (n0 : Int) = (n0 : Int) := wrap64_id (by omega) (by omega)
  have e2 : IntKind.u32.wrap (n2 : Int) = (n2 : Int) := by rw [IntKind.wrap_u32]; omega
  have e4 : IntKind.u32.wrap (n4 : Int) = (n4 : Int) := by rw [IntKind.wrap_u32]; omega
  clear h0 h2 h4
  go_enter Tryd.func10, Tryd.ntmps10
  go_wp2_with fail
  go_region_held3 (fun _ => True) (exact True.intro) (first | (go_at_call_of 23 S0; refine (unhide N0 _).mono ?_; rintro e' w3 ⟨rfl, rfl⟩) | (go_at_call_of 23 S1; refine (unhide N1 _).mono ?_; rintro e' w3 ⟨rfl, rfl⟩) | (go_at_call_of 23 S2; refine (unhide N2 _).mono ?_; rintro e' w3 ⟨rfl, rfl⟩) | (go_at_call_of 23 S3; refine (unhide N3 _).mono ?_; rintro e' w3 ⟨rfl, rfl⟩) | (go_at_call_of 23 S4; refine (unhide N4 _).mono ?_; rintro e' w3 ⟨rfl, rfl⟩))
  all_goals
    have hN2 := heap_alloc2_old w (.cells #[.int .i64 0, .int .u64 0, .int .u32 0, .int .u64 0, .int .u32 0] 25) (.cells #[.int .i64 n0, .int .u64 n1, .int .u32 n2, .int .u64 n3, .int .u32 n4] 25)
    have hF2 := heap_alloc2_new w (.cells #[.int .i64 0, .int .u64 0, .int .u32 0, .int .u64 0, .int .u32 0] 25) (.cells #[.int .i64 n0, .int .u64 n1, .int .u32 n2, .int .u64 n3, .int .u32 n4] 25)
    have hb2 : Below w.heap.size w ((w.alloc (.cells #[.int .i64 0, .int .u64 0, .int .u32 0, .int .u64 0, .int .u32 0] 25)).alloc (.cells #[.int .i64 n0, .int .u64 n1, .int .u32 n2, .int .u64 n3, .int .u32 n4] 25)).drew := (alloc_then (alloc_below w _)).drew
    rw [← heap_drew] at hN2 hF2
    clear N0 N1 N2 N3 N4
    go_wp2_with fail
    refine (unhide K _).mono ?_
    rintro e w3 ⟨rfl, b3⟩
    have hb := bthen hb2 b3
    have hN := Below.row b3 hN2
    have hF := Below.row b3 hF2
    clear b3 hb2 hN2 hF2 K
    obtain ⟨c0, c1, c2, c3, c4, f0, f1, f2, f3, f4⟩ := cells5 hN
    obtain ⟨k0, k1, k2, k3, k4, _⟩ := cells5 hF
    have HR := hide hN
    clear hN hF
    go_wp2_with fail
    refine bodyPost_ret ?_ rfl ⟨rfl, below5 hb (Nat.le_refl _)⟩
    exact results_row2 rfl _ _ w.heap.size 25 _ _ _ _ rfl rfl (set5 (unhide HR)) Tryd.underlying25 rfl (by kernel_rfl)
theorem cutR (l : List UInt8) (a b n : Nat) (A B : Int) (hA : (a : Int) = A) (hB : (b : Int) = B) (hn : b = a + n) (h : b ≤ l.length) (W : World) :
    (Instr.slice 9 (.string (bs l)) (some (.int .i64 A)) (some (.int .i64 B)) none).run Tryd.prog W = .ok (.string (bs ((l.drop a).take n))) W := by
  subst hA hB hn
  have e := run_slice_string_lh (P := Tryd.prog) W 9 (bs l) Tryd.underlying9 .i64 .i64 (a : Int) ((a + n : Nat) : Int) (by omega) (by omega) (by rw [bs_size]; omega)
  rw [e, show ((a : Int)).toNat = a by omega, show (((a + n : Nat) : Int)).toNat = a + n by omega, ← bs_of ((bs l).extract a (a + n)), part_bs]
theorem headR (l : List UInt8) (h : 6 ≤ l.length) (W : World) : (Instr.slice 9 (.string (bs l)) none (some (.int .i64 6)) none).run Tryd.prog W = .ok (.string (bs (l.take 6))) W := by
  have e := run_slice_string_h (P := Tryd.prog) W 9 (bs l) Tryd.underlying9 .i64 6 (by omega) (by rw [bs_size]; omega)
  rw [e, show ((6 : Int)).toNat = 6 from rfl, ← bs_of ((bs l).extract 0 6), extract_toList, bs_toList, List.drop_zero]
theorem rparse_any (l : List UInt8) (w : World) (hl : l.length ≤ 10000) : Calls Tryd.prog 10 #[.string (bs l)] w fun e w' => e = .returned (.tuple #[(Ar.parse l).1.val, .int .i64 (Ar.parse l).2]) ∧ Below w.heap.size w w' := by
  have hz := bs_size l
  unfold Ar.parse
  by_cases h : l.length < 28
  · rw [if_pos h]; exact rparse_short (bs l) w (by omega)
  · rw [if_neg h]
    have t0 := take_len l 6 2 (by omega)
    have t1 := take_len l 8 6 (by omega)
    have t2 := take_len l 14 4 (by omega)
    have t3 := take_len l 18 6 (by omega)
    have t4 := take_len l 24 4 (by omega)
    have s0 := cutR l 6 8 2 6 8 rfl rfl rfl (by omega)
    have s1 := cutR l 8 14 6 8 14 rfl rfl rfl (by omega)
    have s2 := cutR l 14 18 4 14 18 rfl rfl rfl (by omega)
    have s3 := cutR l 18 24 6 18 24 rfl rfl rfl (by omega)
    have s4 := cutR l 24 28 4 24 28 rfl rfl rfl (by omega)
    have hH := headR l (by omega)
    have n0 := hide fun W => rnum ((l.drop 6).take 2) W (by omega)
    have n1 := hide fun W => rnum ((l.drop 8).take 6) W (by omega)
    have n2 := hide fun W => rnum ((l.drop 14).take 4) W (by omega)
    have n3 := hide fun W => rnum ((l.drop 18).take 6) W (by omega)
    have n4 := hide fun W => rnum ((l.drop 24).take 4) W (by omega)
    have b0 := num_two_lt _ t0
    have b2 := num_four_lt _ t2
    have b4 := num_four_lt _ t4
    by_cases h1 : l.take 6 = arpHead
    · rw [h1] at hH
      have K := hide fun W => rcheck_any (Ar.of l) W (Ar.of_fits l (by omega))
      by_cases h2 : (Ar.of l).check = 0
      · rw [if_neg (by simp [h1, h2])]
        rw [h2] at K
        exact rparse_good (bs l) _ _ _ _ _ _ _ _ _ _ w (by omega) (by omega) b0 b2 b4 s0 s1 s2 s3 s4 n0 n1 n2 n3 n4 hH K
      · rw [if_pos (Or.inr h2)]
        exact rparse_bad (bs l) _ _ _ _ _ _ _ _ _ _ w (by omega) (by omega) b0 b2 b4 s0 s1 s2 s3 s4 n0 n1 n2 n3 n4 hH _ (by simpa using h2) K
    · rw [if_pos (Or.inl h1)]
      exact rparse_head _ (bs l) _ _ _ _ _ _ _ _ _ _ w (by omega) (by omega) b0 b2 b4 s0 s1 s2 s3 s4 n0 n1 n2 n3 n4 hH (by rw [Lib.toList_data, bs_toList, beq_eq_false_iff_ne]; exact h1)
end Go.Proofs.YtffgdkcfemcpoaaDoor
