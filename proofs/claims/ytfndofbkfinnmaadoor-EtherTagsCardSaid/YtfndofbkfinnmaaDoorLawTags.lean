/-
  gangwaylaw04.EtherTags answers true, for every frame and every number of a VLAN.
-/
import Derived.Test.YtfndofbkfinnmaaDoorFrame4
namespace Go.Proofs.YtfndofbkfinnmaaDoor.etherTags
open Go.ChangeShapes Go.WideShapes Go.ChangeAt Go.RowKit Go.Sort
open Go.ChangeMaps (open_string shut_string)

theorem and_mask (x : Int) (m : Nat) (hm : m < 9223372036854775808) : ∃ r : Nat, bits BinOp.and IntKind.i64 x (m : Int) = (r : Int) ∧ r ≤ m := by
  refine ⟨(BitVec.ofInt 64 x &&& BitVec.ofInt 64 (m : Int)).toNat, ?_, ?_⟩
  · have h : (BitVec.ofInt 64 x &&& BitVec.ofInt 64 (m : Int)).toNat ≤ m := by
      rw [BitVec.toNat_and, BitVec.ofInt_natCast, BitVec.toNat_ofNat]
      exact Nat.le_trans Nat.and_le_right (Nat.mod_le _ _)
    show IntKind.i64.wrap ((BitVec.ofInt 64 x &&& BitVec.ofInt 64 (m : Int)).toNat : Int) = _
    rw [IntKind.wrap_i64]
    omega
  · rw [BitVec.toNat_and, BitVec.ofInt_natCast, BitVec.toNat_ofNat]
    exact Nat.le_trans Nat.and_le_right (Nat.mod_le _ _)
/-- a tag that may be makes no difference to whether a short frame may be -/
theorem check_tags (d s : Nat) (ty : Int) (a : List UInt8) (r : Nat) (hr : r ≤ 4095) (ha : a.length ≤ 1400) : (Fr.mk d s true 0 false r ty a).check = (Fr.mk d s false 0 false 0 ty a).check := by
  have t1 : tagOk true 0 false r = true := by unfold tagOk; rw [if_pos rfl]; exact decide_eq_true (by omega)
  have t2 : tagOk false 0 false 0 = true := rfl
  unfold Fr.check Fr.size
  simp only [t1, t2, if_true, Bool.false_eq_true, if_false]
  by_cases c1 : 281474976710656 ≤ d ∨ 281474976710656 ≤ s ∨ true = false
  · rw [if_pos c1, if_pos c1]
  · rw [if_neg c1, if_neg c1]
    by_cases c2 : ty ≠ 0 ∧ (ty < 1536 ∨ 65535 < ty ∨ ty = 33024)
    · rw [if_pos c2, if_pos c2]
    · rw [if_neg c2, if_neg c2, if_neg (by omega), if_neg (by omega), if_neg (by omega), if_neg (by omega)]
set_option maxRecDepth 20000 in
set_option maxHeartbeats 400000 in
theorem walk_bad (d s : Int) (has : Bool) (pri : Int) (dei : Bool) (vid ty x r : Int) (b A : ByteArray) (i : Nat) (c : Int) (w : World) (hg : Et w) (hc : c ≠ 0)
    (mb : ∀ (ts : Array TypeId) (t : TypeId) (W : World), (Builtin.min_ ts t #[.int .i64 (b.size : Int), .int .i64 1400]).run Tryd.prog W = .ok (.int .i64 (i : Int)) W)
    (sb : ∀ W : World, (Instr.slice 9 (.string b) none (some (.int .i64 (i : Int))) none).run Tryd.prog W = .ok (.string A) W) (hr : bits BinOp.and IntKind.i64 x 4095 = r)
    (B1 : Hid (∀ W, Et W → Calls Tryd.prog 8 #[.agg #[.int .u64 d, .int .u64 s, .bool false, .int .i64 0, .bool false, .int .i64 0, .int .i64 ty, .string A]] W fun e W' => e = .returned (.tuple #[.string ⟨#[]⟩, .int .i64 c]) ∧ Below W.heap.size W W'))
    (B2 : Hid (∀ W, Et W → Calls Tryd.prog 8 #[.agg #[.int .u64 d, .int .u64 s, .bool true, .int .i64 0, .bool false, .int .i64 r, .int .i64 ty, .string A]] W fun e W' => e = .returned (.tuple #[.string ⟨#[]⟩, .int .i64 c]) ∧ Below W.heap.size W W')) :
    Calls Tryd.prog 7 #[.agg #[.int .u64 d, .int .u64 s, .bool has, .int .i64 pri, .bool dei, .int .i64 vid, .int .i64 ty, .string b], .int .i64 x] w fun e w' => e = .returned (.bool true) ∧ Below w.heap.size w w' := by
  go_enter Tryd.func7, Tryd.ntmps7
  go_wp2_with fail
  refine (bare_any d s has pri dei vid ty A _).mono ?_
  rintro e w1 ⟨rfl, b1⟩
  have hb1 := bthen (alloc_below w _) b1
  have hrow := Below.row b1 (heap_alloc_new w _)
  have hrow1 := Below.row (alloc_below w1 (.cells #[.int .u64 d, .int .u64 s, .bool false, .int .i64 0, .bool false, .int .i64 0, .int .i64 ty, .string A] 26)) hrow
  have hF1 := heap_alloc_new w1 (.cells #[.int .u64 d, .int .u64 s, .bool false, .int .i64 0, .bool false, .int .i64 0, .int .i64 ty, .string A] 26)
  clear b1 hrow
  obtain ⟨c0, c1, c2, c3, c4, c5, c6, c7, _⟩ := cells8 hrow1
  clear hrow1
  generalize w.heap.size = N at c0 c1 c2 c3 c4 c5 c6 c7 ⊢
  go_wp2_with fail
  refine (tagged_any d s has pri dei vid ty A true 0 false r _).mono ?_
  rintro e w2 ⟨rfl, b2⟩
  have hb2 := bthen (alloc_then hb1) b2
  have hF2 := Below.row b2 hF1
  clear b2 hF1 c0 c1 c2 c3 c4 c5 c6 c7
  have hF3 := Below.row (alloc_below w2 (.cells #[.int .u64 d, .int .u64 s, .bool true, .int .i64 0, .bool false, .int .i64 r, .int .i64 ty, .string A] 26)) hF2
  have hG3 := heap_alloc_new w2 (.cells #[.int .u64 d, .int .u64 s, .bool true, .int .i64 0, .bool false, .int .i64 r, .int .i64 ty, .string A] 26)
  obtain ⟨c0, c1, c2, c3, c4, c5, c6, c7, _⟩ := cells8 hF3
  generalize w1.heap.size = F1 at hF2 hF3 c0 c1 c2 c3 c4 c5 c6 c7 ⊢
  go_wp2_with fail
  refine (unhide B1 _ (hg.next (alloc_then hb2))).mono ?_
  rintro e w3 ⟨rfl, b3⟩
  have hb3 := bthen (alloc_then hb2) b3
  have hF4 := Below.row b3 hF3
  have hG4 := Below.row b3 hG3
  clear b3 hF3 hG3 hF2 c0 c1 c2 c3 c4 c5 c6 c7
  obtain ⟨c0, c1, c2, c3, c4, c5, c6, c7, _⟩ := cells8 hG4
  generalize w2.heap.size = F2 at hG4 c0 c1 c2 c3 c4 c5 c6 c7 ⊢
  go_wp2_with fail
  refine (unhide B2 _ (hg.next hb3)).mono ?_
  rintro e w4 ⟨rfl, b4⟩
  have hb4 := bthen hb3 b4
  have hF5 := Below.row b4 hF4
  have hG5 := Below.row b4 hG4
  clear b4 hF4 hG4 hb3 hb2 hb1 c0 c1 c2 c3 c4 c5 c6 c7 B1 B2
  clear hF5 hG5
  go_wp2_with fail
  refine (fixed_true _ (hg.next hb4)).mono ?_
  rintro e w5 ⟨rfl, b5⟩
  have hb5 := bthen hb4 b5
  go_wp2_with fail
  go_ret
  exact ⟨rfl, hb5⟩
set_option maxRecDepth 20000 in
set_option maxHeartbeats 4000000 in
theorem walk_good (d s : Int) (has : Bool) (pri : Int) (dei : Bool) (vid ty x r : Int) (b A S T C R : ByteArray) (i : Nat) (w : World) (hg : Et w)
    (mb : ∀ (ts : Array TypeId) (t : TypeId) (W : World), (Builtin.min_ ts t #[.int .i64 (b.size : Int), .int .i64 1400]).run Tryd.prog W = .ok (.int .i64 (i : Int)) W)
    (sb : ∀ W : World, (Instr.slice 9 (.string b) none (some (.int .i64 (i : Int))) none).run Tryd.prog W = .ok (.string A) W) (hr : bits BinOp.and IntKind.i64 x 4095 = r)
    (B1 : Hid (∀ W, Et W → Calls Tryd.prog 8 #[.agg #[.int .u64 d, .int .u64 s, .bool false, .int .i64 0, .bool false, .int .i64 0, .int .i64 ty, .string A]] W fun e W' => e = .returned (.tuple #[.string S, .int .i64 0]) ∧ Below W.heap.size W W'))
    (B2 : Hid (∀ W, Et W → Calls Tryd.prog 8 #[.agg #[.int .u64 d, .int .u64 s, .bool true, .int .i64 0, .bool false, .int .i64 r, .int .i64 ty, .string A]] W fun e W' => e = .returned (.tuple #[.string T, .int .i64 0]) ∧ Below W.heap.size W W'))
    (z1 : (T.size : Int) = (S.size : Int) + 4) (z2 : (14 : Int) ≤ (S.size : Int)) (z3 : S.size ≤ 10000)
    (s1 : ∀ W : World, (Instr.slice 9 (.string T) none (some (.int .i64 12)) none).run Tryd.prog W = .ok (.string C) W) (s2 : ∀ W : World, (Instr.slice 9 (.string S) none (some (.int .i64 12)) none).run Tryd.prog W = .ok (.string C) W)
    (s3 : ∀ W : World, (Instr.slice 9 (.string T) (some (.int .i64 12)) (some (.int .i64 14)) none).run Tryd.prog W = .ok (.string ⟨#[129, 0]⟩) W)
    (s4 : ∀ W : World, (Instr.slice 9 (.string T) (some (.int .i64 16)) none none).run Tryd.prog W = .ok (.string R) W) (s5 : ∀ W : World, (Instr.slice 9 (.string S) (some (.int .i64 12)) none none).run Tryd.prog W = .ok (.string R) W) :
    Calls Tryd.prog 7 #[.agg #[.int .u64 d, .int .u64 s, .bool has, .int .i64 pri, .bool dei, .int .i64 vid, .int .i64 ty, .string b], .int .i64 x] w fun e w' => e = .returned (.bool true) ∧ Below w.heap.size w w' := by
  have same := same_frame d s false 0 false 0 ty A
  go_enter Tryd.func7, Tryd.ntmps7
  go_wp2_with fail
  refine (bare_any d s has pri dei vid ty A _).mono ?_
  rintro e w1 ⟨rfl, b1⟩
  have hb1 := bthen (alloc_below w _) b1
  have hrow := Below.row b1 (heap_alloc_new w _)
  have hrow1 := Below.row (alloc_below w1 (.cells #[.int .u64 d, .int .u64 s, .bool false, .int .i64 0, .bool false, .int .i64 0, .int .i64 ty, .string A] 26)) hrow
  have hF1 := heap_alloc_new w1 (.cells #[.int .u64 d, .int .u64 s, .bool false, .int .i64 0, .bool false, .int .i64 0, .int .i64 ty, .string A] 26)
  clear b1 hrow
  obtain ⟨c0, c1, c2, c3, c4, c5, c6, c7, _⟩ := cells8 hrow1
  clear hrow1
  generalize w.heap.size = N at c0 c1 c2 c3 c4 c5 c6 c7 ⊢
  go_wp2_with fail
  refine (tagged_any d s has pri dei vid ty A true 0 false r _).mono ?_
  rintro e w2 ⟨rfl, b2⟩
  have hb2 := bthen (alloc_then hb1) b2
  have hF2 := Below.row b2 hF1
  clear b2 hF1 c0 c1 c2 c3 c4 c5 c6 c7
  have hF3 := Below.row (alloc_below w2 (.cells #[.int .u64 d, .int .u64 s, .bool true, .int .i64 0, .bool false, .int .i64 r, .int .i64 ty, .string A] 26)) hF2
  have hG3 := heap_alloc_new w2 (.cells #[.int .u64 d, .int .u64 s, .bool true, .int .i64 0, .bool false, .int .i64 r, .int .i64 ty, .string A] 26)
  obtain ⟨c0, c1, c2, c3, c4, c5, c6, c7, _⟩ := cells8 hF3
  generalize w1.heap.size = F1 at hF2 hF3 c0 c1 c2 c3 c4 c5 c6 c7 ⊢
  go_wp2_with fail
  refine (unhide B1 _ (hg.next (alloc_then hb2))).mono ?_
  rintro e w3 ⟨rfl, b3⟩
  have hb3 := bthen (alloc_then hb2) b3
  have hF4 := Below.row b3 hF3
  have hG4 := Below.row b3 hG3
  clear b3 hF3 hG3 hF2 c0 c1 c2 c3 c4 c5 c6 c7
  obtain ⟨c0, c1, c2, c3, c4, c5, c6, c7, _⟩ := cells8 hG4
  generalize w2.heap.size = F2 at hG4 c0 c1 c2 c3 c4 c5 c6 c7 ⊢
  go_wp2_with fail
  refine (unhide B2 _ (hg.next hb3)).mono ?_
  rintro e w4 ⟨rfl, b4⟩
  have hb4 := bthen hb3 b4
  have hF5 := Below.row b4 hF4
  have hG5 := Below.row b4 hG4
  clear b4 hF4 hG4 hb3 hb2 hb1 c0 c1 c2 c3 c4 c5 c6 c7 B1 B2
  go_wp2_with fail
  obtain ⟨c0, c1, c2, c3, c4, c5, c6, c7, _⟩ := cells8 hF5
  obtain ⟨k0, k1, k2, k3, k4, k5, k6, k7, _⟩ := cells8 hG5
  have q0 := cell_regrown c0
  have q1 := cell_regrown c1
  have q2 := cell_regrown c2
  have q3 := cell_regrown c3
  have q4 := cell_regrown c4
  have q5 := cell_regrown c5
  have q6 := cell_regrown c6
  have q7 := cell_regrown c7
  have p0 := cell_regrown k0
  have p1 := cell_regrown k1
  have p2 := cell_regrown k2
  have p3 := cell_regrown k3
  have p4 := cell_regrown k4
  have p5 := cell_regrown k5
  have p6 := cell_regrown k6
  have p7 := cell_regrown k7
  clear c0 c1 c2 c3 c4 c5 c6 c7 k0 k1 k2 k3 k4 k5 k6 k7 hF5 hG5
  have cB : ∀ dd os, Calls Tryd.prog 14 #[.agg #[.int .u64 d, .int .u64 s, .bool true, .int .i64 0, .bool false, .int .i64 r, .int .i64 ty, .string A]] (grow (redrawn w4 dd) os) fun e w'' => e = .returned (.agg #[.int .u64 d, .int .u64 s, .bool false, .int .i64 0, .bool false, .int .i64 0, .int .i64 ty, .string A]) ∧ ∃ p : Regrown, w'' = grow (redrawn w4 p.d) p.os := at_grown (bare_any d s true 0 false r ty A) w4
  have cF : ∀ dd os, Calls Tryd.prog 11 #[] (grow (redrawn w4 dd) os) fun e w'' => e = .returned (.bool true) ∧ ∃ p : Regrown, w'' = grow (redrawn w4 p.d) p.os := fun dd os => Calls.regrown_of (fixed_true _ (hg.next (grown_then hb4 dd os)))
  refine wp_region_quiet_below (by kernel_rfl) (by kernel_rfl) ?_
  repeat (go_big_quiet_step (first | (go_at_call 14; exact cB _ _) | (go_at_call 11; exact cF _ _)))
  refine wpQuiet_nil ?_
  rintro _ ⟨⟨dq, osq⟩, rfl⟩
  go_wp2
  go_ret
  exact ⟨rfl, grown_then hb4 dq osq⟩
theorem walk (d s : Nat) (has : Bool) (pri : Int) (dei : Bool) (vid ty : Int) (b : ByteArray) (x : Int) (w : World) (hg : Et w) (_ : d < 18446744073709551616) (_ : s < 18446744073709551616) (_ : -9223372036854775808 ≤ pri ∧ pri ≤ 9223372036854775807) (_ : -9223372036854775808 ≤ vid ∧ vid ≤ 9223372036854775807) (_ : -9223372036854775808 ≤ ty ∧ ty ≤ 9223372036854775807) (_ : b.size ≤ maxLen) (_ : -9223372036854775808 ≤ x) (_ : x ≤ 9223372036854775807) :
    Calls Tryd.prog 7 #[.agg #[.int .u64 d, .int .u64 s, .bool has, .int .i64 pri, .bool dei, .int .i64 vid, .int .i64 ty, .string b], .int .i64 x] w fun e w' => e = .returned (.bool true) ∧ Below w.heap.size w w' := by
  obtain ⟨i, a, la, mb, sb⟩ := firstN 1400 b
  obtain ⟨r, hr, hr2⟩ := and_mask x 4095 (by decide)
  have hc := check_tags d s ty a r hr2 la
  by_cases h : (Fr.mk d s false 0 false 0 ty a).check = 0
  · have h' := hc.trans h
    have B1 := fun (W : World) (_ : Et W) => build_ok d s false 0 false 0 ty a W h
    have B2 := fun (W : World) (_ : Et W) => build_ok d s true 0 false r ty a W h'
    have tb := tags_bytes (Fr.mk d s false 0 false 0 ty a) (Fr.mk d s true 0 false r ty a) rfl rfl rfl rfl rfl rfl
    have hl := Fr.bytes_length (Fr.mk d s false 0 false 0 ty a)
    have hz : (Fr.mk d s false 0 false 0 ty a).size ≤ 1600 := (check_spec _ h).2.2.2.2
    generalize (Fr.mk d s false 0 false 0 ty a).bytes = l1 at *
    generalize (Fr.mk d s true 0 false r ty a).bytes = l2 at *
    obtain ⟨t1, t2, t3, t4, t5⟩ := tb
    have n1 := bs_size l1
    have n2 := bs_size l2
    have x1 : (bs l2).extract 0 12 = bs (l1.take 12) := by rw [← bs_of ((bs l2).extract 0 12), extract_toList, bs_toList, List.drop_zero, ← t3]
    have x2 : (bs l1).extract 0 12 = bs (l1.take 12) := by rw [← bs_of ((bs l1).extract 0 12), extract_toList, bs_toList, List.drop_zero]
    have x3 : (bs l2).extract 12 14 = ⟨#[129, 0]⟩ := by rw [← bs_of ((bs l2).extract 12 14), extract_toList, bs_toList, t4]; rfl
    have x4 : (bs l2).extract 16 (bs l2).size = bs (l1.drop 12) := by rw [← bs_of ((bs l2).extract 16 (bs l2).size), extract_toList, bs_toList, t5, List.take_of_length_le (by rw [List.length_drop]; omega)]
    have x5 : (bs l1).extract 12 (bs l1).size = bs (l1.drop 12) := by rw [← bs_of ((bs l1).extract 12 (bs l1).size), extract_toList, bs_toList, List.take_of_length_le (by rw [List.length_drop]; omega)]
    exact walk_good d s has pri dei vid ty x r b (bs a) (bs l1) (bs l2) (bs (l1.take 12)) (bs (l1.drop 12)) i w hg mb sb hr (hide B1) (hide B2) (by omega) (by omega) (by omega)
      (fun W => (run_slice_string_h (P := Tryd.prog) W 9 (bs l2) Tryd.underlying9 .i64 12 (by decide) (by omega)).trans (congrArg (fun z => Result.ok (Value.string z) W) x1))
      (fun W => (run_slice_string_h (P := Tryd.prog) W 9 (bs l1) Tryd.underlying9 .i64 12 (by decide) (by omega)).trans (congrArg (fun z => Result.ok (Value.string z) W) x2))
      (fun W => (run_slice_string_lh (P := Tryd.prog) W 9 (bs l2) Tryd.underlying9 .i64 .i64 12 14 (by decide) (by decide) (by omega)).trans (congrArg (fun z => Result.ok (Value.string z) W) x3))
      (fun W => (run_slice_string_l (P := Tryd.prog) W 9 (bs l2) Tryd.underlying9 .i64 16 (by decide) (by omega)).trans (congrArg (fun z => Result.ok (Value.string z) W) x4))
      (fun W => (run_slice_string_l (P := Tryd.prog) W 9 (bs l1) Tryd.underlying9 .i64 12 (by decide) (by omega)).trans (congrArg (fun z => Result.ok (Value.string z) W) x5))
  · have h' : (Fr.mk d s true 0 false r ty a).check ≠ 0 := by rw [hc]; exact h
    have B1 := fun (W : World) (hW : Et W) => build_bad d s false 0 false 0 ty a W hW (by omega) h
    have B2 := fun (W : World) (hW : Et W) => build_bad d s true 0 false r ty a W hW (by omega) h'
    rw [hc] at B2
    exact walk_bad d s has pri dei vid ty x r b (bs a) i _ w hg h mb sb hr (hide B1) (hide B2)
set_option maxRecDepth 100000 in
theorem lifted (os : Os) (started : os.Started) (H : Type) (enc : TypeId × Value → H) :
    ReturnsInHanded {} Tryd.checked os 7 .any (fun w args => (Rows.etherTagsSpec.pre enc Tryd.prog Tryd.f7 [] false w args ∧ laidMetH Tryd.prog [("errors.errorType", Rows.laid_errors_errorType)] w) ∧ sizedMet enc Tryd.prog Tryd.f7 (OpenSpec.ofChange Rows.etherTagsSpec) false w args)
      (Rows.etherTagsSpec.post enc Tryd.prog Tryd.f7 false true false false) := by
  refine returnsInHanded_of_change_and (C := Tryd.checked) (X := fun w _ => laidMetH Tryd.prog [("errors.errorType", Rows.laid_errors_errorType)] w) (fun _ _ _ hh h => h.of_heap hh) own started (by kernel_rfl) Tryd.func7
    (ChangeSpec.witness_at (enc := enc) (C := Tryd.checked) (os := os) (X := fun w _ => laidMetH Tryd.prog [("errors.errorType", Rows.laid_errors_errorType)] w) false
      { World.holding Tryd.prog os ⟨#[], #[], []⟩ with heap := (World.holding Tryd.prog os ⟨#[], #[], []⟩).heap.modify 0 fun
        | .cells _ t frozen => .cells #[.iface 87 (.agg #[.pointer (some ⟨1, 41, none⟩)])] t frozen
        | o => o } #[.agg #[.int .u64 0, .int .u64 0, .bool false, .int .i64 0, .bool false, .int .i64 0, .int .i64 0, .string ByteArray.empty], .int .i64 0] 8 rfl (by kernel_rfl) (by kernel_rfl) (by kernel_rfl) (by kernel_rfl) (by kernel_rfl) (laid_met os _)) ?_
  intro W base args ds gs before hval0 hW _ _ hL _
  have hval : ∀ (j : Nat) t v, Tryd.f7.params[j]? = some t → args[j]? = some v → Value.okWide Tryd.prog W .any base t v := hval0
  have hW' := hW
  obtain ⟨p, q, hA0, hV0, rfl, hfz, hnd⟩ := hW
  have hA : DataW.TrodAll enc Tryd.prog W 0 (fun _ => true) true Tryd.f7.params.toList args.toList ds p := hA0
  have hV : DataW.TrodVars enc Tryd.prog W (fun _ => true) [] gs q := hV0
  rw [Tryd.params7] at hA hval
  obtain ⟨v0, v1, d0, d1, p0, p1, rfl, rfl, rfl, h0, h1⟩ := trodAll_two hA
  obtain ⟨d0, s0, has0, pri0, dei0, vid0, ty0, b0, rfl, rfl, rfl, hd0, hs0, wa0, wb0, wp0, wv0, wt0, wz0⟩ := open_frame (hval 0 26 v0 rfl rfl) h0
  obtain ⟨a1, rfl, rfl, rfl, w1⟩ := open_int Tryd.underlying3 (hval 1 3 v1 rfl rfl) h1
  have b1 := bounds_i64 w1
  obtain ⟨rfl, rfl⟩ := trodVars_none hV
  have e1 : Rows.etherTagsSpec.fn H ([frameD d0 s0 has0 pri0 dei0 vid0 ty0 b0, .lit (.int .i64 a1)] ++ []) = { results := [.lit (.bool true)], args := [frameD d0 s0 has0 pri0 dei0 vid0 ty0 b0, .lit (.int .i64 a1)] } := by simp [Rows.etherTagsSpec]
  refine (walk d0 s0 has0 pri0 dei0 vid0 ty0 b0 a1 W (et_of_laid hL) hd0 hs0 (bounds_i64 wp0) (bounds_i64 wv0) (bounds_i64 wt0) wz0 (by omega) (by omega)).mono fun e W' ⟨he, hb⟩ => ?_
  subst he
  refine ⟨_, rfl, _, _, _, [], [], [], hW', ?_, ?_, ?_, hb.frame _, fun h => by cases h⟩
  · rw [e1]; exact trodAll_mk1 (shut_bool Tryd.underlying4 true)
  · rw [e1]; exact trodAll_mk2 (shut_frame d0 s0 has0 pri0 dei0 vid0 ty0 b0 wa0 wb0 wp0 wv0 wt0 wz0) (shut_int Tryd.underlying3 w1)
  · rw [e1]; rfl

theorem said : Rows.EtherTagsSaid :=
  OpenClaim.holds_of_wide 7 Tryd.f7 rfl rfl rfl rfl rfl rfl rfl ⟨rfl, rfl, rfl, rfl, rfl⟩ rfl rfl rfl rfl rfl (by kernel_rfl) Tryd.func7 (by kernel_rfl)
    (of_decide_eq_true (by kernel_rfl)) (by unfold Func.isWrapper; rw [if_neg (of_decide_eq_false (by kernel_rfl))]; exact ⟨rfl, rfl⟩)
    (fun os started H enc _ => lifted os started H enc)

theorem plain (f : FuncId) (fn : Func) (hf : Tryd.pinned.checked.prog.funcNamed Rows.etherTagsRow.func = some f) (hfn : Tryd.pinned.checked.prog.funcs[f]? = some fn) :
    true = Tryd.pinned.checked.prog.looks [] ∧ ∀ (j : Nat) t, fn.params[j]? = some t → Tryd.pinned.checked.prog.wantsStandIn t = false := by
  obtain rfl : f = 7 := Option.some.inj ((show Tryd.prog.funcNamed Rows.etherTagsRow.func = some 7 by kernel_rfl).symm.trans hf) |>.symm
  obtain rfl : fn = Tryd.f7 := (Option.some.inj (Tryd.func7.symm.trans hfn)).symm
  refine ⟨by kernel_rfl, fun j t ht => ?_⟩
  rw [Tryd.params7] at ht
  have hm := Array.mem_of_getElem? ht
  simp only [List.mem_toArray, List.mem_cons, List.not_mem_nil, or_false] at hm
  rcases hm with rfl | rfl
  · exact (show Tryd.prog.wantsStandIn 26 = false by kernel_rfl)
  · exact (show Tryd.prog.wantsStandIn 3 = false by kernel_rfl)

theorem card : Rows.EtherTagsCardSaid :=
  Claim7.holds_tied_plain_at .later [] _ _ _ _ said (fun _ h => by cases h) (by kernel_rfl) (fun _ h => by cases h) etherTags_row_tie rfl ⟨rfl, rfl⟩ (by kernel_rfl) rfl plain (by kernel_rfl)
end Go.Proofs.YtfndofbkfinnmaaDoor.etherTags
namespace Go.Proofs.YtfndofbkfinnmaaDoor
theorem etherTags_card_holds : Rows.EtherTagsCardSaid := etherTags.card
end Go.Proofs.YtfndofbkfinnmaaDoor

