/-
  The contract of bpdu.Parse: the message of bytes, or the number of what is wrong; no cell that was there before has turned.
-/
import Derived.Test.YtchgmbbcfjfhoaaDoorBp4
import Derived.Test.YtchgmbbcfjfhoaaDoorShelf9
namespace Go.Proofs.YtchgmbbcfjfhoaaDoor
open Go.RowKit Go.Sort

theorem i64_and_nat (a b : Nat) (ha : a < 65536) (hb : b < 65536) : bits BinOp.and IntKind.i64 (a : Int) (b : Int) = ((a &&& b : Nat) : Int) := by
  show IntKind.i64.wrap ((BitVec.ofInt 64 (a : Int) &&& BitVec.ofInt 64 (b : Int)).toNat : Int) = _
  rw [BitVec.toNat_and, ofInt_i64 a (by omega), ofInt_i64 b (by omega), IntKind.wrap_i64]
  have : a &&& b ≤ b := Nat.and_le_right
  omega
theorem bits_all : ((List.range 256).all fun n => ((n &&& 1 != 0) == decide (n % 2 = 1)) && ((n &&& 2 != 0) == decide (n / 2 % 2 = 1)) && ((n &&& 16 != 0) == decide (n / 16 % 2 = 1)) && ((n &&& 32 != 0) == decide (n / 32 % 2 = 1)) && ((n &&& 64 != 0) == decide (n / 64 % 2 = 1)) && ((n &&& 128 != 0) == decide (n / 128 = 1)) && ((n &&& 12) / 4 == n / 4 % 4)
    && ((n &&& 129) % 2 == n % 2) && ((n &&& 129) / 2 % 64 == 0) && ((n &&& 129) / 128 == n / 128) && ((n &&& 255) == n)) = true := by kernel_rfl
theorem bits_is (n : Nat) (h : n < 256) : (n &&& 1 != 0) = decide (n % 2 = 1) ∧ (n &&& 2 != 0) = decide (n / 2 % 2 = 1) ∧ (n &&& 16 != 0) = decide (n / 16 % 2 = 1) ∧ (n &&& 32 != 0) = decide (n / 32 % 2 = 1) ∧ (n &&& 64 != 0) = decide (n / 64 % 2 = 1) ∧ (n &&& 128 != 0) = decide (n / 128 = 1) ∧ (n &&& 12) / 4 = n / 4 % 4 ∧
    (n &&& 129) % 2 = n % 2 ∧ (n &&& 129) / 2 % 64 = 0 ∧ (n &&& 129) / 128 = n / 128 ∧ n &&& 255 = n := by
  have := List.all_eq_true.1 bits_all n (List.mem_range.2 h)
  simp only [Bool.and_eq_true, beq_iff_eq] at this
  obtain ⟨⟨⟨⟨⟨⟨⟨⟨⟨⟨b0, b1⟩, b2⟩, b3⟩, b4⟩, b5⟩, b6⟩, b7⟩, b8⟩, b9⟩, b10⟩ := this
  exact ⟨b0, b1, b2, b3, b4, b5, b6, b7, b8, b9, b10⟩
theorem nat_ne (a : Nat) : ((a : Int) != 0) = (a != 0) := by
  rw [Bool.eq_iff_iff, bne_iff_ne, bne_iff_ne]; omega
theorem unflag_any (n : Nat) (w : World) (h : n < 256) : Calls Tryd.prog 48 #[.int .i64 (n : Int)] w fun e w' =>
    e = .returned (.agg #[.int .i64 0, .bool (decide (n % 2 = 1)), .bool (decide (n / 2 % 2 = 1)), .bool (decide (n / 16 % 2 = 1)), .bool (decide (n / 32 % 2 = 1)), .bool (decide (n / 64 % 2 = 1)), .bool (decide (n / 128 = 1)), .int .i64 ((n / 4 % 4 : Nat) : Int), .int .u64 0, .int .i64 0, .int .u64 0, .int .i64 0, .int .i64 0, .int .i64 0, .int .i64 0, .int .i64 0]) ∧ Below w.heap.size w w' := by
  obtain ⟨b1, b2, b16, b32, b64, b128, b12, _⟩ := bits_is n h
  have q : n &&& 12 ≤ 12 := Nat.and_le_right
  refine unflag_at (n : Int) _ _ _ _ _ _ _ _ _ _ _ _ _ _ w (i64_and_nat n 1 (by omega) (by decide)) (i64_and_nat n 2 (by omega) (by decide)) (i64_and_nat n 16 (by omega) (by decide)) (i64_and_nat n 32 (by omega) (by decide)) (i64_and_nat n 64 (by omega) (by decide)) (i64_and_nat n 128 (by omega) (by decide)) (i64_and_nat n 12 (by omega) (by decide)) ?_
    (by rw [nat_ne]; exact b1) (by rw [nat_ne]; exact b2) (by rw [nat_ne]; exact b16) (by rw [nat_ne]; exact b32) (by rw [nat_ne]; exact b64) (by rw [nat_ne]; exact b128)
  have e : (((n &&& 12 : Nat) : Int)).tdiv 4 = ((n &&& 12) / 4 : Nat) := by rw [Int.tdiv_eq_ediv_of_nonneg (by omega)]; omega
  rw [e, b12, IntKind.wrap_i64]
  omega
theorem long_conf (l : List UInt8) (w : World) (hl : l.length ≤ 10000) (h : 38 ≤ l.length) : Calls Tryd.prog 32 #[.string (bs l), .int .i64 38, .int .i64 0, .int .i64 129] w fun e w' => e = .returned (.tuple #[(Bp.conf l).val, .int .i64 0]) ∧ Below w.heap.size w w' := by
  have v7 := nm1_lt l 7
  have v16 := nm4_lt l 16
  have v28 := nm2_lt l 28
  have v30 := nm2_lt l 30
  have v32 := nm2_lt l 32
  have v34 := nm2_lt l 34
  have v36 := nm2_lt l 36
  have c := long_good (bs l) 38 0 129 _ _ _ _ _ _ _ _ _ _ _ _ _ _ _ _ _ w (by rw [bs_size]; omega) (hide fun W => bget_any l 7 1 W hl (by decide) (by decide) (by omega)) (by rw [IntKind.wrap_i64]; omega) (i64_and_nat _ 129 (by omega) (by decide)) (hide fun W => unflag_any _ W (Nat.lt_of_le_of_lt Nat.and_le_right (by decide)))
    (hide fun W => bget_any l 8 8 W hl (by decide) (by decide) (by omega))  (hide fun W => bget_any l 16 4 W hl (by decide) (by decide) (by omega)) (by rw [IntKind.wrap_i64]; omega) (hide fun W => bget_any l 20 8 W hl (by decide) (by decide) (by omega))  (hide fun W => bget_any l 28 2 W hl (by decide) (by decide) (by omega)) (by rw [IntKind.wrap_i64]; omega) (hide fun W => bget_any l 30 2 W hl (by decide) (by decide) (by omega)) (by rw [IntKind.wrap_i64]; omega) (hide fun W => bget_any l 32 2 W hl (by decide) (by decide) (by omega)) (by rw [IntKind.wrap_i64]; omega) (hide fun W => bget_any l 34 2 W hl (by decide) (by decide) (by omega)) (by rw [IntKind.wrap_i64]; omega) (hide fun W => bget_any l 36 2 W hl (by decide) (by decide) (by omega)) (by rw [IntKind.wrap_i64]; omega)
  obtain ⟨_, _, _, _, _, _, _, m1, m2, m3, _⟩ := bits_is _ v7
  generalize nm l 7 1 &&& 129 = V at *
  rw [m1, m3, decide_eq_false (show ¬ V / 2 % 2 = 1 by omega), decide_eq_false (show ¬ V / 16 % 2 = 1 by omega), decide_eq_false (show ¬ V / 32 % 2 = 1 by omega), decide_eq_false (show ¬ V / 64 % 2 = 1 by omega), show V / 4 % 4 = 0 by omega] at c
  exact c
theorem long_rap (l : List UInt8) (w : World) (hl : l.length ≤ 10000) (h : 39 ≤ l.length) : Calls Tryd.prog 32 #[.string (bs l), .int .i64 39, .int .i64 2, .int .i64 255] w fun e w' => e = .returned (.tuple #[(Bp.rap l).val, .int .i64 0]) ∧ Below w.heap.size w w' := by
  have v7 := nm1_lt l 7
  have v16 := nm4_lt l 16
  have v28 := nm2_lt l 28
  have v30 := nm2_lt l 30
  have v32 := nm2_lt l 32
  have v34 := nm2_lt l 34
  have v36 := nm2_lt l 36
  have c := long_good (bs l) 39 2 255 _ _ _ _ _ _ _ _ _ _ _ _ _ _ _ _ _ w (by rw [bs_size]; omega) (hide fun W => bget_any l 7 1 W hl (by decide) (by decide) (by omega)) (by rw [IntKind.wrap_i64]; omega) (i64_and_nat _ 255 (by omega) (by decide)) (hide fun W => unflag_any _ W (Nat.lt_of_le_of_lt Nat.and_le_right (by decide)))
    (hide fun W => bget_any l 8 8 W hl (by decide) (by decide) (by omega))  (hide fun W => bget_any l 16 4 W hl (by decide) (by decide) (by omega)) (by rw [IntKind.wrap_i64]; omega) (hide fun W => bget_any l 20 8 W hl (by decide) (by decide) (by omega))  (hide fun W => bget_any l 28 2 W hl (by decide) (by decide) (by omega)) (by rw [IntKind.wrap_i64]; omega) (hide fun W => bget_any l 30 2 W hl (by decide) (by decide) (by omega)) (by rw [IntKind.wrap_i64]; omega) (hide fun W => bget_any l 32 2 W hl (by decide) (by decide) (by omega)) (by rw [IntKind.wrap_i64]; omega) (hide fun W => bget_any l 34 2 W hl (by decide) (by decide) (by omega)) (by rw [IntKind.wrap_i64]; omega) (hide fun W => bget_any l 36 2 W hl (by decide) (by decide) (by omega)) (by rw [IntKind.wrap_i64]; omega)
  obtain ⟨_, _, _, _, _, _, _, _, _, _, m4⟩ := bits_is _ v7
  rw [m4] at c
  exact c
set_option maxRecDepth 100000 in
set_option maxHeartbeats 4000000 in
theorem parse_few (S : ByteArray) (w : World) (h : S.size < 7) :
    Calls Tryd.prog 14 #[.string S] w fun e w' => e = .returned (.tuple #[.agg #[.int .i64 0, .bool false, .bool false, .bool false, .bool false, .bool false, .bool false, .int .i64 0, .int .u64 0, .int .i64 0, .int .u64 0, .int .i64 0, .int .i64 0, .int .i64 0, .int .i64 0, .int .i64 0], .int .i64 90]) ∧ Below w.heap.size w w' := by
  go_enter Tryd.func14, Tryd.ntmps14
  go_wp2_with fail
  refine bodyPost_ret (v := .tuple #[.agg #[.int .i64 0, .bool false, .bool false, .bool false, .bool false, .bool false, .bool false, .int .i64 0, .int .u64 0, .int .i64 0, .int .u64 0, .int .i64 0, .int .i64 0, .int .i64 0, .int .i64 0, .int .i64 0], .int .i64 90]) ?_ rfl ⟨rfl, alloc_below _ _⟩
  exact results_row2 rfl _ _ w.heap.size 24 _ _ _ _ rfl rfl (heap_last w _ _ rfl) Tryd.underlying24 rfl (by kernel_rfl)
set_option maxRecDepth 100000 in
set_option maxHeartbeats 4000000 in
theorem parse_head (S : ByteArray) (w : World) (h : 7 ≤ S.size) (hp : Lib.hasPrefix S.data.toList [66, 66, 3, 0, 0] = false)  :
    Calls Tryd.prog 14 #[.string S] w fun e w' => e = .returned (.tuple #[.agg #[.int .i64 0, .bool false, .bool false, .bool false, .bool false, .bool false, .bool false, .int .i64 0, .int .u64 0, .int .i64 0, .int .u64 0, .int .i64 0, .int .i64 0, .int .i64 0, .int .i64 0, .int .i64 0], .int .i64 91]) ∧ Below w.heap.size w w' := by
  have C := hide fun W => lib_strings_HasPrefix S ⟨#[66, 66, 3, 0, 0]⟩ W
  simp only at C
  rw [hp] at C
  go_enter Tryd.func14, Tryd.ntmps14
  go_wp2_with fail
  refine (unhide C _).mono ?_
  rintro e w1 ⟨rfl, rfl⟩
  clear C
  go_wp2_with fail
  refine bodyPost_ret (v := .tuple #[.agg #[.int .i64 0, .bool false, .bool false, .bool false, .bool false, .bool false, .bool false, .int .i64 0, .int .u64 0, .int .i64 0, .int .u64 0, .int .i64 0, .int .i64 0, .int .i64 0, .int .i64 0, .int .i64 0], .int .i64 91]) ?_ rfl ⟨rfl, alloc_below _ _⟩
  exact results_row2 rfl _ _ w.heap.size 24 _ _ _ _ rfl rfl (heap_last w _ _ rfl) Tryd.underlying24 rfl (by kernel_rfl)
set_option maxRecDepth 100000 in
set_option maxHeartbeats 4000000 in
theorem parse_turn (S : ByteArray) (w : World) (h : 7 ≤ S.size) (hp : Lib.hasPrefix S.data.toList [66, 66, 3, 0, 0] = true) (k1 : Hid (∀ W, Calls Tryd.prog 31 #[.string S, .int .i64 5, .int .i64 2] W fun e W' => e = .returned (.int .u64 128) ∧ W' = W)) :
    Calls Tryd.prog 14 #[.string S] w fun e w' => e = .returned (.tuple #[.agg #[.int .i64 128, .bool false, .bool false, .bool false, .bool false, .bool false, .bool false, .int .i64 0, .int .u64 0, .int .i64 0, .int .u64 0, .int .i64 0, .int .i64 0, .int .i64 0, .int .i64 0, .int .i64 0], .int .i64 0]) ∧ Below w.heap.size w w' := by
  have C := hide fun W => lib_strings_HasPrefix S ⟨#[66, 66, 3, 0, 0]⟩ W
  simp only at C
  rw [hp] at C
  go_enter Tryd.func14, Tryd.ntmps14
  go_wp2_with fail
  refine (unhide C _).mono ?_
  rintro e w1 ⟨rfl, rfl⟩
  clear C
  go_wp2_with fail
  refine (unhide k1 _).mono ?_
  rintro e w1 ⟨rfl, rfl⟩
  clear k1
  go_wp2_with fail
  refine bodyPost_ret (v := .tuple #[.agg #[.int .i64 128, .bool false, .bool false, .bool false, .bool false, .bool false, .bool false, .int .i64 0, .int .u64 0, .int .i64 0, .int .u64 0, .int .i64 0, .int .i64 0, .int .i64 0, .int .i64 0, .int .i64 0], .int .i64 0]) ?_ rfl ⟨rfl, alloc_below _ _⟩
  exact results_row2 rfl _ _ w.heap.size 24 _ _ _ _ rfl rfl (heap_last w _ _ rfl) Tryd.underlying24 rfl (by kernel_rfl)
set_option maxRecDepth 100000 in
set_option maxHeartbeats 4000000 in
theorem parse_conf (S : ByteArray) (k : Int) (c p l f a x : Bool) (r R C B P A M H D : Int) (E : Int) (w : World) (h : 7 ≤ S.size) (hp : Lib.hasPrefix S.data.toList [66, 66, 3, 0, 0] = true) (k1 : Hid (∀ W, Calls Tryd.prog 31 #[.string S, .int .i64 5, .int .i64 2] W fun e W' => e = .returned (.int .u64 0) ∧ W' = W))
    (k2 : Hid (∀ W, Calls Tryd.prog 32 #[.string S, .int .i64 38, .int .i64 0, .int .i64 129] W fun e W' => e = .returned (.tuple #[.agg #[.int .i64 k, .bool c, .bool p, .bool l, .bool f, .bool a, .bool x, .int .i64 r, .int .u64 R, .int .i64 C, .int .u64 B, .int .i64 P, .int .i64 A, .int .i64 M, .int .i64 H, .int .i64 D], .int .i64 E]) ∧ Below W.heap.size W W')) :
    Calls Tryd.prog 14 #[.string S] w fun e w' => e = .returned (.tuple #[.agg #[.int .i64 k, .bool c, .bool p, .bool l, .bool f, .bool a, .bool x, .int .i64 r, .int .u64 R, .int .i64 C, .int .u64 B, .int .i64 P, .int .i64 A, .int .i64 M, .int .i64 H, .int .i64 D], .int .i64 E]) ∧ Below w.heap.size w w' := by
  have C := hide fun W => lib_strings_HasPrefix S ⟨#[66, 66, 3, 0, 0]⟩ W
  simp only at C
  rw [hp] at C
  go_enter Tryd.func14, Tryd.ntmps14
  go_wp2_with fail
  refine (unhide C _).mono ?_
  rintro e w1 ⟨rfl, rfl⟩
  clear C
  go_wp2_with fail
  refine (unhide k1 _).mono ?_
  rintro e w1 ⟨rfl, rfl⟩
  clear k1
  go_wp2_with fail
  refine (unhide k2 _).mono ?_
  rintro e w2 ⟨rfl, b2⟩
  have hb := bthen (alloc_below w _) b2
  have hr := Below.row b2 (heap_alloc_new w _)
  obtain ⟨c0, c1, c2, c3, c4, c5, c6, c7, c8, c9, c10, c11, c12, c13, c14, c15, f0, f1, f2, f3, f4, f5, f6, f7, f8, f9, f10, f11, f12, f13, f14, f15⟩ := cells16 hr
  have HR := hide hr
  clear k2 b2 hr
  go_wp2_with fail
  refine bodyPost_ret (v := .tuple #[.agg #[.int .i64 k, .bool c, .bool p, .bool l, .bool f, .bool a, .bool x, .int .i64 r, .int .u64 R, .int .i64 C, .int .u64 B, .int .i64 P, .int .i64 A, .int .i64 M, .int .i64 H, .int .i64 D], .int .i64 E]) ?_ rfl ⟨rfl, below16 hb (Nat.le_refl _)⟩
  exact results_row2 rfl _ _ w.heap.size 24 _ _ _ _ rfl rfl (set16 (unhide HR)) Tryd.underlying24 rfl (by kernel_rfl)
set_option maxRecDepth 100000 in
set_option maxHeartbeats 4000000 in
theorem parse_rap (S : ByteArray) (k : Int) (c p l f a x : Bool) (r R C B P A M H D : Int) (E : Int) (w : World) (h : 7 ≤ S.size) (hp : Lib.hasPrefix S.data.toList [66, 66, 3, 0, 0] = true) (k1 : Hid (∀ W, Calls Tryd.prog 31 #[.string S, .int .i64 5, .int .i64 2] W fun e W' => e = .returned (.int .u64 514) ∧ W' = W))
    (k2 : Hid (∀ W, Calls Tryd.prog 32 #[.string S, .int .i64 39, .int .i64 2, .int .i64 255] W fun e W' => e = .returned (.tuple #[.agg #[.int .i64 k, .bool c, .bool p, .bool l, .bool f, .bool a, .bool x, .int .i64 r, .int .u64 R, .int .i64 C, .int .u64 B, .int .i64 P, .int .i64 A, .int .i64 M, .int .i64 H, .int .i64 D], .int .i64 E]) ∧ Below W.heap.size W W')) :
    Calls Tryd.prog 14 #[.string S] w fun e w' => e = .returned (.tuple #[.agg #[.int .i64 k, .bool c, .bool p, .bool l, .bool f, .bool a, .bool x, .int .i64 r, .int .u64 R, .int .i64 C, .int .u64 B, .int .i64 P, .int .i64 A, .int .i64 M, .int .i64 H, .int .i64 D], .int .i64 E]) ∧ Below w.heap.size w w' := by
  have C := hide fun W => lib_strings_HasPrefix S ⟨#[66, 66, 3, 0, 0]⟩ W
  simp only at C
  rw [hp] at C
  go_enter Tryd.func14, Tryd.ntmps14
  go_wp2_with fail
  refine (unhide C _).mono ?_
  rintro e w1 ⟨rfl, rfl⟩
  clear C
  go_wp2_with fail
  refine (unhide k1 _).mono ?_
  rintro e w1 ⟨rfl, rfl⟩
  clear k1
  go_wp2_with fail
  refine (unhide k2 _).mono ?_
  rintro e w2 ⟨rfl, b2⟩
  have hb := bthen (alloc_below w _) b2
  have hr := Below.row b2 (heap_alloc_new w _)
  obtain ⟨c0, c1, c2, c3, c4, c5, c6, c7, c8, c9, c10, c11, c12, c13, c14, c15, f0, f1, f2, f3, f4, f5, f6, f7, f8, f9, f10, f11, f12, f13, f14, f15⟩ := cells16 hr
  have HR := hide hr
  clear k2 b2 hr
  go_wp2_with fail
  refine bodyPost_ret (v := .tuple #[.agg #[.int .i64 k, .bool c, .bool p, .bool l, .bool f, .bool a, .bool x, .int .i64 r, .int .u64 R, .int .i64 C, .int .u64 B, .int .i64 P, .int .i64 A, .int .i64 M, .int .i64 H, .int .i64 D], .int .i64 E]) ?_ rfl ⟨rfl, below16 hb (Nat.le_refl _)⟩
  exact results_row2 rfl _ _ w.heap.size 24 _ _ _ _ rfl rfl (set16 (unhide HR)) Tryd.underlying24 rfl (by kernel_rfl)
set_option maxRecDepth 100000 in
set_option maxHeartbeats 4000000 in
theorem parse_kind (S : ByteArray) (v : Int) (w : World) (h : 7 ≤ S.size) (hp : Lib.hasPrefix S.data.toList [66, 66, 3, 0, 0] = true) (k1 : Hid (∀ W, Calls Tryd.prog 31 #[.string S, .int .i64 5, .int .i64 2] W fun e W' => e = .returned (.int .u64 v) ∧ W' = W))
    (h1 : (v == 128) = false) (h2 : (v == 0) = false) (h3 : (v == 514) = false) :
    Calls Tryd.prog 14 #[.string S] w fun e w' => e = .returned (.tuple #[.agg #[.int .i64 0, .bool false, .bool false, .bool false, .bool false, .bool false, .bool false, .int .i64 0, .int .u64 0, .int .i64 0, .int .u64 0, .int .i64 0, .int .i64 0, .int .i64 0, .int .i64 0, .int .i64 0], .int .i64 91]) ∧ Below w.heap.size w w' := by
  have C := hide fun W => lib_strings_HasPrefix S ⟨#[66, 66, 3, 0, 0]⟩ W
  simp only at C
  rw [hp] at C
  go_enter Tryd.func14, Tryd.ntmps14
  go_wp2_with fail
  refine (unhide C _).mono ?_
  rintro e w1 ⟨rfl, rfl⟩
  clear C
  go_wp2_with fail
  refine (unhide k1 _).mono ?_
  rintro e w1 ⟨rfl, rfl⟩
  clear k1
  go_wp2_with fail
  refine bodyPost_ret (v := .tuple #[.agg #[.int .i64 0, .bool false, .bool false, .bool false, .bool false, .bool false, .bool false, .int .i64 0, .int .u64 0, .int .i64 0, .int .u64 0, .int .i64 0, .int .i64 0, .int .i64 0, .int .i64 0, .int .i64 0], .int .i64 91]) ?_ rfl ⟨rfl, alloc_below _ _⟩
  exact results_row2 rfl _ _ w.heap.size 24 _ _ _ _ rfl rfl (heap_last w _ _ rfl) Tryd.underlying24 rfl (by kernel_rfl)
theorem prefix_is (l : List UInt8) (h : 7 ≤ l.length) : Lib.hasPrefix l [66, 66, 3, 0, 0] = decide (l.take 5 = bpHead) := by
  rw [← Lib.hasPrefix_of_take]
  have e : decide (([66, 66, 3, 0, 0] : List UInt8).length ≤ l.length) = true := decide_eq_true (by simp; omega)
  rw [e, Bool.true_and]
  show (l.take 5 == bpHead) = _
  rw [Bool.eq_iff_iff]
  simp
theorem bpParse_any (l : List UInt8) (w : World) (hl : l.length ≤ 10000) : Calls Tryd.prog 14 #[.string (bs l)] w fun e w' => e = .returned (.tuple #[(Bp.parse l).1.val, .int .i64 (Bp.parse l).2]) ∧ Below w.heap.size w w' := by
  have hz := bs_size l
  have v5 := nm2_lt l 5
  unfold Bp.parse
  by_cases h : l.length < 7
  · rw [if_pos h]; exact parse_few (bs l) w (by omega)
  · rw [if_neg h]
    have hp := prefix_is l (by omega)
    have G := fun W => bget_any l 5 2 W hl (by decide) (by decide) (by omega)
    by_cases h1 : l.take 5 = bpHead
    · have hp' : Lib.hasPrefix (bs l).data.toList [66, 66, 3, 0, 0] = true := by rw [bs_toList, hp]; exact decide_eq_true h1
      rw [if_neg (by simp [h1])]
      by_cases h2 : nm l 5 2 = 128
      · rw [if_pos h2]
        rw [h2] at G
        exact parse_turn (bs l) w (by omega) hp' (hide G)
      · rw [if_neg h2]
        by_cases h3 : nm l 5 2 = 0
        · rw [if_pos h3]
          rw [h3] at G
          by_cases h4 : l.length < 38
          · rw [if_pos h4]
            exact parse_conf (bs l) 0 false false false false false false 0 0 0 0 0 0 0 0 0 90 w (by omega) hp' (hide G) (hide fun W => long_short (bs l) 38 0 129 W (by omega))
          · rw [if_neg h4]
            exact parse_conf (bs l) (Bp.conf l).kind (Bp.conf l).change (Bp.conf l).propose (Bp.conf l).learn (Bp.conf l).forward (Bp.conf l).agree (Bp.conf l).ack (Bp.conf l).role (Bp.conf l).root (Bp.conf l).cost (Bp.conf l).bridge (Bp.conf l).port (Bp.conf l).age (Bp.conf l).maxAge (Bp.conf l).hello (Bp.conf l).delay 0 w (by omega) hp' (hide G) (hide fun W => long_conf l W hl (by omega))
        · rw [if_neg h3]
          by_cases h5 : nm l 5 2 = 514
          · rw [if_pos h5]
            rw [h5] at G
            by_cases h4 : l.length < 39
            · rw [if_pos h4]
              exact parse_rap (bs l) 0 false false false false false false 0 0 0 0 0 0 0 0 0 90 w (by omega) hp' (hide G) (hide fun W => long_short (bs l) 39 2 255 W (by omega))
            · rw [if_neg h4]
              exact parse_rap (bs l) (Bp.rap l).kind (Bp.rap l).change (Bp.rap l).propose (Bp.rap l).learn (Bp.rap l).forward (Bp.rap l).agree (Bp.rap l).ack (Bp.rap l).role (Bp.rap l).root (Bp.rap l).cost (Bp.rap l).bridge (Bp.rap l).port (Bp.rap l).age (Bp.rap l).maxAge (Bp.rap l).hello (Bp.rap l).delay 0 w (by omega) hp' (hide G) (hide fun W => long_rap l W hl (by omega))
          · rw [if_neg h5]
            exact parse_kind (bs l) _ w (by omega) hp' (hide G) (by rw [beq_eq_false_iff_ne]; omega) (by rw [beq_eq_false_iff_ne]; omega) (by rw [beq_eq_false_iff_ne]; omega)
    · have hp' : Lib.hasPrefix (bs l).data.toList [66, 66, 3, 0, 0] = false := by rw [bs_toList, hp]; exact decide_eq_false h1
      rw [if_pos h1]
      exact parse_head (bs l) w (by omega) hp'
end Go.Proofs.YtchgmbbcfjfhoaaDoor
