/-
  The contracts of arp.number, read and Parse: the message of bytes, or the error's number; no cell that was there before has turned.
-/
import Derived.Test.YtljhgehlaehgnaaDoorArp2
import Derived.Test.YtljhgehlaehgnaaDoorGet5
namespace Go.Proofs.YtljhgehlaehgnaaDoor
open Go.RowKit Go.Sort

theorem part_bs (l : List UInt8) (a n : Nat) : ((bs l).extract a (a + n)).data.toList = (l.drop a).take n := by
  rw [extract_toList, bs_toList, Nat.add_sub_cancel_left]
theorem number_ok (l : List UInt8) (a n : Nat) (w : World) (hl : l.length ≤ 10000) (h1 : 1 ≤ n) (h2 : n ≤ 8) (h : a + n ≤ l.length) :
    Calls Tryd.prog 41 #[.string (bs l), .int .i64 a, .int .i64 n] w fun e w' => e = .returned (.int .u64 (num ((l.drop a).take n) : Nat)) ∧ w' = w := by
  have C := get_ok (bs l) a n w (by rw [bs_size]; unfold maxLen; omega) h1 h2 (by rw [bs_size]; exact h)
  rw [part_bs] at C
  have C' := hide C
  clear C
  generalize num ((l.drop a).take n) = m at *
  generalize bs l = s at *
  go_enter Tryd.func41, Tryd.ntmps41
  go_wp2_with fail
  refine (unhide C').mono ?_
  rintro e w1 ⟨rfl, rfl⟩
  go_wp2_with fail
  go_ret
  exact ⟨rfl, rfl⟩
set_option maxRecDepth 100000 in
theorem read_at (s : ByteArray) (n0 n1 n2 n3 n4 : Nat) (w : World) (h0 : n0 < 65536) (h2 : n2 < 4294967296) (h4 : n4 < 4294967296)
    (c0 : Hid (∀ W, Calls Tryd.prog 41 #[.string s, .int .i64 6, .int .i64 2] W fun e W' => e = .returned (.int .u64 n0) ∧ W' = W))
    (c1 : Hid (∀ W, Calls Tryd.prog 41 #[.string s, .int .i64 8, .int .i64 6] W fun e W' => e = .returned (.int .u64 n1) ∧ W' = W))
    (c2 : Hid (∀ W, Calls Tryd.prog 41 #[.string s, .int .i64 14, .int .i64 4] W fun e W' => e = .returned (.int .u64 n2) ∧ W' = W))
    (c3 : Hid (∀ W, Calls Tryd.prog 41 #[.string s, .int .i64 18, .int .i64 6] W fun e W' => e = .returned (.int .u64 n3) ∧ W' = W))
    (c4 : Hid (∀ W, Calls Tryd.prog 41 #[.string s, .int .i64 24, .int .i64 4] W fun e W' => e = .returned (.int .u64 n4) ∧ W' = W)) :
    Calls Tryd.prog 31 #[.string s] w fun e w' => e = .returned (.agg #[.int .i64 n0, .int .u64 n1, .int .u32 n2, .int .u64 n3, .int .u32 n4]) ∧ Below w.heap.size w w' := by
  have e0 : IntKind.i64.wrap (n0 : Int) = (n0 : Int) := by rw [IntKind.wrap_i64]; omega
  have e0' : wrap64 (n0 : Int) = (n0 : Int) := wrap64_id (by omega) (by omega)
  have e2 : IntKind.u32.wrap (n2 : Int) = (n2 : Int) := by rw [IntKind.wrap_u32]; omega
  have e4 : IntKind.u32.wrap (n4 : Int) = (n4 : Int) := by rw [IntKind.wrap_u32]; omega
  clear h0 h2 h4
  go_enter Tryd.func31, Tryd.ntmps31
  go_wp2_with fail
  refine (unhide c0 _).mono ?_
  rintro e w1 ⟨rfl, rfl⟩
  go_wp2_with fail
  refine (unhide c1 _).mono ?_
  rintro e w1 ⟨rfl, rfl⟩
  go_wp2_with fail
  refine (unhide c2 _).mono ?_
  rintro e w1 ⟨rfl, rfl⟩
  go_wp2_with fail
  refine (unhide c3 _).mono ?_
  rintro e w1 ⟨rfl, rfl⟩
  go_wp2_with fail
  refine (unhide c4 _).mono ?_
  rintro e w1 ⟨rfl, rfl⟩
  clear c0 c1 c2 c3 c4
  go_wp2_with fail
  refine bodyPost_ret ?_ rfl ⟨rfl, alloc_below _ _⟩
  exact results_cell_row rfl _ _ w.heap.size 37 _ _ _ rfl (heap_last w _ _ rfl) Tryd.underlying37 rfl (by kernel_rfl)
theorem take_len (l : List UInt8) (a n : Nat) (h : a + n ≤ l.length) : ((l.drop a).take n).length = n := by rw [List.length_take, List.length_drop]; omega
theorem Ar.of_fits (l : List UInt8) (h : 28 ≤ l.length) : (Ar.of l).fits := by
  have h0 := num_two_lt _ (take_len l 6 2 (by omega))
  have h1 := num_lt ((l.drop 8).take 6)
  have h2 := num_four_lt _ (take_len l 14 4 (by omega))
  have h3 := num_lt ((l.drop 18).take 6)
  have h4 := num_four_lt _ (take_len l 24 4 (by omega))
  rw [take_len l 8 6 (by omega), pow6] at h1
  rw [take_len l 18 6 (by omega), pow6] at h3
  unfold Ar.of Ar.fits
  simp only
  exact ⟨by omega, by omega, h2, by omega, h4⟩
theorem read_any (l : List UInt8) (w : World) (h : 28 ≤ l.length) (hl : l.length ≤ 10000) :
    Calls Tryd.prog 31 #[.string (bs l)] w fun e w' => e = .returned (Ar.of l).val ∧ Below w.heap.size w w' :=
  read_at (bs l) _ _ _ _ _ w (num_two_lt _ (take_len l 6 2 (by omega))) (num_four_lt _ (take_len l 14 4 (by omega))) (num_four_lt _ (take_len l 24 4 (by omega)))
    (hide fun W => number_ok l 6 2 W hl (by decide) (by decide) (by omega)) (hide fun W => number_ok l 8 6 W hl (by decide) (by decide) (by omega)) (hide fun W => number_ok l 14 4 W hl (by decide) (by decide) (by omega))
    (hide fun W => number_ok l 18 6 W hl (by decide) (by decide) (by omega)) (hide fun W => number_ok l 24 4 W hl (by decide) (by decide) (by omega))
/-- what Parse tells -/
def ParseTells (s : ByteArray) (a : Ar) (c : Int) (w : World) : Prop := Calls Tryd.prog 22 #[.string s] w fun e w' => e = .returned (.tuple #[a.val, .int .i64 c]) ∧ Below w.heap.size w w'
theorem parse_short (s : ByteArray) (w : World) (h : s.size < 28) : ParseTells s .none 50 w := by
  unfold ParseTells
  go_enter Tryd.func22, Tryd.ntmps22
  go_wp2
  refine bodyPost_ret ?_ rfl ⟨rfl, alloc_below _ _⟩
  exact results_row2 rfl _ _ w.heap.size 37 _ _ _ _ rfl rfl (heap_last w _ _ rfl) Tryd.underlying37 rfl (by kernel_rfl)
theorem parse_head (s : ByteArray) (w : World) (h : 28 ≤ s.size) (hl : s.size ≤ 10000) (hp : Lib.hasPrefix s.data.toList [0, 1, 8, 0, 6, 4] = false) : ParseTells s .none 51 w := by
  unfold ParseTells
  have C := hide fun W => lib_strings_HasPrefix s ⟨#[0, 1, 8, 0, 6, 4]⟩ W
  simp only at C
  rw [hp] at C
  go_enter Tryd.func22, Tryd.ntmps22
  go_wp2_with fail
  refine (unhide C _).mono ?_
  rintro e w1 ⟨rfl, rfl⟩
  go_wp2_with fail
  refine bodyPost_ret ?_ rfl ⟨rfl, alloc_below _ _⟩
  exact results_row2 rfl _ _ w.heap.size 37 _ _ _ _ rfl rfl (heap_last w _ _ rfl) Tryd.underlying37 rfl (by kernel_rfl)
set_option maxRecDepth 100000 in
theorem parse_bad (s : ByteArray) (op : Int) (q i t j : Nat) (c : Int) (w : World) (h : 28 ≤ s.size) (hl : s.size ≤ 10000) (hp : Lib.hasPrefix s.data.toList [0, 1, 8, 0, 6, 4] = true) (hc : (c != 0) = true)
    (R : Hid (∀ W, Calls Tryd.prog 31 #[.string s] W fun e W' => e = .returned (.agg #[.int .i64 op, .int .u64 q, .int .u32 i, .int .u64 t, .int .u32 j]) ∧ Below W.heap.size W W'))
    (K : Hid (∀ W, Calls Tryd.prog 10 #[.agg #[.int .i64 op, .int .u64 q, .int .u32 i, .int .u64 t, .int .u32 j]] W fun e W' => e = .returned (.int .i64 c) ∧ Below W.heap.size W W')) : ParseTells s .none c w := by
  unfold ParseTells
  have C := hide fun W => lib_strings_HasPrefix s ⟨#[0, 1, 8, 0, 6, 4]⟩ W
  simp only at C
  rw [hp] at C
  go_enter Tryd.func22, Tryd.ntmps22
  go_wp2_with fail
  refine (unhide C _).mono ?_
  rintro e w1 ⟨rfl, rfl⟩
  go_wp2_with fail
  refine (unhide R _).mono ?_
  rintro e w2 ⟨rfl, b2⟩
  have hb2 := bthen (alloc_below w _) b2
  have hr2 := Below.row b2 (heap_alloc_new w _)
  clear b2 C R
  go_wp2_with fail
  refine (unhide K _).mono ?_
  rintro e w3 ⟨rfl, b3⟩
  have hb3 := bthen (alloc_then hb2) b3
  have hr3 := Below.row b3 (Below.row (alloc_below w2 _) hr2)
  clear b3 hb2 hr2 K
  obtain ⟨c0, c1, c2, c3, c4, f0, f1, f2, f3, f4⟩ := cells5 hr3
  have HR := hide hr3
  clear hr3
  go_wp2_with fail
  refine bodyPost_ret ?_ rfl ⟨rfl, below5 hb3 (Nat.le_refl _)⟩
  exact results_row2 rfl _ _ w.heap.size 37 _ _ _ _ rfl rfl (set5 (unhide HR)) Tryd.underlying37 rfl (by kernel_rfl)
set_option maxRecDepth 100000 in
theorem parse_good (s : ByteArray) (op : Int) (q i t j : Nat) (w : World) (h : 28 ≤ s.size) (hl : s.size ≤ 10000) (hp : Lib.hasPrefix s.data.toList [0, 1, 8, 0, 6, 4] = true)
    (R : Hid (∀ W, Calls Tryd.prog 31 #[.string s] W fun e W' => e = .returned (.agg #[.int .i64 op, .int .u64 q, .int .u32 i, .int .u64 t, .int .u32 j]) ∧ Below W.heap.size W W'))
    (K : Hid (∀ W, Calls Tryd.prog 10 #[.agg #[.int .i64 op, .int .u64 q, .int .u32 i, .int .u64 t, .int .u32 j]] W fun e W' => e = .returned (.int .i64 0) ∧ Below W.heap.size W W')) : ParseTells s ⟨op, q, i, t, j⟩ 0 w := by
  unfold ParseTells
  have C := hide fun W => lib_strings_HasPrefix s ⟨#[0, 1, 8, 0, 6, 4]⟩ W
  simp only at C
  rw [hp] at C
  go_enter Tryd.func22, Tryd.ntmps22
  go_wp2_with fail
  refine (unhide C _).mono ?_
  rintro e w1 ⟨rfl, rfl⟩
  go_wp2_with fail
  refine (unhide R _).mono ?_
  rintro e w2 ⟨rfl, b2⟩
  have hb2 := bthen (alloc_below w _) b2
  have hr2 := Below.row b2 (heap_alloc_new w _)
  clear b2 C R
  go_wp2_with fail
  refine (unhide K _).mono ?_
  rintro e w3 ⟨rfl, b3⟩
  have hb3 := bthen (alloc_then hb2) b3
  have hr3 := Below.row b3 (Below.row (alloc_below w2 _) hr2)
  have hq3 := Below.row b3 (heap_alloc_new w2 _)
  clear b3 hb2 hr2 K
  obtain ⟨c0, c1, c2, c3, c4, f0, f1, f2, f3, f4⟩ := cells5 hr3
  obtain ⟨k0, k1, k2, k3, k4, _⟩ := cells5 hq3
  have HR := hide hr3
  clear hr3 hq3
  go_wp2_with fail
  refine bodyPost_ret ?_ rfl ⟨rfl, below5 hb3 (Nat.le_refl _)⟩
  exact results_row2 rfl _ _ w.heap.size 37 _ _ _ _ rfl rfl (set5 (unhide HR)) Tryd.underlying37 rfl (by kernel_rfl)
end Go.Proofs.YtljhgehlaehgnaaDoor
