/-
  The contract of udp.Parse: the datagram of bytes, or the number of what is wrong; no cell that was there before has turned.
-/
import Derived.Test.YtcgilcofcjehmaaDoorUdp3
namespace Go.Proofs.YtcgilcofcjehmaaDoor
open Go.RowKit Go.Sort

/-- what udp.Parse tells -/
def ParseTells (S : ByteArray) (s d : Nat) (u : Ud) (c : Int) (w : World) : Prop :=
  Calls Tryd.prog 14 #[.int .u32 (s : Int), .int .u32 (d : Int), .string S] w fun e w' => e = .returned (.tuple #[u.val, .int .i64 c]) ∧ Below w.heap.size w w'
set_option maxRecDepth 100000 in
theorem parse_bad (S : ByteArray) (s d k : Nat) (c : Int) (w : World) (hk : (((k : Nat) : Int) != 0) = true)
    (K : Hid (∀ W, Calls Tryd.prog 25 #[.int .u32 (s : Int), .int .u32 (d : Int), .string S] W fun e W' => e = .returned (.int .i64 (k : Int)) ∧ Below W.heap.size W W'))
    (N : Hid (∀ W, Calls Tryd.prog 23 #[.int .i64 (k : Int)] W fun e W' => e = .returned (.int .i64 c) ∧ W' = W)) : ParseTells S s d .none c w := by
  unfold ParseTells
  go_enter Tryd.func14, Tryd.ntmps14
  go_wp2_with fail
  refine (unhide K _).mono ?_
  rintro e w1 ⟨rfl, b1⟩
  have hb := bthen (alloc_below w _) b1
  have hr := Below.row b1 (heap_alloc_new w _)
  clear b1 K
  go_wp2_with fail
  refine (unhide N _).mono ?_
  rintro e w2 ⟨rfl, rfl⟩
  have hb2 := hb
  have hr2 := hr
  obtain ⟨c0, c1, c2, c3, f0, f1, f2, f3⟩ := cells4 hr2
  have HR := hide hr2
  clear hr2 hr hb
  go_wp2_with fail
  refine bodyPost_ret ?_ rfl ⟨rfl, below4 hb2 (Nat.le_refl _)⟩
  exact results_row2 rfl _ _ w.heap.size 26 _ _ _ _ rfl rfl (set4 (unhide HR)) Tryd.underlying26 rfl (by kernel_rfl)
set_option maxRecDepth 100000 in
set_option maxHeartbeats 1000000 in
theorem parse_good (S B : ByteArray) (s d n a b c : Nat) (x : Bool) (w : World) (hn : 8 ≤ n) (hn2 : n < 65536) (hx : (((c : Nat) : Int) == 0) = x)
    (k : Hid (∀ W, Calls Tryd.prog 25 #[.int .u32 (s : Int), .int .u32 (d : Int), .string S] W fun e W' => e = .returned (.int .i64 0) ∧ Below W.heap.size W W'))
    (kn : Hid (∀ W, Calls Tryd.prog 27 #[.string S, .int .i64 4] W fun e W' => e = .returned (.int .i64 (n : Int)) ∧ W' = W))
    (kc : Hid (∀ W, Calls Tryd.prog 26 #[.string S, .int .i64 8, .int .i64 ((n : Int) - 8)] W fun e W' => e = .returned (.tuple #[.string B, .int .i64 0]) ∧ Below W.heap.size W W'))
    (ka : Hid (∀ W, Calls Tryd.prog 27 #[.string S, .int .i64 0] W fun e W' => e = .returned (.int .i64 (a : Int)) ∧ W' = W))
    (kb : Hid (∀ W, Calls Tryd.prog 27 #[.string S, .int .i64 2] W fun e W' => e = .returned (.int .i64 (b : Int)) ∧ W' = W))
    (ks : Hid (∀ W, Calls Tryd.prog 27 #[.string S, .int .i64 6] W fun e W' => e = .returned (.int .i64 (c : Int)) ∧ W' = W)) :
    Calls Tryd.prog 14 #[.int .u32 (s : Int), .int .u32 (d : Int), .string S] w fun e w' => e = .returned (.tuple #[.agg #[.int .i64 (a : Int), .int .i64 (b : Int), .bool x, .string B], .int .i64 0]) ∧ Below w.heap.size w w' := by
  have hn' : wrap64 ((n : Int) - 8) = (n : Int) - 8 := wrap64_id (by omega) (by omega)
  clear hn hn2
  go_enter Tryd.func14, Tryd.ntmps14
  go_wp2_with fail
  refine (unhide k _).mono ?_
  rintro e w1 ⟨rfl, b1⟩
  have hb := bthen (alloc_below w _) b1
  have hr := Below.row b1 (heap_alloc_new w _)
  clear b1 k
  go_wp2_with fail
  refine (unhide kn _).mono ?_
  rintro e w1 ⟨rfl, rfl⟩
  go_wp2_with fail
  refine (unhide kc _).mono ?_
  rintro e w2 ⟨rfl, b2⟩
  have hb2 := bthen hb b2
  have hr2 := Below.row b2 hr
  clear b2 kc kn
  go_wp2_with fail
  refine (unhide ka _).mono ?_
  rintro e w3 ⟨rfl, rfl⟩
  go_wp2_with fail
  refine (unhide kb _).mono ?_
  rintro e w3 ⟨rfl, rfl⟩
  go_wp2_with fail
  refine (unhide ks _).mono ?_
  rintro e w3 ⟨rfl, rfl⟩
  obtain ⟨c0, c1, c2, c3, f0, f1, f2, f3⟩ := cells4 hr2
  have HR := hide hr2
  clear hr2 hr hb
  go_wp2_with fail
  refine bodyPost_ret ?_ rfl ⟨rfl, below4 hb2 (Nat.le_refl _)⟩
  exact results_row2 rfl _ _ w.heap.size 26 _ _ _ _ rfl rfl (set4 (unhide HR)) Tryd.underlying26 rfl (by kernel_rfl)
theorem cut_at (l : List UInt8) (n : Nat) (w : World) (hl : l.length ≤ 10000) (h8 : 8 ≤ n) (h : n ≤ l.length) :
    Calls Tryd.prog 26 #[.string (bs l), .int .i64 8, .int .i64 ((n : Int) - 8)] w fun e w' => e = .returned (.tuple #[.string (bs ((l.drop 8).take (n - 8))), .int .i64 0]) ∧ Below w.heap.size w w' := by
  have c := cut_ok (bs l) 8 (n - 8) w (by rw [bs_size]; omega) (by rw [bs_size]; omega)
  have e : (bs l).extract 8 (8 + (n - 8)) = bs ((l.drop 8).take (n - 8)) := by
    rw [← bs_of ((bs l).extract 8 (8 + (n - 8))), extract_toList, bs_toList, show 8 + (n - 8) - 8 = n - 8 by omega]
  rw [e, show ((n - 8 : Nat) : Int) = (n : Int) - 8 by omega] at c
  exact c
theorem udpParse_any (l : List UInt8) (s d : Nat) (w : World) (hl : l.length ≤ 10000) (hs : s < 4294967296) (hd : d < 4294967296) : ParseTells (bs l) s d (Ud.parse s d l).1 (Ud.parse s d l).2 w := by
  have k := fun W => flaw_any l s d W hl hs hd
  unfold Ud.parse
  by_cases c : kindOf s d l = 0
  · rw [if_pos c]
    rw [c] at k
    obtain ⟨h1, h2, h3⟩ := kind_spec c
    have hx : (((nm l 6 2 : Nat) : Int) == 0) = decide (nm l 6 2 = 0) := by
      rw [Bool.eq_iff_iff, beq_iff_eq, decide_eq_true_eq]; omega
    exact parse_good (bs l) _ s d _ _ _ _ _ w h2 (nm2_lt l 4) hx (hide k) (hide fun W => uget_any l 4 W hl (by omega)) (hide fun W => cut_at l _ W hl h2 h3) (hide fun W => uget_any l 0 W hl (by omega)) (hide fun W => uget_any l 2 W hl (by omega)) (hide fun W => uget_any l 6 W hl (by omega))
  · rw [if_neg c]
    exact parse_bad (bs l) s d _ _ w (by rw [bne_iff_ne]; omega) (hide k) (hide fun W => number_any _ W (kindOf_le s d l))
end Go.Proofs.YtcgilcofcjehmaaDoor
