/-
  The contract of roles.offered.
-/
import Derived.Test.YtagfaaciakbnbaaVw1
namespace Go.Proofs.Ytagfaaciakbnbaa
open Go.RowKit Go.Sort

/-- a vector of zeroes -/
def zeroVc : Vc := ⟨0, 0, 0, 0, 0⟩
set_option maxRecDepth 100000 in
theorem offered_no (up told : Bool) (b s r c d p o n : Int) (w : World) (h : up = false ∨ (up = true ∧ told = false) ∨ (up = true ∧ told = true ∧ d = b)) :
    Calls Try.prog 19 #[.int .u64 b, .agg #[.bool up, .int .i64 s, .bool told, .int .u64 r, .int .i64 c, .int .u64 d, .int .i64 p, .int .i64 o], .int .i64 n] w fun e w' => e = .returned (.tuple #[.agg #[.int .u64 0, .int .i64 0, .int .u64 0, .int .i64 0, .int .i64 0], .bool false]) ∧ Below w.heap.size w w' := by
  have hA := heap_alloc2_old w (.cells #[.bool up, .int .i64 s, .bool told, .int .u64 r, .int .i64 c, .int .u64 d, .int .i64 p, .int .i64 o] 34) (.cells #[.int .u64 0, .int .i64 0, .int .u64 0, .int .i64 0, .int .i64 0] 25)
  have hF := heap_alloc2_new w (.cells #[.bool up, .int .i64 s, .bool told, .int .u64 r, .int .i64 c, .int .u64 d, .int .i64 p, .int .i64 o] 34) (.cells #[.int .u64 0, .int .i64 0, .int .u64 0, .int .i64 0, .int .i64 0] 25)
  have hb := alloc_then (o := .cells #[.int .u64 0, .int .i64 0, .int .u64 0, .int .i64 0, .int .i64 0] 25) (alloc_below w (.cells #[.bool up, .int .i64 s, .bool told, .int .u64 r, .int .i64 c, .int .u64 d, .int .i64 p, .int .i64 o] 34))
  go_enter Try.func19, Try.ntmps19
  go_upto_region 1 with fail
  generalize (w.alloc (.cells #[.bool up, .int .i64 s, .bool told, .int .u64 r, .int .i64 c, .int .u64 d, .int .i64 p, .int .i64 o] 34)).alloc (.cells #[.int .u64 0, .int .i64 0, .int .u64 0, .int .i64 0, .int .i64 0] 25) = W2 at *
  obtain ⟨q0, q1, q2, q3, q4, q5, q6, q7, -⟩ := xcells hA
  obtain ⟨f0, f1, f2, f3, f4, z0, z1, z2, z3, z4⟩ := vcells hF
  have HF := hide hF
  have HB := hide hb
  clear hA hF hb
  rcases h with rfl | ⟨rfl, rfl⟩ | ⟨rfl, rfl, rfl⟩
  · go_wp2_with fail
    refine bodyPost_ret ?_ rfl ⟨rfl, vbelow (unhide HB) (Nat.le_succ _)⟩
    exact results_row2 rfl _ _ (w.heap.size + 1) 25 _ _ _ _ rfl rfl (vset (unhide HF)) Try.underlying25 rfl (by kernel_rfl)
  · go_wp2_with fail
    refine bodyPost_ret ?_ rfl ⟨rfl, vbelow (unhide HB) (Nat.le_succ _)⟩
    exact results_row2 rfl _ _ (w.heap.size + 1) 25 _ _ _ _ rfl rfl (vset (unhide HF)) Try.underlying25 rfl (by kernel_rfl)
  · go_wp2_with fail
    refine bodyPost_ret ?_ rfl ⟨rfl, vbelow (unhide HB) (Nat.le_succ _)⟩
    exact results_row2 rfl _ _ (w.heap.size + 1) 25 _ _ _ _ rfl rfl (vset (unhide HF)) Try.underlying25 rfl (by kernel_rfl)
set_option maxRecDepth 100000 in
theorem offered_yes (b s r c d p o n f : Int) (w : World) (h : d ≠ b)
    (KP : Hid (∀ W, Calls Try.prog 30 #[.agg #[.int .u64 r, .int .i64 c, .int .u64 d, .int .i64 p, .int .i64 o], .int .i64 s] W fun e w' => e = .returned (.agg #[.int .u64 r, .int .i64 f, .int .u64 d, .int .i64 p, .int .i64 o]) ∧ Below W.heap.size W w'))
    (KA : Hid (∀ W, Calls Try.prog 29 #[.agg #[.int .u64 r, .int .i64 f, .int .u64 d, .int .i64 p, .int .i64 o], .int .i64 n] W fun e w' => e = .returned (.agg #[.int .u64 r, .int .i64 f, .int .u64 d, .int .i64 p, .int .i64 n]) ∧ Below W.heap.size W w')) :
    Calls Try.prog 19 #[.int .u64 b, .agg #[.bool true, .int .i64 s, .bool true, .int .u64 r, .int .i64 c, .int .u64 d, .int .i64 p, .int .i64 o], .int .i64 n] w fun e w' => e = .returned (.tuple #[.agg #[.int .u64 r, .int .i64 f, .int .u64 d, .int .i64 p, .int .i64 n], .bool true]) ∧ Below w.heap.size w w' := by
  have hA := heap_alloc2_old w (.cells #[.bool true, .int .i64 s, .bool true, .int .u64 r, .int .i64 c, .int .u64 d, .int .i64 p, .int .i64 o] 34) (.cells #[.int .u64 0, .int .i64 0, .int .u64 0, .int .i64 0, .int .i64 0] 25)
  have hF := heap_alloc2_new w (.cells #[.bool true, .int .i64 s, .bool true, .int .u64 r, .int .i64 c, .int .u64 d, .int .i64 p, .int .i64 o] 34) (.cells #[.int .u64 0, .int .i64 0, .int .u64 0, .int .i64 0, .int .i64 0] 25)
  have hb := alloc_then (o := .cells #[.int .u64 0, .int .i64 0, .int .u64 0, .int .i64 0, .int .i64 0] 25) (alloc_below w (.cells #[.bool true, .int .i64 s, .bool true, .int .u64 r, .int .i64 c, .int .u64 d, .int .i64 p, .int .i64 o] 34))
  have e1 : (d == b) = false := by simpa using h
  have e2 : decide (d = b) = false := decide_eq_false h
  go_enter Try.func19, Try.ntmps19
  go_upto_region 1 with fail
  generalize (w.alloc (.cells #[.bool true, .int .i64 s, .bool true, .int .u64 r, .int .i64 c, .int .u64 d, .int .i64 p, .int .i64 o] 34)).alloc (.cells #[.int .u64 0, .int .i64 0, .int .u64 0, .int .i64 0, .int .i64 0] 25) = W2 at *
  obtain ⟨q0, q1, q2, q3, q4, q5, q6, q7, -⟩ := xcells hA
  have HF := hide hF
  have HB := hide hb
  clear hA hF hb
  go_wp2_with fail
  refine (unhide KP _).mono ?_
  rintro e w1 ⟨rfl, b1⟩
  have HB1 := hide (bthen (unhide HB) b1)
  have HF1 := hide (Below.row b1 (unhide HF))
  clear b1 HB HF KP q0 q1 q2 q3 q4 q5 q6 q7
  go_wp2_with fail
  refine (unhide KA _).mono ?_
  rintro e w2 ⟨rfl, b2⟩
  have HB2 := hide (bthen (unhide HB1) b2)
  have HF2 := hide (Below.row b2 (unhide HF1))
  obtain ⟨f0, f1, f2, f3, f4, z0, z1, z2, z3, z4⟩ := vcells (unhide HF2)
  clear b2 HB1 HF1 KA
  go_wp2_with fail
  refine bodyPost_ret ?_ rfl ⟨rfl, vbelow (unhide HB2) (Nat.le_succ _)⟩
  exact results_row2 rfl _ _ (w.heap.size + 1) 25 _ _ _ _ rfl rfl (vset (unhide HF2)) Try.underlying25 rfl (by kernel_rfl)
/-- what a port offers, if it does -/
def offerVc (b : Nat) (x : Vw) (n : Int) : Vc := if offers b x = true then wayVc x n else zeroVc
theorem offered_any (b : Nat) (x : Vw) (n : Int) (w : World) : Calls Try.prog 19 #[.int .u64 (b : Int), x.val, .int .i64 n] w fun e w' => e = .returned (.tuple #[(offerVc b x n).val, .bool (offers b x)]) ∧ Below w.heap.size w w' := by
  by_cases h : offers b x = true
  · rw [offerVc, if_pos h, h]
    obtain ⟨up, s, told, r, c, d, p, o⟩ := x
    have h0 := h
    unfold offers at h0
    simp only [Bool.and_eq_true, Bool.not_eq_true', decide_eq_false_iff_not] at h0
    obtain ⟨rfl, rfl, h3⟩ := h0
    refine offered_yes b s r c d p o n _ w (by omega) (hide fun W => vplus_any ⟨r, c, d, p, o⟩ s W) (hide fun W => rat_any (Vc.plus ⟨r, c, d, p, o⟩ s) n W)
  · rw [offerVc, if_neg h, Bool.eq_false_iff.2 h]
    obtain ⟨up, s, told, r, c, d, p, o⟩ := x
    refine offered_no up told b s r c d p o n w ?_
    cases up with
    | false => exact .inl rfl
    | true =>
      cases told with
      | false => exact .inr (.inl ⟨rfl, rfl⟩)
      | true =>
        refine .inr (.inr ⟨rfl, rfl, ?_⟩)
        unfold offers at h
        simp only [Bool.true_and, Bool.not_eq_true', decide_eq_false_iff_not, Classical.not_not] at h
        omega
end Go.Proofs.Ytagfaaciakbnbaa
