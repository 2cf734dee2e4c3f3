/-
  The document's answer for bridges' messages: the contract of gangwayref09's Parse, whole; no cell that was there before has turned.
-/
import Derived.Test.YtchgmbbcfjfhoaaDoorRef9c
import Derived.Test.YtchgmbbcfjfhoaaDoorRef9d
namespace Go.Proofs.YtchgmbbcfjfhoaaDoor
open Go.RowKit Go.Sort

theorem rem_doc (n : Nat) : (((n : Nat) : Int).tmod 2 == 1) = decide (n % 2 = 1) := by
  rw [Int.tmod_eq_emod_of_nonneg (by omega)]
  by_cases h : n % 2 = 1
  · rw [decide_eq_true h, beq_iff_eq]; omega
  · rw [decide_eq_false h, beq_eq_false_iff_ne]; omega
theorem quo_doc (n k : Nat) (hn : n < 256) : IntKind.i64.wrap (((n : Nat) : Int).tdiv (k : Int)) = ((n / k : Nat) : Int) := by
  rw [Int.tdiv_eq_ediv_of_nonneg (by omega), IntKind.wrap_i64]
  have h : n / k ≤ n := Nat.div_le_self _ _
  have e : ((n : Nat) : Int) / (k : Int) = ((n / k : Nat) : Int) := by simp
  rw [e]
  clear e
  generalize n / k = m at *
  omega
theorem last_doc (n : Nat) (hn : n < 256) : (IntKind.i64.wrap (((n : Nat) : Int).tdiv 128) == 1) = decide (n / 128 = 1) := by
  rw [show (128 : Int) = ((128 : Nat) : Int) from rfl, quo_doc n 128 hn]
  by_cases h : n / 128 = 1
  · rw [decide_eq_true h, beq_iff_eq]; omega
  · rw [decide_eq_false h, beq_eq_false_iff_ne]; omega
theorem wrap64_is (z : Int) : wrap64 z = IntKind.i64.wrap z := by rw [IntKind.wrap_i64]; unfold wrap64; rfl
theorem bit_doc (n k : Nat) (hn : n < 256) : ((wrap64 (((n : Nat) : Int).tdiv (k : Int))).tmod 2 == 1) = decide (n / k % 2 = 1) := by
  rw [wrap64_is, quo_doc n k hn]; exact rem_doc _
theorem role_doc (n : Nat) (hn : n < 256) : (wrap64 (((n : Nat) : Int).tdiv 4)).tmod 4 = ((n / 4 % 4 : Nat) : Int) := by
  rw [wrap64_is, show (4 : Int) = ((4 : Nat) : Int) from rfl, quo_doc n 4 hn, Int.tmod_eq_emod_of_nonneg (by omega)]
  omega
theorem head_doc (l : List UInt8) : ((bs (l.take 5)).toList == [66, 66, 3, 0, 0]) = decide (l.take 5 = bpHead) := by
  rw [Lib.toList_data, bs_toList]
  show (l.take 5 == bpHead) = _
  rw [Bool.eq_iff_iff]
  simp
theorem rparse_any (l : List UInt8) (w : World) (hl : l.length ≤ 10000) : Calls Tryd.prog 15 #[.string (bs l)] w fun e w' => e = .returned (.tuple #[(Bp.parse l).1.val, .int .i64 (Bp.parse l).2]) ∧ Below w.heap.size w w' := by
  have hz := bs_size l
  have v5 := nm2_lt l 5
  have v7 := nm1_lt l 7
  unfold Bp.parse
  by_cases h : l.length < 7
  · rw [if_pos h]; exact rparse_few (bs l) w (by omega)
  · rw [if_neg h]
    have z5 := fun W => take_at l 5 (by omega) W
    have hh := head_doc l
    have G := fun W => rn_any l 5 2 W (by decide) (by omega)
    by_cases h1 : l.take 5 = bpHead
    · rw [decide_eq_true h1] at hh
      rw [if_neg (by simp [h1])]
      by_cases h2 : nm l 5 2 = 128
      · rw [if_pos h2]
        rw [h2] at G
        exact rparse_turn (bs l) _ w (by omega) (by omega) z5 hh (hide G)
      · rw [if_neg h2]
        by_cases h3 : nm l 5 2 = 0
        · rw [if_pos h3]
          rw [h3] at G
          by_cases h4 : l.length < 38
          · rw [if_pos h4]
            exact rparse_short (bs l) _ w (by omega) (by omega) z5 hh (hide G) (by omega)
          · rw [if_neg h4]
            exact rparse_conf (bs l) _ _ _ _ _ _ _ _ _ _ _ _ _ _ w (by omega) (by omega) z5 hh (hide G) (by omega) (hide fun W => rn_any l 7 1 W (by decide) (by omega)) (hide fun W => rn_any l 16 4 W (by decide) (by omega)) (hide fun W => rn_any l 28 2 W (by decide) (by omega)) (hide fun W => rn_any l 30 2 W (by decide) (by omega)) (hide fun W => rn_any l 32 2 W (by decide) (by omega)) (hide fun W => rn_any l 34 2 W (by decide) (by omega)) (hide fun W => rn_any l 36 2 W (by decide) (by omega)) (fun W => part_at l 8 8 (by omega) W) (fun W => part_at l 20 8 (by omega) W) (hide fun W => rnum _ W (by rw [List.length_take]; omega)) (hide fun W => rnum _ W (by rw [List.length_take]; omega)) (rem_doc _) (last_doc _ v7)
        · rw [if_neg h3]
          by_cases h5 : nm l 5 2 = 514
          · rw [if_pos h5]
            rw [h5] at G
            by_cases h4 : l.length < 39
            · rw [if_pos h4]
              by_cases h6 : l.length < 38
              · exact rparse_short2 (bs l) _ w (by omega) (by omega) z5 hh (hide G) (by omega)
              · exact rparse_short3 (bs l) _ w (by omega) (by omega) z5 hh (hide G) (by omega) (by omega)
            · rw [if_neg h4]
              exact rparse_rap (bs l) _ _ _ _ _ _ _ _ _ _ _ _ _ _ _ _ _ _ _ w (by omega) (by omega) z5 hh (hide G) (by omega) (by omega) (hide fun W => rn_any l 7 1 W (by decide) (by omega)) (hide fun W => rn_any l 16 4 W (by decide) (by omega)) (hide fun W => rn_any l 28 2 W (by decide) (by omega)) (hide fun W => rn_any l 30 2 W (by decide) (by omega)) (hide fun W => rn_any l 32 2 W (by decide) (by omega)) (hide fun W => rn_any l 34 2 W (by decide) (by omega)) (hide fun W => rn_any l 36 2 W (by decide) (by omega)) (fun W => part_at l 8 8 (by omega) W) (fun W => part_at l 20 8 (by omega) W) (hide fun W => rnum _ W (by rw [List.length_take]; omega)) (hide fun W => rnum _ W (by rw [List.length_take]; omega)) (rem_doc _) (last_doc _ v7) (bit_doc _ 2 v7) (role_doc _ v7) (bit_doc _ 16 v7) (bit_doc _ 32 v7) (bit_doc _ 64 v7)
          · rw [if_neg h5]
            exact rparse_kind (bs l) _ _ w (by omega) (by omega) z5 hh (hide G) (by rw [beq_eq_false_iff_ne]; omega) (by rw [bne_iff_ne]; omega) (by rw [bne_iff_ne]; omega)
    · rw [decide_eq_false h1] at hh
      rw [if_pos h1]
      exact rparse_head (bs l) _ w (by omega) (by omega) z5 hh
end Go.Proofs.YtchgmbbcfjfhoaaDoor
