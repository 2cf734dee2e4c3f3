/-
  The document's answer for bytes as frames: the contract of gangwayref04's Parse, whole.
-/
import Derived.Test.YtfndofbkfinnmaaDoorRef4c
namespace Go.Proofs.YtfndofbkfinnmaaDoor
open Go.RowKit Go.Sort

theorem cut_h (l : List UInt8) (h : Nat) (hh : h ≤ l.length) (W : World) : (Instr.slice 9 (.string (bs l)) none (some (.int .i64 (h : Int))) none).run Tryd.prog W = .ok (.string (bs (l.take h))) W := by
  have hz := bs_size l
  rw [run_slice_string_h (P := Tryd.prog) W 9 (bs l) Tryd.underlying9 .i64 (h : Int) (by omega) (by omega), show (h : Int).toNat = h by omega, ← bs_of ((bs l).extract 0 h), extract_toList, bs_toList, List.drop_zero, Nat.sub_zero]
theorem cut_l (l : List UInt8) (a : Nat) (ha : a ≤ l.length) (W : World) : (Instr.slice 9 (.string (bs l)) (some (.int .i64 (a : Int))) none none).run Tryd.prog W = .ok (.string (bs (l.drop a))) W := by
  have hz := bs_size l
  rw [run_slice_string_l (P := Tryd.prog) W 9 (bs l) Tryd.underlying9 .i64 (a : Int) (by omega) (by omega), show (a : Int).toNat = a by omega, ← bs_of ((bs l).extract a (bs l).size), extract_toList, bs_toList, List.take_of_length_le (by rw [List.length_drop]; omega)]
theorem cut_lh (l : List UInt8) (a h : Nat) (ha : a ≤ h) (hh : h ≤ l.length) (W : World) : (Instr.slice 9 (.string (bs l)) (some (.int .i64 (a : Int))) (some (.int .i64 (h : Int))) none).run Tryd.prog W = .ok (.string (bs ((l.drop a).take (h - a)))) W := by
  have hz := bs_size l
  rw [run_slice_string_lh (P := Tryd.prog) W 9 (bs l) Tryd.underlying9 .i64 .i64 (a : Int) (h : Int) (by omega) (by omega) (by omega), show (a : Int).toNat = a by omega, show (h : Int).toNat = h by omega, ← bs_of ((bs l).extract a h), extract_toList, bs_toList]
set_option maxRecDepth 20000 in
theorem rp_long (s : ByteArray) (w : World) (hs : 1600 < s.size) (hs2 : s.size ≤ 10000) :
    Calls Tryd.prog 16 #[.string s] w fun e w' => e = .returned (.tuple #[.agg #[.int .u64 0, .int .u64 0, .bool false, .int .i64 0, .bool false, .int .i64 0, .int .i64 0, .string ⟨#[]⟩], .int .i64 41]) ∧ Below w.heap.size w w' := by
  go_enter Tryd.func16, Tryd.ntmps16
  go_wp2
  refine bodyPost_ret ?_ rfl ⟨rfl, alloc_below w _⟩
  exact results_row2 rfl _ _ w.heap.size 26 _ _ _ _ rfl rfl (heap_last w _ _ rfl) Tryd.underlying26 rfl (by kernel_rfl)
set_option maxRecDepth 20000 in
theorem rp_short (s : ByteArray) (w : World) (hs : s.size < 14) :
    Calls Tryd.prog 16 #[.string s] w fun e w' => e = .returned (.tuple #[.agg #[.int .u64 0, .int .u64 0, .bool false, .int .i64 0, .bool false, .int .i64 0, .int .i64 0, .string ⟨#[]⟩], .int .i64 40]) ∧ Below w.heap.size w w' := by
  go_enter Tryd.func16, Tryd.ntmps16
  go_wp2
  refine bodyPost_ret ?_ rfl ⟨rfl, alloc_below w _⟩
  exact results_row2 rfl _ _ w.heap.size 26 _ _ _ _ rfl rfl (heap_last w _ _ rfl) Tryd.underlying26 rfl (by kernel_rfl)
/-- what the document's Parse tells -/
def RTells (l : List UInt8) (r : Fr × Int) : Prop := ∀ w, Calls Tryd.prog 16 #[.string (bs l)] w fun ev w' => ev = .returned (.tuple #[r.1.val, .int .i64 r.2]) ∧ Below w.heap.size w w'
theorem rp_end0 (l : List UInt8) (hl : l.length ≤ 1600) (h14 : 14 ≤ l.length) (h81 : num ((l.drop 12).take 2) ≠ 33024) :
    RTells l (bodyOf ⟨num (l.take 6), num ((l.drop 6).take 6), false, 0, false, 0, 0, []⟩ (num ((l.drop 12).take 2)) (l.drop 14)) := by
  intro w
  have hz := bs_size l
  have s1 := cut_h l 6 (by omega)
  have s2 := cut_lh l 6 12 (by omega) (by omega)
  have s3 := cut_lh l 12 14 (by omega) (by omega)
  have s4 := cut_l l 14 (by omega)
  have N1 := fun W => rnum (l.take 6) W (by rw [List.length_take]; omega)
  have N2 := fun W => rnum ((l.drop 6).take (12 - 6)) W (by rw [List.length_take]; omega)
  have N3 := fun W => rword ((l.drop 12).take (14 - 12)) W (by rw [List.length_take, List.length_drop]; omega)
  have hR := bs_size (l.drop 14)
  have s5 := fun k hk => cut_h (l.drop 14) k hk
  generalize num ((l.drop 12).take 2) = k at *
  generalize l.drop 14 = rest at *
  unfold bodyOf
  by_cases c1 : k = 33024 ∨ 1500 < k ∧ k < 1536
  · rw [if_pos c1]
    exact rp_bad0 (bs l) _ _ _ _ _ _ k w (by omega) (by omega) (beq_no h81) (by omega) (by omega) s1 s2 s3 s4 (hide N1) (hide N2) (hide N3)
  · rw [if_neg c1]
    by_cases c2 : 1500 < k
    · rw [if_pos c2]
      exact rp_typ0 (bs l) _ _ _ _ _ _ k w (by omega) (by omega) (beq_no h81) (by omega) (by omega) s1 s2 s3 s4 (hide N1) (hide N2) (hide N3)
    · rw [if_neg c2]
      by_cases c3 : rest.length < k
      · rw [if_pos c3]
        exact rp_short0 (bs l) _ _ _ _ _ _ k w (by omega) (by omega) (beq_no h81) (by omega) (by omega) s1 s2 s3 s4 (hide N1) (hide N2) (hide N3)
      · rw [if_neg c3]
        exact rp_len0 (bs l) _ _ _ _ _ _ _ k w (by omega) (by omega) (beq_no h81) (by omega) (by omega) s1 s2 s3 s4 (hide N1) (hide N2) (hide N3) (s5 k (by omega))
theorem tag_vals (v : Nat) : (v : Int) / 8192 = ((v / 8192 : Nat) : Int) ∧ ((v : Int) / 4096 % 2 == 1) = decide (v / 4096 % 2 = 1) ∧ (v : Int) % 4096 = ((v % 4096 : Nat) : Int) := by
  refine ⟨by omega, ?_, by omega⟩
  by_cases z : v / 4096 % 2 = 1
  · rw [decide_eq_true z, beq_iff_eq]; omega
  · rw [decide_eq_false z, beq_eq_false_iff_ne]; omega
theorem rp_end1 (l : List UInt8) (hl : l.length ≤ 1600) (h18 : 18 ≤ l.length) (h81 : num ((l.drop 12).take 2) = 33024) :
    RTells l (bodyOf ⟨num (l.take 6), num ((l.drop 6).take 6), true, (num ((l.drop 14).take 2) / 8192 : Nat), decide (num ((l.drop 14).take 2) / 4096 % 2 = 1), (num ((l.drop 14).take 2) % 4096 : Nat), 0, []⟩ (num ((l.drop 16).take 2)) (l.drop 18)) := by
  intro w
  have hz := bs_size l
  have s1 := cut_h l 6 (by omega)
  have s2 := cut_lh l 6 12 (by omega) (by omega)
  have s3 := cut_lh l 12 14 (by omega) (by omega)
  have s4 := cut_l l 14 (by omega)
  have N1 := fun W => rnum (l.take 6) W (by rw [List.length_take]; omega)
  have N2 := fun W => rnum ((l.drop 6).take (12 - 6)) W (by rw [List.length_take]; omega)
  have N3 := fun W => rword ((l.drop 12).take (14 - 12)) W (by rw [List.length_take, List.length_drop]; omega)
  have hl4 : (l.drop 14).length = l.length - 14 := List.length_drop
  have hR := bs_size (l.drop 14)
  have s6 := cut_h (l.drop 14) 2 (by omega)
  have s7 := cut_lh (l.drop 14) 2 4 (by omega) (by omega)
  have s8 := cut_l (l.drop 14) 4 (by omega)
  have N4 := fun W => rword ((l.drop 14).take 2) W (by rw [List.length_take]; omega)
  have N5 := fun W => rword (((l.drop 14).drop 2).take (4 - 2)) W (by rw [List.length_take, List.length_drop]; omega)
  have hv := num_two_lt ((l.drop 14).take 2) (by rw [List.length_take]; omega)
  rw [show ((l.drop 12).take (14 - 12)) = (l.drop 12).take 2 from rfl, h81] at N3
  have e16 : ((l.drop 14).drop 2).take (4 - 2) = (l.drop 16).take 2 := by rw [List.drop_drop]
  have e18 : (l.drop 14).drop 4 = l.drop 18 := by rw [List.drop_drop]
  rw [e16] at s7 N5
  rw [e18] at s8
  have hR3 := bs_size (l.drop 18)
  have s9 := fun k hk => cut_h (l.drop 18) k hk
  obtain ⟨t1, t2, t3⟩ := tag_vals (num ((l.drop 14).take 2))
  rw [← t1, ← t2, ← t3]
  clear t1 t2 t3
  generalize num ((l.drop 16).take 2) = k at *
  generalize num ((l.drop 14).take 2) = v at *
  generalize l.drop 18 = rest at *
  unfold bodyOf
  by_cases c0 : k = 33024
  · rw [if_pos (Or.inl c0)]
    exact rp_mark1 (bs l) _ _ _ _ _ _ _ _ _ v k w (by omega) (by omega) (by omega) hv (by rw [beq_iff_eq]; omega) s1 s2 s3 s4 (hide N1) (hide N2) (hide N3) s6 s7 s8 (hide N4) (hide N5)
  · by_cases c1 : 1500 < k ∧ k < 1536
    · rw [if_pos (Or.inr c1)]
      exact rp_bad1 (bs l) _ _ _ _ _ _ _ _ _ v k w (by omega) (by omega) (by omega) hv (beq_no c0) (by omega) (by omega) s1 s2 s3 s4 (hide N1) (hide N2) (hide N3) s6 s7 s8 (hide N4) (hide N5)
    · rw [if_neg (by omega)]
      by_cases c2 : 1500 < k
      · rw [if_pos c2]
        exact rp_typ1 (bs l) _ _ _ _ _ _ _ _ _ v k w (by omega) (by omega) (by omega) hv (beq_no c0) (by omega) (by omega) s1 s2 s3 s4 (hide N1) (hide N2) (hide N3) s6 s7 s8 (hide N4) (hide N5)
      · rw [if_neg c2]
        by_cases c3 : rest.length < k
        · rw [if_pos c3]
          exact rp_short1 (bs l) _ _ _ _ _ _ _ _ _ v k w (by omega) (by omega) (by omega) hv (beq_no c0) (by omega) (by omega) s1 s2 s3 s4 (hide N1) (hide N2) (hide N3) s6 s7 s8 (hide N4) (hide N5)
        · rw [if_neg c3]
          exact rp_len1 (bs l) _ _ _ _ _ _ _ _ _ _ v k w (by omega) (by omega) (by omega) hv (beq_no c0) (by omega) (by omega) s1 s2 s3 s4 (hide N1) (hide N2) (hide N3) s6 s7 s8 (hide N4) (hide N5) (s9 k (by omega))
theorem rparse_any (l : List UInt8) (hl : l.length ≤ 10000) : RTells l (Fr.parse l) := by
  have hz := bs_size l
  unfold Fr.parse
  by_cases c1 : 1600 < l.length
  · rw [if_pos c1]
    exact fun w => rp_long (bs l) w (by omega) (by omega)
  · rw [if_neg c1]
    by_cases c2 : l.length < 14
    · rw [if_pos c2]
      exact fun w => rp_short (bs l) w (by omega)
    · rw [if_neg c2]
      by_cases c3 : num ((l.drop 12).take 2) = 33024
      · rw [if_pos c3]
        by_cases c4 : l.length < 18
        · rw [if_pos c4]
          intro w
          have hR := bs_size (l.drop 14)
          have hl4 : (l.drop 14).length = l.length - 14 := List.length_drop
          have N3 := fun W => rword ((l.drop 12).take (14 - 12)) W (by rw [List.length_take, List.length_drop]; omega)
          rw [show ((l.drop 12).take (14 - 12)) = (l.drop 12).take 2 from rfl, c3] at N3
          exact rp_cut1 (bs l) _ _ _ _ _ _ w (by omega) (by omega) (by omega) (cut_h l 6 (by omega)) (cut_lh l 6 12 (by omega) (by omega)) (cut_lh l 12 14 (by omega) (by omega)) (cut_l l 14 (by omega))
            (hide fun W => rnum (l.take 6) W (by rw [List.length_take]; omega)) (hide fun W => rnum ((l.drop 6).take (12 - 6)) W (by rw [List.length_take]; omega)) (hide N3)
        · rw [if_neg c4]
          exact rp_end1 l (by omega) (by omega) c3
      · rw [if_neg c3]
        exact rp_end0 l (by omega) (by omega) c3
end Go.Proofs.YtfndofbkfinnmaaDoor
