/-
  The contract of gangwaylaw14.fixed: the calls whose answers the document fixes: true, always.
-/
import Derived.Test.YtagfaaciakbnbaaVwRef4
import Derived.Test.YtagfaaciakbnbaaSame13
namespace Go.Proofs.Ytagfaaciakbnbaa
open Go.RowKit Go.Sort

/-- the three ports -/
def twoS : Nat → Vw
  | 0 => ⟨true, 4, false, ⟨0, 0, 0, 0, 0⟩⟩
  | 1 => ⟨true, 5, true, ⟨1, 2, 3, 7, 0⟩⟩
  | _ => ⟨false, 1, false, ⟨0, 0, 0, 0, 0⟩⟩
theorem two_fits : ∀ i, (twoS i).fits := fun i => by
  unfold Vw.fits Vc.fits I64
  match i with
  | 0 => simp [twoS]
  | 1 => simp [twoS]
  | _ + 2 => simp [twoS]
theorem fx_root9 : rootVc 9 twoS 3 = ⟨1, 7, 3, 7, 2⟩ := rfl
theorem fx_root1 : rootVc 1 twoS 3 = ⟨1, 0, 1, 0, 0⟩ := rfl
theorem fx_says9 : saysVc 9 (rootVc 9 twoS 3) 1 = ⟨1, 7, 9, 1, 1⟩ := rfl
theorem fx_role0 : roleF 9 twoS 3 0 = 3 := rfl
theorem fx_role1 : roleF 9 twoS 3 1 = 4 := rfl
theorem fx_role2 : roleF 9 twoS 3 2 = 0 := rfl
theorem two_row {W : World} {g : Nat} (h : W.heap[g]? = some (.cells #[.bool true, .int .i64 4, .bool false, .int .u64 0, .int .i64 0, .int .u64 0, .int .i64 0, .int .i64 0, .bool true, .int .i64 5, .bool true, .int .u64 1, .int .i64 2, .int .u64 3, .int .i64 7, .int .i64 0, .bool false, .int .i64 1, .bool false, .int .u64 0, .int .i64 0, .int .u64 0, .int .i64 0, .int .i64 0] 34 (0, 0))) : VwsIn W (some ⟨g, 0, none⟩) 3 3 twoS := by
  refine ⟨by omega, by unfold maxLen; omega, .inr ⟨g, 0, rfl, fun i hi => ⟨?_, two_fits i⟩⟩⟩
  match i, hi with
  | 0, _ => exact ⟨cell_of_row W g 0 _ _ _ h, cell_of_row W g 1 _ _ _ h, cell_of_row W g 2 _ _ _ h, cell_of_row W g 3 _ _ _ h, cell_of_row W g 4 _ _ _ h, cell_of_row W g 5 _ _ _ h, cell_of_row W g 6 _ _ _ h, cell_of_row W g 7 _ _ _ h⟩
  | 1, _ => exact ⟨cell_of_row W g 8 _ _ _ h, cell_of_row W g 9 _ _ _ h, cell_of_row W g 10 _ _ _ h, cell_of_row W g 11 _ _ _ h, cell_of_row W g 12 _ _ _ h, cell_of_row W g 13 _ _ _ h, cell_of_row W g 14 _ _ _ h, cell_of_row W g 15 _ _ _ h⟩
  | 2, _ => exact ⟨cell_of_row W g 16 _ _ _ h, cell_of_row W g 17 _ _ _ h, cell_of_row W g 18 _ _ _ h, cell_of_row W g 19 _ _ _ h, cell_of_row W g 20 _ _ _ h, cell_of_row W g 21 _ _ _ h, cell_of_row W g 22 _ _ _ h, cell_of_row W g 23 _ _ _ h⟩
set_option maxRecDepth 100000 in
theorem two_any (w : World) : Calls Try.prog 25 #[] w fun e w' => e = .returned (.slice (some ⟨w.heap.size, 0, none⟩) 3 3) ∧ VwsIn w' (some ⟨w.heap.size, 0, none⟩) 3 3 twoS ∧ Below w.heap.size w w' := by
  have hr := two_row (heap_alloc_new w (.cells #[.bool true, .int .i64 4, .bool false, .int .u64 0, .int .i64 0, .int .u64 0, .int .i64 0, .int .i64 0, .bool true, .int .i64 5, .bool true, .int .u64 1, .int .i64 2, .int .u64 3, .int .i64 7, .int .i64 0, .bool false, .int .i64 1, .bool false, .int .u64 0, .int .i64 0, .int .u64 0, .int .i64 0, .int .i64 0] 34))
  have HR := hide hr
  clear hr
  go_enter Try.func25, Try.ntmps25
  go_wp2_with fail
  go_ret
  exact ⟨rfl, unhide HR, alloc_below _ _⟩
theorem two_some (w : World) : Calls Try.prog 25 #[] w fun e w' => (∃ g, e = .returned (.slice (some ⟨g, 0, none⟩) 3 3) ∧ VwsIn w' (some ⟨g, 0, none⟩) 3 3 twoS) ∧ Below w.heap.size w w' :=
  (two_any w).mono fun _ _ ⟨h1, h2, h3⟩ => ⟨⟨_, h1, h2⟩, h3⟩
theorem nums_one {W : World} {n : Nat} {v : Value} {R R' : Nat → Int} (h : NumsAt W v n R) (e : ∀ i, i < n → R i = R' i) : NumsAt W v n R' := by
  obtain ⟨g, c, rfl, h1, h2, h3⟩ := h
  exact ⟨g, c, rfl, h1, h2, fun i hi => by rw [← e i hi]; exact h3 i hi⟩
/-- the numbers that the document fixes -/
theorem nums_three (w : World) : NumsAt (w.alloc (.cells #[.int .i64 3, .int .i64 4, .int .i64 0] 3)) (.slice (some ⟨w.heap.size, 0, none⟩) 3 3) 3 (roleF 9 twoS 3) := by
  have r := heap_alloc_new w (.cells #[.int .i64 3, .int .i64 4, .int .i64 0] 3)
  refine ⟨_, _, rfl, Nat.le_refl _, by unfold maxLen; omega, fun i hi => ?_⟩
  match i, hi with
  | 0, _ => rw [fx_role0]; exact cell_of_row _ _ 0 _ _ _ r
  | 1, _ => rw [fx_role1]; exact cell_of_row _ _ 1 _ _ _ r
  | 2, _ => rw [fx_role2]; exact cell_of_row _ _ 2 _ _ _ r
theorem fx_c9 (W : World) (g : Nat) (h : VwsIn W (some ⟨g, 0, none⟩) 3 3 twoS) : Calls Try.prog 8 #[.int .u64 9, .slice (some ⟨g, 0, none⟩) 3 3] W fun e w' => e = .returned (.tuple #[.agg #[.int .u64 1, .int .i64 7, .int .u64 3, .int .i64 7, .int .i64 2], .int .i64 2]) ∧ Below W.heap.size W w' := rroot_any 9 _ 3 3 twoS W (by omega) h
theorem fx_c1 (W : World) (g : Nat) (h : VwsIn W (some ⟨g, 0, none⟩) 3 3 twoS) : Calls Try.prog 8 #[.int .u64 1, .slice (some ⟨g, 0, none⟩) 3 3] W fun e w' => e = .returned (.tuple #[.agg #[.int .u64 1, .int .i64 0, .int .u64 1, .int .i64 0, .int .i64 0], .int .i64 0]) ∧ Below W.heap.size W w' := rroot_any 1 _ 3 3 twoS W (by omega) h
theorem fx_cs (W : World) (g : Nat) (h : VwsIn W (some ⟨g, 0, none⟩) 3 3 twoS) : Calls Try.prog 10 #[.int .u64 9, .slice (some ⟨g, 0, none⟩) 3 3, .int .i64 1] W fun e w' => e = .returned (.agg #[.int .u64 1, .int .i64 7, .int .u64 9, .int .i64 1, .int .i64 1]) ∧ Below W.heap.size W w' := rsays_any 9 _ 3 3 twoS 1 W (by omega) h
theorem fx_co (W : World) : Calls Try.prog 15 #[.int .u64 5] W fun e w' => e = .returned (.agg #[.int .u64 5, .int .i64 0, .int .u64 5, .int .i64 0, .int .i64 0]) ∧ Below W.heap.size W w' := rown_any 5 W
theorem fx_ca (W : World) (g : Nat) (h : VwsIn W (some ⟨g, 0, none⟩) 3 3 twoS) : Calls Try.prog 13 #[.int .u64 9, .slice (some ⟨g, 0, none⟩) 3 3] W fun e w' => (∃ v, e = .returned v ∧ Nums W.heap.size w' v 3 (roleF 9 twoS 3)) ∧ Below W.heap.size W w' := rall_any 9 _ 3 3 twoS W (by omega) (by omega) h
theorem fx_cn (W : World) (u v : Value) (hu : NumsAt W u 3 (roleF 9 twoS 3)) (hv : NumsAt W v 3 (roleF 9 twoS 3)) : Calls Try.prog 12 #[u, v] W fun e w' => e = .returned (.bool true) ∧ Below W.heap.size W w' := snums_any u v 3 _ W hu hv
/-- what the first calls have told, in blocks of their own -/
structure Fx2 (w W : World) (g h : Nat) : Prop where
  below : Below w.heap.size w W
  v : W.heap[g]? = some (.cells #[.int .u64 1, .int .i64 7, .int .u64 3, .int .i64 7, .int .i64 2] 25 (0, 0))
  u : W.heap[h]? = some (.cells #[.int .u64 1, .int .i64 0, .int .u64 1, .int .i64 0, .int .i64 0] 25 (0, 0))
theorem Fx2.next {w W W' : World} {g h : Nat} (k : Fx2 w W g h) (b : Below W.heap.size W W') : Fx2 w W' g h := ⟨bthen k.below b, Below.row b k.v, Below.row b k.u⟩
set_option maxHeartbeats 4000000 in
set_option maxRecDepth 100000 in
theorem fixed_any (w : World) : Calls Try.prog 16 #[] w fun e w' => e = .returned (.bool true) ∧ Below w.heap.size w w' := by
  have CT := hide two_some
  have C9 := hide fx_c9
  have C1 := hide fx_c1
  have CS := hide fx_cs
  have CA := hide fx_ca
  have CO := hide fx_co
  have CN := hide fx_cn
  have E1 := eql_vec_at 1 7 3 7 2 1 7 3 7 2 true rfl
  have E2 := eql_vec_at 1 0 1 0 0 1 0 1 0 0 true rfl
  have E3 := eql_vec_at 1 7 9 1 1 1 7 9 1 1 true rfl
  have E4 := eql_vec_at 5 0 5 0 0 5 0 5 0 0 true rfl
  go_enter Try.func16, Try.ntmps16
  go_wp2_with fail
  refine (unhide CT _).mono ?_
  rintro e w1 ⟨⟨g1, rfl, hv1⟩, b1⟩
  have HV1 := hide hv1
  have HB1 := hide b1
  clear hv1 b1
  go_wp2_with fail
  refine (unhide C9 _ _ (unhide HV1)).mono ?_
  rintro e w2 ⟨rfl, b2⟩
  have HB2 := hide (alloc_then (o := (.cells #[.int .u64 1, .int .i64 7, .int .u64 3, .int .i64 7, .int .i64 2] 25)) (bthen (unhide HB1) b2))
  have HR2 := hide (heap_alloc_new w2 (.cells #[.int .u64 1, .int .i64 7, .int .u64 3, .int .i64 7, .int .i64 2] 25))
  clear b2 HB1 HV1
  go_wp2_with fail
  refine (unhide CT _).mono ?_
  rintro e w3 ⟨⟨g3, rfl, hv3⟩, b3⟩
  have HV3 := hide hv3
  have HB3 := hide (bthen (unhide HB2) b3)
  have HR3 := hide (Below.row b3 (unhide HR2))
  clear hv3 b3 HB2 HR2
  go_wp2_with fail
  refine (unhide C1 _ _ (unhide HV3)).mono ?_
  rintro e w4 ⟨rfl, b4⟩
  have H4 : Hid (Fx2 w (w4.alloc (.cells #[.int .u64 1, .int .i64 0, .int .u64 1, .int .i64 0, .int .i64 0] 25)) w2.heap.size w4.heap.size) := ⟨alloc_then (bthen (unhide HB3) b4), Below.row (alloc_below w4 (.cells #[.int .u64 1, .int .i64 0, .int .u64 1, .int .i64 0, .int .i64 0] 25)) (Below.row b4 (unhide HR3)), heap_alloc_new w4 (.cells #[.int .u64 1, .int .i64 0, .int .u64 1, .int .i64 0, .int .i64 0] 25)⟩
  obtain ⟨k0, k1, k2, k3, k4, -⟩ := vcells (unhide H4).v
  obtain ⟨l0, l1, l2, l3, l4, -⟩ := vcells (unhide H4).u
  clear b4 HB3 HR3 HV3
  go_wp2_with fail
  refine (unhide CT _).mono ?_
  rintro e w5 ⟨⟨g5, rfl, hv5⟩, b5⟩
  have HV5 := hide hv5
  have HB5 := hide (bthen (unhide H4).below b5)
  clear hv5 b5 H4 k0 k1 k2 k3 k4 l0 l1 l2 l3 l4
  go_wp2_with fail
  refine (unhide CA _ _ (unhide HV5)).mono ?_
  rintro e w6 ⟨⟨v6, rfl, hn6⟩, b6⟩
  have HN6 := hide (hn6.at_.below (alloc_below w6 (.cells #[.int .i64 3, .int .i64 4, .int .i64 0] 3)))
  have HB6 := hide (alloc_then (o := .cells #[.int .i64 3, .int .i64 4, .int .i64 0] 3) (bthen (unhide HB5) b6))
  have HM6 := hide (nums_three w6)
  clear hn6 b6 HV5 HB5
  go_wp2_with fail
  refine (unhide CN _ _ _ (unhide HN6) (unhide HM6)).mono ?_
  rintro e w7 ⟨rfl, b7⟩
  have HB7 := hide (bthen (unhide HB6) b7)
  clear b7 HN6 HM6 HB6
  go_wp2_with fail
  refine (unhide CT _).mono ?_
  rintro e w8 ⟨⟨g8, rfl, hv8⟩, b8⟩
  have HV8 := hide hv8
  have HB8 := hide (bthen (unhide HB7) b8)
  clear hv8 b8 HB7
  go_wp2_with fail
  refine (unhide CS _ _ (unhide HV8)).mono ?_
  rintro e w9 ⟨rfl, b9⟩
  have HB9 := hide (bthen (unhide HB8) b9)
  clear b9 HV8 HB8
  go_wp2_with fail
  refine (unhide CO _).mono ?_
  rintro e w10 ⟨rfl, b10⟩
  have HB10 := hide (bthen (unhide HB9) b10)
  clear b10 HB9
  go_wp2_with fail
  go_ret
  exact ⟨rfl, unhide HB10⟩
end Go.Proofs.Ytagfaaciakbnbaa
