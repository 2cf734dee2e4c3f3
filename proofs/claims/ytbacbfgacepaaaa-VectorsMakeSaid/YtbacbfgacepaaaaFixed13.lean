/-
  The contract of gangwaylaw13.fixed: the calls whose answers the document fixes: true, always.
-/
import Derived.Test.YtbacbfgacepaaaaVc4
namespace Go.Proofs.Ytbacbfgacepaaaa
open Go.RowKit Go.Sort

def fxA : Vc := ⟨1, 9, 0, 0, 0⟩
def fxB : Vc := ⟨2, 0, 0, 0, 0⟩
def fxC : Vc := ⟨1, 3, 7, 2, 1⟩
def fxN : Vc := ⟨0, -1, 0, 0, 0⟩
/-- the message that says the third one -/
def fxM : Bp := ⟨0, false, false, false, false, false, false, 0, 1, 3, 7, 2, 0, 0, 0, 0⟩
/-- the four of them in a row -/
def fxS : Nat → Vc
  | 0 => fxB
  | 1 => fxA
  | 2 => fxC
  | _ => fxC
theorem fxA_fits : fxA.fits := by unfold Vc.fits I64 fxA; simp
theorem fxB_fits : fxB.fits := by unfold Vc.fits I64 fxB; simp
theorem fxC_fits : fxC.fits := by unfold Vc.fits I64 fxC; simp
theorem fx_ab : fxA.cmp fxB = -1 := rfl
theorem fx_ac : fxA.cmp fxC = 1 := rfl
theorem fx_cc : fxC.cmp fxC = 0 := rfl
theorem fx_p4 : (fxC.plus 4).val = .agg #[.int .u64 1, .int .i64 7, .int .u64 7, .int .i64 2, .int .i64 1] := rfl
theorem fx_pn : (fxC.plus (-1)).val = .agg #[.int .u64 1, .int .i64 4294967296, .int .u64 7, .int .i64 2, .int .i64 1] := rfl
theorem fx_of : (ofVc fxM 1).val = .agg #[.int .u64 1, .int .i64 3, .int .u64 7, .int .i64 2, .int .i64 1] := rfl
theorem fx_rc : fxC.right = true := rfl
theorem fx_rn : fxN.right = false := rfl
theorem fx_field (r c d p o : Int) (W : World) : (Instr.field 24 (.agg #[.int .u64 r, .int .i64 c, .int .u64 d, .int .i64 p, .int .i64 o]) 1).run Try.prog W = .ok (.int .i64 c) W := by
  rfl
theorem fx_best : bestF fxS 4 = 2 := rfl
theorem fx_row {W : World} {g : Nat} (h : W.heap[g]? = some (.cells #[.int .u64 2, .int .i64 0, .int .u64 0, .int .i64 0, .int .i64 0, .int .u64 1, .int .i64 9, .int .u64 0, .int .i64 0, .int .i64 0, .int .u64 1, .int .i64 3, .int .u64 7, .int .i64 2, .int .i64 1, .int .u64 1, .int .i64 3, .int .u64 7, .int .i64 2, .int .i64 1] 24 (0, 0))) : VcsIn W (some ⟨g, 0, none⟩) 4 4 fxS := by
  refine ⟨by omega, by unfold maxLen; omega, .inr ⟨g, 0, rfl, fun i hi => ?_⟩⟩
  match i, hi with
  | 0, _ => exact ⟨⟨cell_of_row W g 0 _ _ _ h, cell_of_row W g 1 _ _ _ h, cell_of_row W g 2 _ _ _ h, cell_of_row W g 3 _ _ _ h, cell_of_row W g 4 _ _ _ h⟩, fxB_fits⟩
  | 1, _ => exact ⟨⟨cell_of_row W g 5 _ _ _ h, cell_of_row W g 6 _ _ _ h, cell_of_row W g 7 _ _ _ h, cell_of_row W g 8 _ _ _ h, cell_of_row W g 9 _ _ _ h⟩, fxA_fits⟩
  | 2, _ => exact ⟨⟨cell_of_row W g 10 _ _ _ h, cell_of_row W g 11 _ _ _ h, cell_of_row W g 12 _ _ _ h, cell_of_row W g 13 _ _ _ h, cell_of_row W g 14 _ _ _ h⟩, fxC_fits⟩
  | 3, _ => exact ⟨⟨cell_of_row W g 15 _ _ _ h, cell_of_row W g 16 _ _ _ h, cell_of_row W g 17 _ _ _ h, cell_of_row W g 18 _ _ _ h, cell_of_row W g 19 _ _ _ h⟩, fxC_fits⟩
theorem fx_nil (W : World) : VcsIn W none 0 0 fxS := ⟨by omega, by unfold maxLen; omega, .inl rfl⟩
/-- the rows of the first three -/
structure Fx3 (w : World) (W : World) : Prop where
  below : Below w.heap.size w W
  a : W.heap[w.heap.size]? = some (.cells #[.int .u64 1, .int .i64 9, .int .u64 0, .int .i64 0, .int .i64 0] 24 (0, 0))
  b : W.heap[w.heap.size + 1]? = some (.cells #[.int .u64 2, .int .i64 0, .int .u64 0, .int .i64 0, .int .i64 0] 24 (0, 0))
  c : W.heap[w.heap.size + 1 + 1]? = some (.cells #[.int .u64 1, .int .i64 3, .int .u64 7, .int .i64 2, .int .i64 1] 24 (0, 0))
theorem Fx3.next {w W W' : World} (h : Fx3 w W) (k : Below W.heap.size W W') : Fx3 w W' := ⟨bthen h.below k, Below.row k h.a, Below.row k h.b, Below.row k h.c⟩
theorem sizes2 (w : World) (a b : Obj) : ((w.alloc a).alloc b).heap.size = w.heap.size + 1 + 1 := by simp
theorem fx3_begin (w : World) : Fx3 w (((w.alloc (.cells #[.int .u64 1, .int .i64 9, .int .u64 0, .int .i64 0, .int .i64 0] 24)).alloc (.cells #[.int .u64 2, .int .i64 0, .int .u64 0, .int .i64 0, .int .i64 0] 24)).alloc (.cells #[.int .u64 1, .int .i64 3, .int .u64 7, .int .i64 2, .int .i64 1] 24)) :=
  ⟨alloc_then (alloc_then (alloc_below _ _)), Below.row (alloc_below _ _) (heap_alloc2_old w _ _), Below.row (alloc_below _ _) (heap_alloc2_new w _ _), heap_last _ _ _ (sizes2 _ _ _)⟩
set_option maxHeartbeats 4000000 in
set_option maxRecDepth 100000 in
theorem fixed_any (w : World) : Calls Try.prog 8 #[] w fun e w' => e = .returned (.bool true) ∧ Below w.heap.size w w' := by
  have H0 := hide (fx3_begin w)
  have CO := hide (fun W => vof_any fxM 1 W)
  have CAB := hide (fun W => vcmp_any fxA fxB W fxA_fits fxB_fits)
  have CAC := hide (fun W => vcmp_any fxA fxC W fxA_fits fxC_fits)
  have CCC := hide (fun W => vcmp_any fxC fxC W fxC_fits fxC_fits)
  have CP := hide (fun W => vplus_any fxC 4 W)
  have CN := hide (fun W => vplus_any fxC (-1) W)
  have CB := hide (fun W g (h : W.heap[g]? = some (.cells #[.int .u64 2, .int .i64 0, .int .u64 0, .int .i64 0, .int .i64 0, .int .u64 1, .int .i64 9, .int .u64 0, .int .i64 0, .int .i64 0, .int .u64 1, .int .i64 3, .int .u64 7, .int .i64 2, .int .i64 1, .int .u64 1, .int .i64 3, .int .u64 7, .int .i64 2, .int .i64 1] 24 (0, 0))) => vbest_any (some ⟨g, 0, none⟩) 4 4 fxS W (fx_row h))
  have CZ := hide (fun W => vbest_any none 0 0 fxS W (fx_nil W))
  have CR := hide (fun W => vright_any fxC W)
  have CW := hide (fun W => vright_any fxN W)
  have EF := fx_field
  rw [fx_of] at CO
  rw [fx_ab] at CAB
  rw [fx_ac] at CAC
  rw [fx_cc] at CCC
  rw [fx_p4] at CP
  rw [fx_pn] at CN
  rw [fx_best] at CB
  rw [fx_rc] at CR
  rw [fx_rn] at CW
  go_enter Try.func8, Try.ntmps8
  go_wp2_with fail
  generalize ((w.alloc (.cells #[.int .u64 1, .int .i64 9, .int .u64 0, .int .i64 0, .int .i64 0] 24)).alloc (.cells #[.int .u64 2, .int .i64 0, .int .u64 0, .int .i64 0, .int .i64 0] 24)).alloc (.cells #[.int .u64 1, .int .i64 3, .int .u64 7, .int .i64 2, .int .i64 1] 24) = W0 at *
  refine (unhide CO _).mono ?_
  rintro e w1 ⟨rfl, b1⟩
  have H1 := hide (And.intro (((unhide H0).next b1).next (alloc_below w1 (.cells #[.int .u64 1, .int .i64 3, .int .u64 7, .int .i64 2, .int .i64 1] 24))) (heap_alloc_new w1 (.cells #[.int .u64 1, .int .i64 3, .int .u64 7, .int .i64 2, .int .i64 1] 24)))
  clear b1 H0 CO
  generalize hW1 : w1.alloc (.cells #[.int .u64 1, .int .i64 3, .int .u64 7, .int .i64 2, .int .i64 1] 24) = W1 at *
  obtain ⟨a0, a1, a2, a3, a4, -⟩ := vcells (unhide H1).1.a
  obtain ⟨b0, b1, b2, b3, b4, -⟩ := vcells (unhide H1).1.b
  go_wp2_with fail
  clear hW1
  refine (unhide CAB _).mono ?_
  rintro e w2 ⟨rfl, b1⟩
  have H2 := hide (And.intro ((unhide H1).1.next b1) (Below.row b1 (unhide H1).2))
  clear b1 H1 CAB
  clear a0 a1 a2 a3 a4 b0 b1 b2 b3 b4
  obtain ⟨a0, a1, a2, a3, a4, -⟩ := vcells (unhide H2).1.a
  obtain ⟨c0, c1, c2, c3, c4, -⟩ := vcells (unhide H2).1.c
  go_wp2_with fail
  refine (unhide CAC _).mono ?_
  rintro e w3 ⟨rfl, b1⟩
  have H3 := hide (And.intro ((unhide H2).1.next b1) (Below.row b1 (unhide H2).2))
  clear b1 H2 CAC
  clear a0 a1 a2 a3 a4 c0 c1 c2 c3 c4
  obtain ⟨c0, c1, c2, c3, c4, -⟩ := vcells (unhide H3).1.c
  obtain ⟨d0, d1, d2, d3, d4, -⟩ := vcells (unhide H3).2
  go_wp2_with fail
  refine (unhide CCC _).mono ?_
  rintro e w4 ⟨rfl, b1⟩
  have H4 := hide (And.intro ((unhide H3).1.next b1) (Below.row b1 (unhide H3).2))
  clear b1 H3 CCC
  clear c0 c1 c2 c3 c4 d0 d1 d2 d3 d4
  obtain ⟨c0, c1, c2, c3, c4, -⟩ := vcells (unhide H4).1.c
  go_wp2_with fail
  refine (unhide CP _).mono ?_
  rintro e w5 ⟨rfl, b1⟩
  have H5 := hide (And.intro ((unhide H4).1.next b1) (Below.row b1 (unhide H4).2))
  clear b1 H4 CP
  clear c0 c1 c2 c3 c4
  obtain ⟨c0, c1, c2, c3, c4, -⟩ := vcells (unhide H5).1.c
  go_wp2_with fail
  refine (unhide CN _).mono ?_
  rintro e w6 ⟨rfl, b1⟩
  have H6 := hide (And.intro ((unhide H5).1.next b1) (Below.row b1 (unhide H5).2))
  clear b1 H5 CN
  clear c0 c1 c2 c3 c4
  obtain ⟨b0, b1, b2, b3, b4, -⟩ := vcells (unhide H6).1.b
  obtain ⟨a0, a1, a2, a3, a4, -⟩ := vcells (unhide H6).1.a
  obtain ⟨c0, c1, c2, c3, c4, -⟩ := vcells (unhide H6).1.c
  obtain ⟨d0, d1, d2, d3, d4, -⟩ := vcells (unhide H6).2
  go_wp2_with fail
  have H7 := hide (And.intro ((unhide H6).1.next (alloc_below w6 (.cells #[.int .u64 2, .int .i64 0, .int .u64 0, .int .i64 0, .int .i64 0, .int .u64 1, .int .i64 9, .int .u64 0, .int .i64 0, .int .i64 0, .int .u64 1, .int .i64 3, .int .u64 7, .int .i64 2, .int .i64 1, .int .u64 1, .int .i64 3, .int .u64 7, .int .i64 2, .int .i64 1] 24))) (Below.row (alloc_below w6 (.cells #[.int .u64 2, .int .i64 0, .int .u64 0, .int .i64 0, .int .i64 0, .int .u64 1, .int .i64 9, .int .u64 0, .int .i64 0, .int .i64 0, .int .u64 1, .int .i64 3, .int .u64 7, .int .i64 2, .int .i64 1, .int .u64 1, .int .i64 3, .int .u64 7, .int .i64 2, .int .i64 1] 24)) (unhide H6).2))
  refine (unhide CB _ _ (heap_alloc_new w6 _)).mono ?_
  rintro e w7 ⟨rfl, b1⟩
  have H8 := hide (And.intro ((unhide H7).1.next b1) (Below.row b1 (unhide H7).2))
  clear b1 H6 H7 CB
  clear a0 a1 a2 a3 a4 b0 b1 b2 b3 b4 c0 c1 c2 c3 c4 d0 d1 d2 d3 d4
  go_wp2_with fail
  refine (unhide CZ _).mono ?_
  rintro e w8 ⟨rfl, b1⟩
  have H9 := hide (And.intro ((unhide H8).1.next b1) (Below.row b1 (unhide H8).2))
  clear b1 H8 CZ
  obtain ⟨c0, c1, c2, c3, c4, -⟩ := vcells (unhide H9).1.c
  go_wp2_with fail
  refine (unhide CR _).mono ?_
  rintro e w9 ⟨rfl, b1⟩
  have H10 := hide ((unhide H9).1.next b1)
  clear b1 H9 CR
  clear c0 c1 c2 c3 c4
  go_wp2_with fail
  refine (unhide CW _).mono ?_
  rintro e w10 ⟨rfl, b1⟩
  have H11 := hide ((unhide H10).next b1)
  clear b1 H10 CW
  go_wp2_with fail
  go_ret
  exact ⟨rfl, (unhide H11).below⟩
end Go.Proofs.Ytbacbfgacepaaaa
