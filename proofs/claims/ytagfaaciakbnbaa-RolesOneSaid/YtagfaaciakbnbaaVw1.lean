/-
  The contracts of roles.at, Own, said and offered.
-/
import Derived.Test.YtagfaaciakbnbaaVc4
import Derived.Test.YtagfaaciakbnbaaVwPlain
import Derived.Test.YtagfaaciakbnbaaCellsX
namespace Go.Proofs.Ytagfaaciakbnbaa
open Go.RowKit Go.Sort

theorem vset4 {W : World} {g : Nat} {t : TypeId} {a0 a1 a2 a3 a4 v4 : Value} (h : W.heap[g]? = some (.cells #[a0, a1, a2, a3, a4] t (0, 0))) :
    (W.setCell ⟨g, 4, none⟩ v4).heap[g]? = some (.cells #[a0, a1, a2, a3, v4] t (0, 0)) := by
  have := heap_setCell_same _ g 4 _ t v4 h
  simpa using this
set_option maxRecDepth 100000 in
theorem rat_at (r c d p o n : Int) (w : World) :
    Calls Try.prog 29 #[.agg #[.int .u64 r, .int .i64 c, .int .u64 d, .int .i64 p, .int .i64 o], .int .i64 n] w fun e w' => e = .returned (.agg #[.int .u64 r, .int .i64 c, .int .u64 d, .int .i64 p, .int .i64 n]) ∧ Below w.heap.size w w' := by
  have hA := heap_alloc2_old w (.cells #[.int .u64 r, .int .i64 c, .int .u64 d, .int .i64 p, .int .i64 o] 25) (.cells #[.int .u64 0, .int .i64 0, .int .u64 0, .int .i64 0, .int .i64 0] 25)
  have hF := heap_alloc2_new w (.cells #[.int .u64 r, .int .i64 c, .int .u64 d, .int .i64 p, .int .i64 o] 25) (.cells #[.int .u64 0, .int .i64 0, .int .u64 0, .int .i64 0, .int .i64 0] 25)
  have hb := alloc_then (o := .cells #[.int .u64 0, .int .i64 0, .int .u64 0, .int .i64 0, .int .i64 0] 25) (alloc_below w (.cells #[.int .u64 r, .int .i64 c, .int .u64 d, .int .i64 p, .int .i64 o] 25))
  go_enter Try.func29, Try.ntmps29
  go_upto_region 1 with fail
  generalize (w.alloc (.cells #[.int .u64 r, .int .i64 c, .int .u64 d, .int .i64 p, .int .i64 o] 25)).alloc (.cells #[.int .u64 0, .int .i64 0, .int .u64 0, .int .i64 0, .int .i64 0] 25) = W2 at *
  have q := vcells (vset4 (v4 := .int .i64 n) hA)
  have z := vcells (set_other (n := 4) (v := .int .i64 n) (Nat.ne_of_gt (Nat.lt_add_one _)) hF)
  obtain ⟨q0, q1, q2, q3, q4, u0, u1, u2, u3, u4⟩ := q
  obtain ⟨z0, z1, z2, z3, z4, y0, y1, y2, y3, y4⟩ := z
  obtain ⟨-, -, -, -, k4, -, -, -, -, l4⟩ := vcells hA
  have HF := hide hF
  have HB := hide hb
  clear hA hF hb
  go_wp2_with fail
  refine bodyPost_ret ?_ rfl ⟨rfl, vbelow ((unhide HB).setCell (p := ⟨w.heap.size, 4, none⟩) (Nat.le_refl _) _) (Nat.le_succ _)⟩
  exact results_cell_row rfl _ _ (w.heap.size + 1) 25 _ _ _ rfl (vset (set_other (Nat.ne_of_gt (Nat.lt_add_one _)) (unhide HF))) Try.underlying25 rfl (by kernel_rfl)
theorem rat_any (v : Vc) (n : Int) (w : World) : Calls Try.prog 29 #[v.val, .int .i64 n] w fun e w' => e = .returned (v.at n).val ∧ Below w.heap.size w w' :=
  rat_at v.root v.cost v.bridge v.port v.on n w
set_option maxRecDepth 100000 in
theorem rown_any (b : Nat) (w : World) : Calls Try.prog 15 #[.int .u64 (b : Int)] w fun e w' => e = .returned (ownVc b).val ∧ Below w.heap.size w w' := by
  unfold ownVc Vc.val
  simp only
  have hF := heap_alloc_new w (.cells #[.int .u64 (b : Int), .int .i64 0, .int .u64 (b : Int), .int .i64 0, .int .i64 0] 25)
  have hb := alloc_below w (.cells #[.int .u64 (b : Int), .int .i64 0, .int .u64 (b : Int), .int .i64 0, .int .i64 0] 25)
  have HF := hide hF
  have HB := hide hb
  clear hF hb
  go_enter Try.func15, Try.ntmps15
  go_wp2_with fail
  refine bodyPost_ret ?_ rfl ⟨rfl, unhide HB⟩
  exact results_cell_row rfl _ _ w.heap.size 25 _ _ _ rfl (unhide HF) Try.underlying25 rfl (by kernel_rfl)
set_option maxRecDepth 100000 in
theorem said_at (b r c d p o n : Int) (w : World)
    (KA : Hid (∀ W, Calls Try.prog 29 #[.agg #[.int .u64 r, .int .i64 c, .int .u64 b, .int .i64 n, .int .i64 0], .int .i64 n] W fun e w' => e = .returned (.agg #[.int .u64 r, .int .i64 c, .int .u64 b, .int .i64 n, .int .i64 n]) ∧ Below W.heap.size W w')) :
    Calls Try.prog 22 #[.int .u64 b, .agg #[.int .u64 r, .int .i64 c, .int .u64 d, .int .i64 p, .int .i64 o], .int .i64 n] w fun e w' => e = .returned (.agg #[.int .u64 r, .int .i64 c, .int .u64 b, .int .i64 n, .int .i64 n]) ∧ Below w.heap.size w w' := by
  have hA := heap_alloc2_old w (.cells #[.int .u64 r, .int .i64 c, .int .u64 d, .int .i64 p, .int .i64 o] 25) (.cells #[.int .u64 0, .int .i64 0, .int .u64 0, .int .i64 0, .int .i64 0] 25)
  have hF := heap_alloc2_new w (.cells #[.int .u64 r, .int .i64 c, .int .u64 d, .int .i64 p, .int .i64 o] 25) (.cells #[.int .u64 0, .int .i64 0, .int .u64 0, .int .i64 0, .int .i64 0] 25)
  have hb := alloc_then (o := .cells #[.int .u64 0, .int .i64 0, .int .u64 0, .int .i64 0, .int .i64 0] 25) (alloc_below w (.cells #[.int .u64 r, .int .i64 c, .int .u64 d, .int .i64 p, .int .i64 o] 25))
  go_enter Try.func22, Try.ntmps22
  go_upto_region 1 with fail
  generalize (w.alloc (.cells #[.int .u64 r, .int .i64 c, .int .u64 d, .int .i64 p, .int .i64 o] 25)).alloc (.cells #[.int .u64 0, .int .i64 0, .int .u64 0, .int .i64 0, .int .i64 0] 25) = W2 at *
  obtain ⟨q0, q1, q2, q3, q4, -⟩ := vcells hA
  have HF := hide hF
  have HB := hide hb
  clear hA hF hb
  go_wp2_with fail
  refine (unhide KA _).mono ?_
  rintro e w1 ⟨rfl, b1⟩
  have HB1 := hide (bthen (unhide HB) b1)
  have HF1 := hide (Below.row b1 (unhide HF))
  obtain ⟨f0, f1, f2, f3, f4, z0, z1, z2, z3, z4⟩ := vcells (unhide HF1)
  clear b1 HB HF
  go_wp2_with fail
  refine bodyPost_ret ?_ rfl ⟨rfl, vbelow (unhide HB1) (Nat.le_succ _)⟩
  exact results_cell_row rfl _ _ (w.heap.size + 1) 25 _ _ _ rfl (vset (unhide HF1)) Try.underlying25 rfl (by kernel_rfl)
theorem said_any (b : Nat) (r : Vc) (n : Int) (w : World) : Calls Try.prog 22 #[.int .u64 (b : Int), r.val, .int .i64 n] w fun e w' => e = .returned (saysVc b r n).val ∧ Below w.heap.size w w' :=
  said_at b r.root r.cost r.bridge r.port r.on n w (hide fun W => rat_any ⟨r.root, r.cost, b, n, 0⟩ n W)
end Go.Proofs.Ytagfaaciakbnbaa
