/-
  The contracts of vectors.Right, Plus and Of.
-/
import Derived.Test.YtagfaaciakbnbaaVc2
namespace Go.Proofs.Ytagfaaciakbnbaa
open Go.RowKit Go.Sort

set_option maxRecDepth 100000 in
theorem right_at (r c d p o : Int) (t1 t2 t3 : Bool) (w : World)
    (K1 : Hid (∀ W, Calls Try.prog 33 #[.int .i64 c] W fun e w' => e = .returned (.bool t1) ∧ w' = W))
    (K2 : Hid (∀ W, Calls Try.prog 33 #[.int .i64 p] W fun e w' => e = .returned (.bool t2) ∧ w' = W))
    (K3 : Hid (∀ W, Calls Try.prog 33 #[.int .i64 o] W fun e w' => e = .returned (.bool t3) ∧ w' = W)) :
    Calls Try.prog 32 #[.agg #[.int .u64 r, .int .i64 c, .int .u64 d, .int .i64 p, .int .i64 o]] w fun e w' => e = .returned (.bool (t1 && t2 && t3)) ∧ Below w.heap.size w w' := by
  have b0 := hide (alloc_below w (.cells #[.int .u64 r, .int .i64 c, .int .u64 d, .int .i64 p, .int .i64 o] 25))
  obtain ⟨q0, q1, q2, q3, q4, _⟩ := vcells (heap_alloc_new w (.cells #[.int .u64 r, .int .i64 c, .int .u64 d, .int .i64 p, .int .i64 o] 25))
  cases t1 with
  | false =>
    go_enter Try.func32, Try.ntmps32
    go_wp2_with fail
    refine (unhide K1 _).mono ?_
    rintro e w1 ⟨rfl, rfl⟩
    go_wp2_with fail
    go_ret
    exact ⟨rfl, unhide b0⟩
  | true =>
    cases t2 with
    | false =>
      go_enter Try.func32, Try.ntmps32
      go_wp2_with fail
      refine (unhide K1 _).mono ?_
      rintro e w1 ⟨rfl, rfl⟩
      go_wp2_with fail
      refine (unhide K2 _).mono ?_
      rintro e w1 ⟨rfl, rfl⟩
      go_wp2_with fail
      go_ret
      exact ⟨rfl, unhide b0⟩
    | true =>
      go_enter Try.func32, Try.ntmps32
      go_wp2_with fail
      refine (unhide K1 _).mono ?_
      rintro e w1 ⟨rfl, rfl⟩
      go_wp2_with fail
      refine (unhide K2 _).mono ?_
      rintro e w1 ⟨rfl, rfl⟩
      go_wp2_with fail
      refine (unhide K3 _).mono ?_
      rintro e w1 ⟨rfl, rfl⟩
      go_wp2_with fail
      go_ret
      exact ⟨rfl, unhide b0⟩
theorem vright_any (v : Vc) (w : World) : Calls Try.prog 32 #[v.val] w fun e w' => e = .returned (.bool v.right) ∧ Below w.heap.size w w' :=
  right_at v.root v.cost v.bridge v.port v.on (inB v.cost) (inB v.port) (inB v.on) w (hide fun W => vwithin_any v.cost W) (hide fun W => vwithin_any v.port W) (hide fun W => vwithin_any v.on W)
theorem set_other {W : World} {g k n : Nat} {v : Value} {o : Obj} (h : k ≠ g) (hk : W.heap[k]? = some o) : (W.setCell ⟨g, n, none⟩ v).heap[k]? = some o := by
  rw [heap_setCell_other _ ⟨g, n, none⟩ k _ h]
  exact hk
theorem min_left (ts : Array TypeId) (t : TypeId) {a b : Int} (h : a ≤ b) (W : World) : (Builtin.min_ ts t #[.int .i64 a, .int .i64 b]).run Try.prog W = .ok (.int .i64 a) W := by
  by_cases e : a = b
  · subst e; simp [go_sem]
  · simp [go_sem]; omega
theorem min_right (ts : Array TypeId) (t : TypeId) {a b : Int} (h : b < a) (W : World) : (Builtin.min_ ts t #[.int .i64 a, .int .i64 b]).run Try.prog W = .ok (.int .i64 b) W := by
  simp [go_sem]; omega
set_option maxRecDepth 100000 in
theorem plus_at (r c d p o x y : Int) (t1 t2 : Bool) (w : World)
    (KR : Hid (∀ W, Calls Try.prog 32 #[.agg #[.int .u64 r, .int .i64 c, .int .u64 d, .int .i64 p, .int .i64 o]] W fun e w' => e = .returned (.bool t1) ∧ Below W.heap.size W w'))
    (KW : Hid (∀ W, Calls Try.prog 33 #[.int .i64 x] W fun e w' => e = .returned (.bool t2) ∧ w' = W))
    (hy : (t1 = true ∧ t2 = true ∧ ∃ s, wrap64 (c + x) = s ∧ (s ≤ 4294967296 ∧ y = s ∨ 4294967296 < s ∧ y = 4294967296)) ∨ ((t1 = false ∨ t1 = true ∧ t2 = false) ∧ y = 4294967296)) :
    Calls Try.prog 30 #[.agg #[.int .u64 r, .int .i64 c, .int .u64 d, .int .i64 p, .int .i64 o], .int .i64 x] w fun e w' => e = .returned (.agg #[.int .u64 r, .int .i64 y, .int .u64 d, .int .i64 p, .int .i64 o]) ∧ Below w.heap.size w w' := by
  have hA := heap_alloc2_old w (.cells #[.int .u64 r, .int .i64 c, .int .u64 d, .int .i64 p, .int .i64 o] 25) (.cells #[.int .u64 0, .int .i64 0, .int .u64 0, .int .i64 0, .int .i64 0] 25)
  have hF := heap_alloc2_new w (.cells #[.int .u64 r, .int .i64 c, .int .u64 d, .int .i64 p, .int .i64 o] 25) (.cells #[.int .u64 0, .int .i64 0, .int .u64 0, .int .i64 0, .int .i64 0] 25)
  have hb := alloc_then (o := .cells #[.int .u64 0, .int .i64 0, .int .u64 0, .int .i64 0, .int .i64 0] 25) (alloc_below w (.cells #[.int .u64 r, .int .i64 c, .int .u64 d, .int .i64 p, .int .i64 o] 25))
  obtain ⟨q0, q1, q2, q3, q4, _⟩ := vcells hA
  have HY := hide hy
  have HA := hide hA
  have HF := hide hF
  have HB := hide hb
  clear hy hA hF hb
  go_enter Try.func30, Try.ntmps30
  go_wp2_with fail
  refine (unhide KR _).mono ?_
  rintro e w1 ⟨rfl, b1⟩
  have HB1 := hide (bthen (unhide HB) b1)
  have HA1 := hide (Below.row b1 (unhide HA))
  have HF1 := hide (Below.row b1 (unhide HF))
  clear b1 HB HA HF q0 q1 q2 q3 q4
  obtain ⟨q0, q1, q2, q3, q4, u0, u1, u2, u3, u4⟩ := vcells (unhide HA1)
  obtain ⟨x0, x1, x2, x3, x4, z0, z1, z2, z3, z4⟩ := vcells (unhide HF1)
  rcases (unhide HY) with ⟨rfl, rfl, s, hw, hs⟩ | ⟨ht, rfl⟩
  · rcases hs with ⟨h, rfl⟩ | ⟨h, rfl⟩
    · have dm : ∀ (ts : Array TypeId) (t : TypeId) (W : World), (Builtin.min_ ts t #[.int .i64 y, .int .i64 4294967296]).run Try.prog W = .ok (.int .i64 y) W := fun ts t W => min_left ts t h W
      clear h
      go_wp2_with fail
      refine (unhide KW _).mono ?_
      rintro e w2 ⟨rfl, rfl⟩
      go_wp2_with fail
      refine bodyPost_ret ?_ rfl ⟨rfl, vbelow ((unhide HB1).setCell (p := ⟨w.heap.size, 1, none⟩) (Nat.le_refl _) _) (Nat.le_succ _)⟩
      exact results_cell_row rfl _ _ (w.heap.size + 1) 25 _ _ _ rfl (vset (set_other (Nat.ne_of_gt (Nat.lt_add_one _)) (unhide HF1))) Try.underlying25 rfl (by kernel_rfl)
    · have dm : ∀ (ts : Array TypeId) (t : TypeId) (W : World), (Builtin.min_ ts t #[.int .i64 s, .int .i64 4294967296]).run Try.prog W = .ok (.int .i64 4294967296) W := fun ts t W => min_right ts t h W
      clear h
      go_wp2_with fail
      refine (unhide KW _).mono ?_
      rintro e w2 ⟨rfl, rfl⟩
      go_wp2_with fail
      refine bodyPost_ret ?_ rfl ⟨rfl, vbelow ((unhide HB1).setCell (p := ⟨w.heap.size, 1, none⟩) (Nat.le_refl _) _) (Nat.le_succ _)⟩
      exact results_cell_row rfl _ _ (w.heap.size + 1) 25 _ _ _ rfl (vset (set_other (Nat.ne_of_gt (Nat.lt_add_one _)) (unhide HF1))) Try.underlying25 rfl (by kernel_rfl)
  · rcases ht with rfl | ⟨rfl, rfl⟩
    · clear KW
      go_wp2_with fail
      refine bodyPost_ret ?_ rfl ⟨rfl, vbelow ((unhide HB1).setCell (p := ⟨w.heap.size, 1, none⟩) (Nat.le_refl _) _) (Nat.le_succ _)⟩
      exact results_cell_row rfl _ _ (w.heap.size + 1) 25 _ _ _ rfl (vset (set_other (Nat.ne_of_gt (Nat.lt_add_one _)) (unhide HF1))) Try.underlying25 rfl (by kernel_rfl)
    · go_wp2_with fail
      refine (unhide KW _).mono ?_
      rintro e w2 ⟨rfl, rfl⟩
      go_wp2_with fail
      refine bodyPost_ret ?_ rfl ⟨rfl, vbelow ((unhide HB1).setCell (p := ⟨w.heap.size, 1, none⟩) (Nat.le_refl _) _) (Nat.le_succ _)⟩
      exact results_cell_row rfl _ _ (w.heap.size + 1) 25 _ _ _ rfl (vset (set_other (Nat.ne_of_gt (Nat.lt_add_one _)) (unhide HF1))) Try.underlying25 rfl (by kernel_rfl)
end Go.Proofs.Ytagfaaciakbnbaa
