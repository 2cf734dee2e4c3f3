/-
  The contract of vectors.Compare: how two stand.
-/
import Derived.Test.YtagfaaciakbnbaaVc1
import Derived.Deep.DeepCutAuto
import Derived.WalkSmall
namespace Go.Proofs.Ytagfaaciakbnbaa
open Go.RowKit Go.Sort

theorem partsOf_any (v : Vc) (w : World) (h : v.fits) : Calls Try.prog 31 #[v.val] w fun e w' => e = .returned (.agg #[.int .u64 ((v.part 0 : Nat) : Int), .int .u64 ((v.part 1 : Nat) : Int), .int .u64 ((v.part 2 : Nat) : Int), .int .u64 ((v.part 3 : Nat) : Int), .int .u64 ((v.part 4 : Nat) : Int)]) ∧ Below w.heap.size w w' :=
  partsOf_at v.root v.cost v.bridge v.port v.on (rise v.cost) (rise v.port) (rise v.on) w (hide fun W => rising_any v.cost W h.2.2.1) (hide fun W => rising_any v.port W h.2.2.2.1) (hide fun W => rising_any v.on W h.2.2.2.2)
theorem under_parts : Try.prog.underlying 52 = some (.array 5 22) := Try.underlying52
theorem eql_parts (x0 x1 x2 x3 x4 y0 y1 y2 y3 y4 : Int) (z : Bool) (hz : decide (x0 = y0 ∧ x1 = y1 ∧ x2 = y2 ∧ x3 = y3 ∧ x4 = y4) = z) (W : World) :
    (binOp .eql 52 (.agg #[.int .u64 x0, .int .u64 x1, .int .u64 x2, .int .u64 x3, .int .u64 x4]) (.agg #[.int .u64 y0, .int .u64 y1, .int .u64 y2, .int .u64 y3, .int .u64 y4])).run Try.prog W = .ok (.bool z) W := by
  subst hz
  obtain ⟨i, hi⟩ : ∃ i, Try.prog.info? 22 = some i := ⟨_, rfl⟩
  have hc : Try.prog.cellsOf 22 = 1 := by kernel_rfl
  have r5 : List.range 5 = [0, 1, 2, 3, 4] := rfl
  rw [run_eql_struct, show (10000 : Nat) = 9999 + 1 from rfl, run_equalIn_array W 9999 _ _ under_parts hi, hc, r5]
  by_cases h : x0 = y0 ∧ x1 = y1 ∧ x2 = y2 ∧ x3 = y3 ∧ x4 = y4
  · rw [decide_eq_true h]
    obtain ⟨rfl, rfl, rfl, rfl, rfl⟩ := h
    simp [go_sem, Op.eqItems, Try.underlying22]
  · rw [decide_eq_false h]
    simp [go_sem, Op.eqItems, Try.underlying22]
    intro h0 h1 h2 h3 h4
    exact h ⟨h0, h1, h2, h3, h4⟩

theorem row_cells {W : World} {X : Nat} {p : Nat → Nat} (h : W.heap[X]? = some (.cells #[.int .u64 ((p 0 : Nat) : Int), .int .u64 ((p 1 : Nat) : Int), .int .u64 ((p 2 : Nat) : Int), .int .u64 ((p 3 : Nat) : Int), .int .u64 ((p 4 : Nat) : Int)] 52 (0, 0))) : ∀ i, i < 5 → W.cell? ⟨X, i, none⟩ = some (.int .u64 ((p i : Nat) : Int)) := fun i hi => by
  have c := vcells h
  match i, hi with
  | 0, _ => exact c.1
  | 1, _ => exact c.2.1
  | 2, _ => exact c.2.2.1
  | 3, _ => exact c.2.2.2.1
  | 4, _ => exact c.2.2.2.2.1
/-- two rows of parts in blocks of their own -/
structure TwoP (W1 : World) (X Y : Nat) (p q : Nat → Nat) (W : World) : Prop where
  below : Below W1.heap.size W1 W
  x : W.heap[X]? = some (.cells #[.int .u64 ((p 0 : Nat) : Int), .int .u64 ((p 1 : Nat) : Int), .int .u64 ((p 2 : Nat) : Int), .int .u64 ((p 3 : Nat) : Int), .int .u64 ((p 4 : Nat) : Int)] 52 (0, 0))
  y : W.heap[Y]? = some (.cells #[.int .u64 ((q 0 : Nat) : Int), .int .u64 ((q 1 : Nat) : Int), .int .u64 ((q 2 : Nat) : Int), .int .u64 ((q 3 : Nat) : Int), .int .u64 ((q 4 : Nat) : Int)] 52 (0, 0))
theorem size_set5 (w : World) (g0 g1 g2 g3 g4 : Addr) (v0 v1 v2 v3 v4 : Value) : (((((w.setCell g0 v0).setCell g1 v1).setCell g2 v2).setCell g3 v3).setCell g4 v4).heap.size = w.heap.size := by simp [World.setCell]
theorem twop_set {W1 w6 : World} {X Y : Nat} {p q : Nat → Nat} (e : Below W1.heap.size W1 w6) (lx : W1.heap.size ≤ X) (ly : W1.heap.size ≤ Y) (rx : w6.heap[X]? = some (.cells #[.int .u64 0, .int .u64 0, .int .u64 0, .int .u64 0, .int .u64 0] 52 (0, 0))) (ry : w6.heap[Y]? = some (.cells #[.int .u64 0, .int .u64 0, .int .u64 0, .int .u64 0, .int .u64 0] 52 (0, 0))) (ne : X ≠ Y) :
    TwoP W1 X Y p q ((((((((((w6.setCell ⟨X, 0, none⟩ (.int .u64 ((p 0 : Nat) : Int))).setCell ⟨X, 1, none⟩ (.int .u64 ((p 1 : Nat) : Int))).setCell ⟨X, 2, none⟩ (.int .u64 ((p 2 : Nat) : Int))).setCell ⟨X, 3, none⟩ (.int .u64 ((p 3 : Nat) : Int))).setCell ⟨X, 4, none⟩ (.int .u64 ((p 4 : Nat) : Int))).setCell ⟨Y, 0, none⟩ (.int .u64 ((q 0 : Nat) : Int))).setCell ⟨Y, 1, none⟩ (.int .u64 ((q 1 : Nat) : Int))).setCell ⟨Y, 2, none⟩ (.int .u64 ((q 2 : Nat) : Int))).setCell ⟨Y, 3, none⟩ (.int .u64 ((q 3 : Nat) : Int))).setCell ⟨Y, 4, none⟩ (.int .u64 ((q 4 : Nat) : Int))) :=
  ⟨vbelow (vbelow e lx) ly, vother ne (vset rx), vset (vother ne.symm ry)⟩
theorem twop_left {W1 w6 : World} {X : Nat} {p q : Nat → Nat} (e : Below W1.heap.size W1 w6) (lx : W1.heap.size ≤ X) (rx : w6.heap[X]? = some (.cells #[.int .u64 0, .int .u64 0, .int .u64 0, .int .u64 0, .int .u64 0] 52 (0, 0))) :
    TwoP W1 X w6.heap.size p q ((((((w6.setCell ⟨X, 0, none⟩ (.int .u64 ((p 0 : Nat) : Int))).setCell ⟨X, 1, none⟩ (.int .u64 ((p 1 : Nat) : Int))).setCell ⟨X, 2, none⟩ (.int .u64 ((p 2 : Nat) : Int))).setCell ⟨X, 3, none⟩ (.int .u64 ((p 3 : Nat) : Int))).setCell ⟨X, 4, none⟩ (.int .u64 ((p 4 : Nat) : Int))).alloc (.cells #[.int .u64 ((q 0 : Nat) : Int), .int .u64 ((q 1 : Nat) : Int), .int .u64 ((q 2 : Nat) : Int), .int .u64 ((q 3 : Nat) : Int), .int .u64 ((q 4 : Nat) : Int)] 52)) :=
  ⟨alloc_then (vbelow e lx), Below.row (alloc_below _ _) (vset rx), heap_last _ _ _ (size_set5 w6 _ _ _ _ _ _ _ _ _ _)⟩
theorem twop_right {W1 w6 : World} {Y : Nat} {p q : Nat → Nat} (e : Below W1.heap.size W1 w6) (ly : W1.heap.size ≤ Y) (ry : w6.heap[Y]? = some (.cells #[.int .u64 0, .int .u64 0, .int .u64 0, .int .u64 0, .int .u64 0] 52 (0, 0))) :
    TwoP W1 w6.heap.size Y p q ((((((w6.setCell ⟨Y, 0, none⟩ (.int .u64 ((q 0 : Nat) : Int))).setCell ⟨Y, 1, none⟩ (.int .u64 ((q 1 : Nat) : Int))).setCell ⟨Y, 2, none⟩ (.int .u64 ((q 2 : Nat) : Int))).setCell ⟨Y, 3, none⟩ (.int .u64 ((q 3 : Nat) : Int))).setCell ⟨Y, 4, none⟩ (.int .u64 ((q 4 : Nat) : Int))).alloc (.cells #[.int .u64 ((p 0 : Nat) : Int), .int .u64 ((p 1 : Nat) : Int), .int .u64 ((p 2 : Nat) : Int), .int .u64 ((p 3 : Nat) : Int), .int .u64 ((p 4 : Nat) : Int)] 52)) :=
  ⟨alloc_then (vbelow e ly), heap_last _ _ _ (size_set5 w6 _ _ _ _ _ _ _ _ _ _), Below.row (alloc_below _ _) (vset ry)⟩
set_option maxHeartbeats 4000000 in
set_option maxRecDepth 100000 in
theorem cmp_at (ra ca da pa oa rb cb db pb ob : Int) (p q : Nat → Nat) (t : Int) (is : Bool) (w : World)
    (hp : decide (((p 0 : Nat) : Int) = ((q 0 : Nat) : Int) ∧ ((p 1 : Nat) : Int) = ((q 1 : Nat) : Int) ∧ ((p 2 : Nat) : Int) = ((q 2 : Nat) : Int) ∧ ((p 3 : Nat) : Int) = ((q 3 : Nat) : Int) ∧ ((p 4 : Nat) : Int) = ((q 4 : Nat) : Int)) = is)
    (hk : is = true ∧ t = 0 ∨ is = false ∧ ∃ k, k < 5 ∧ (∀ i, i < k → p i = q i) ∧ (p k < q k ∧ t = -1 ∨ q k < p k ∧ t = 1))
    (CA : Hid (∀ W, Calls Try.prog 31 #[.agg #[.int .u64 ra, .int .i64 ca, .int .u64 da, .int .i64 pa, .int .i64 oa]] W fun e w' => e = .returned (.agg #[.int .u64 ((p 0 : Nat) : Int), .int .u64 ((p 1 : Nat) : Int), .int .u64 ((p 2 : Nat) : Int), .int .u64 ((p 3 : Nat) : Int), .int .u64 ((p 4 : Nat) : Int)]) ∧ Below W.heap.size W w'))
    (CB : Hid (∀ W, Calls Try.prog 31 #[.agg #[.int .u64 rb, .int .i64 cb, .int .u64 db, .int .i64 pb, .int .i64 ob]] W fun e w' => e = .returned (.agg #[.int .u64 ((q 0 : Nat) : Int), .int .u64 ((q 1 : Nat) : Int), .int .u64 ((q 2 : Nat) : Int), .int .u64 ((q 3 : Nat) : Int), .int .u64 ((q 4 : Nat) : Int)]) ∧ Below W.heap.size W w')) :
    Calls Try.prog 20 #[.agg #[.int .u64 ra, .int .i64 ca, .int .u64 da, .int .i64 pa, .int .i64 oa], .agg #[.int .u64 rb, .int .i64 cb, .int .u64 db, .int .i64 pb, .int .i64 ob]] w fun e w' => e = .returned (.int .i64 t) ∧ Below w.heap.size w w' := by
  have r0 := heap_alloc2_old w (.cells #[.int .u64 ra, .int .i64 ca, .int .u64 da, .int .i64 pa, .int .i64 oa] 25) (.cells #[.int .u64 rb, .int .i64 cb, .int .u64 db, .int .i64 pb, .int .i64 ob] 25)
  have r1 := heap_alloc2_new w (.cells #[.int .u64 ra, .int .i64 ca, .int .u64 da, .int .i64 pa, .int .i64 oa] 25) (.cells #[.int .u64 rb, .int .i64 cb, .int .u64 db, .int .i64 pb, .int .i64 ob] 25)
  have b0 := alloc_then (o := (.cells #[.int .u64 rb, .int .i64 cb, .int .u64 db, .int .i64 pb, .int .i64 ob] 25)) (alloc_below w (.cells #[.int .u64 ra, .int .i64 ca, .int .u64 da, .int .i64 pa, .int .i64 oa] 25))
  go_enter Try.func20, Try.ntmps20
  go_upto_region 1 with fail
  generalize (w.alloc (.cells #[.int .u64 ra, .int .i64 ca, .int .u64 da, .int .i64 pa, .int .i64 oa] 25)).alloc (.cells #[.int .u64 rb, .int .i64 cb, .int .u64 db, .int .i64 pb, .int .i64 ob] 25) = W1 at *
  have keepG : Hid (∀ W2, Below W1.heap.size W1 W2 → W2.cell? ⟨w.heap.size, 0, none⟩ = some (.int .u64 ra) ∧ W2.cell? ⟨w.heap.size, 1, none⟩ = some (.int .i64 ca) ∧ W2.cell? ⟨w.heap.size, 2, none⟩ = some (.int .u64 da) ∧ W2.cell? ⟨w.heap.size, 3, none⟩ = some (.int .i64 pa) ∧ W2.cell? ⟨w.heap.size, 4, none⟩ = some (.int .i64 oa) ∧ W2.cell? ⟨w.heap.size + 1, 0, none⟩ = some (.int .u64 rb) ∧ W2.cell? ⟨w.heap.size + 1, 1, none⟩ = some (.int .i64 cb) ∧ W2.cell? ⟨w.heap.size + 1, 2, none⟩ = some (.int .u64 db) ∧ W2.cell? ⟨w.heap.size + 1, 3, none⟩ = some (.int .i64 pb) ∧ W2.cell? ⟨w.heap.size + 1, 4, none⟩ = some (.int .i64 ob)) := fun W2 h => by
    have c := vkeep h r0
    have d := vkeep h r1
    exact ⟨c.1, c.2.1, c.2.2.1, c.2.2.2.1, c.2.2.2.2, d.1, d.2.1, d.2.2.1, d.2.2.2.1, d.2.2.2.2⟩
  clear r0 r1
  have HB0 := hide b0
  have HK := hide hk
  have EQ := fun W => eql_parts ((p 0 : Nat) : Int) ((p 1 : Nat) : Int) ((p 2 : Nat) : Int) ((p 3 : Nat) : Int) ((p 4 : Nat) : Int) ((q 0 : Nat) : Int) ((q 1 : Nat) : Int) ((q 2 : Nat) : Int) ((q 3 : Nat) : Int) ((q 4 : Nat) : Int) is hp W
  clear b0 hk hp
  go_cut [5, 6] (fun u v wx => ∃ X Y : Nat, u = .pointer (some ⟨X, 0, none⟩) ∧ v = .pointer (some ⟨Y, 0, none⟩) ∧ TwoP W1 X Y p q wx)
  case first =>
    clear EQ HK
    go_region_held3 (fun w' => w'.cell? ⟨w.heap.size, 0, none⟩ = some (.int .u64 ra) ∧ w'.cell? ⟨w.heap.size, 1, none⟩ = some (.int .i64 ca) ∧ w'.cell? ⟨w.heap.size, 2, none⟩ = some (.int .u64 da) ∧ w'.cell? ⟨w.heap.size, 3, none⟩ = some (.int .i64 pa) ∧ w'.cell? ⟨w.heap.size, 4, none⟩ = some (.int .i64 oa) ∧ w'.cell? ⟨w.heap.size + 1, 0, none⟩ = some (.int .u64 rb) ∧ w'.cell? ⟨w.heap.size + 1, 1, none⟩ = some (.int .i64 cb) ∧ w'.cell? ⟨w.heap.size + 1, 2, none⟩ = some (.int .u64 db) ∧ w'.cell? ⟨w.heap.size + 1, 3, none⟩ = some (.int .i64 pb) ∧ w'.cell? ⟨w.heap.size + 1, 4, none⟩ = some (.int .i64 ob))
      ((refine unhide keepG _ ?_; (repeat (first | (with_reducible exact Below.refl _ _) | (with_reducible refine Below.drew ?_) | (with_reducible refine alloc_then ?_) | (with_reducible exact e6) | (with_reducible exact e5) | (with_reducible refine Below.setCell ?_ (by first | (show W1.heap.size ≤ W1.heap.size; exact Nat.le_refl _) | (show W1.heap.size ≤ W1.heap.size + 1; exact Nat.le_succ _) | (show W1.heap.size ≤ w5.heap.size; exact l5) | (show W1.heap.size ≤ w5.heap.size + 1; exact Nat.le_succ_of_le l5) | (show W1.heap.size ≤ w6.heap.size; exact l6) | (show W1.heap.size ≤ w6.heap.size + 1; exact Nat.le_succ_of_le l6)) _))); done))
      ((first
        | (go_at_call_of 31 ra; refine (unhide CA _).mono ?_; rintro e w5 ⟨rfl, B5⟩; have e5 : Below W1.heap.size W1 w5 := (by refine bthen ?_ B5; (repeat (first | (with_reducible exact Below.refl _ _) | (with_reducible refine Below.drew ?_) | (with_reducible refine alloc_then ?_)))); have l5 := e5.size; first | (have fa := Below.row B5 (heap_alloc2_old W1 (.cells #[.int .u64 0, .int .u64 0, .int .u64 0, .int .u64 0, .int .u64 0] 52) (.cells #[.int .u64 0, .int .u64 0, .int .u64 0, .int .u64 0, .int .u64 0] 52)); have fb := Below.row B5 (heap_alloc2_new W1 (.cells #[.int .u64 0, .int .u64 0, .int .u64 0, .int .u64 0, .int .u64 0] 52) (.cells #[.int .u64 0, .int .u64 0, .int .u64 0, .int .u64 0, .int .u64 0] 52))) | (have fa := Below.row B5 (heap_alloc_new W1 (.cells #[.int .u64 0, .int .u64 0, .int .u64 0, .int .u64 0, .int .u64 0] 52))) | skip)
        | (go_at_call_of 31 rb; refine (unhide CB _).mono ?_; rintro e w6 ⟨rfl, B6⟩; have e6 : Below W1.heap.size W1 w6 := (by refine bthen ?_ B6; (repeat (first | (with_reducible exact Below.refl _ _) | (with_reducible refine Below.drew ?_) | (with_reducible refine alloc_then ?_) | (with_reducible exact e5)))); have l6 := e6.size; first | (have rc := Below.row B6 fa; have rd := Below.row B6 fb; have n1 := lt_of_row rc; have n2 := lt_of_row rd; have c := vcells rc; have d := vcells rd) | (have rc := Below.row B6 (Below.row (alloc_below w5 (.cells #[.int .u64 0, .int .u64 0, .int .u64 0, .int .u64 0, .int .u64 0] 52)) fa); have rd := Below.row B6 (heap_alloc_new w5 (.cells #[.int .u64 0, .int .u64 0, .int .u64 0, .int .u64 0, .int .u64 0] 52)); have n1 := lt_of_row rc; have n2 := lt_of_row rd; have n5 := Nat.ne_of_lt (lt_of_row fa); have n6 := Nat.ne_of_gt (lt_of_row fa); have c := vcells rc; have d := vcells rd) | (have rc := Below.row B6 fa; have n1 := lt_of_row rc; have c := vcells rc; have k1 := vcells (Below.row (alloc_below w6 (.cells #[.int .u64 0, .int .u64 0, .int .u64 0, .int .u64 0, .int .u64 0] 52)) rc); have k2 := vcells (Below.row (alloc_below w6 (.cells #[.int .u64 ((p 0 : Nat) : Int), .int .u64 ((p 1 : Nat) : Int), .int .u64 ((p 2 : Nat) : Int), .int .u64 ((p 3 : Nat) : Int), .int .u64 ((p 4 : Nat) : Int)] 52)) rc); have k3 := vcells (Below.row (alloc_below w6 (.cells #[.int .u64 ((q 0 : Nat) : Int), .int .u64 ((q 1 : Nat) : Int), .int .u64 ((q 2 : Nat) : Int), .int .u64 ((q 3 : Nat) : Int), .int .u64 ((q 4 : Nat) : Int)] 52)) rc); have n3 := Nat.ne_of_lt n1; have n4 := Nat.ne_of_gt n1) | (have rc := Below.row B6 (heap_alloc2_old w5 (.cells #[.int .u64 0, .int .u64 0, .int .u64 0, .int .u64 0, .int .u64 0] 52) (.cells #[.int .u64 0, .int .u64 0, .int .u64 0, .int .u64 0, .int .u64 0] 52)); have rd := Below.row B6 (heap_alloc2_new w5 (.cells #[.int .u64 0, .int .u64 0, .int .u64 0, .int .u64 0, .int .u64 0] 52) (.cells #[.int .u64 0, .int .u64 0, .int .u64 0, .int .u64 0, .int .u64 0] 52)); have n1 := lt_of_row rc; have n2 := lt_of_row rd; have c := vcells rc; have d := vcells rd) | (have rc := Below.row B6 (heap_alloc_new w5 (.cells #[.int .u64 0, .int .u64 0, .int .u64 0, .int .u64 0, .int .u64 0] 52)); have n1 := lt_of_row rc; have c := vcells rc; have k1 := vcells (Below.row (alloc_below w6 (.cells #[.int .u64 0, .int .u64 0, .int .u64 0, .int .u64 0, .int .u64 0] 52)) rc); have k2 := vcells (Below.row (alloc_below w6 (.cells #[.int .u64 ((p 0 : Nat) : Int), .int .u64 ((p 1 : Nat) : Int), .int .u64 ((p 2 : Nat) : Int), .int .u64 ((p 3 : Nat) : Int), .int .u64 ((p 4 : Nat) : Int)] 52)) rc); have k3 := vcells (Below.row (alloc_below w6 (.cells #[.int .u64 ((q 0 : Nat) : Int), .int .u64 ((q 1 : Nat) : Int), .int .u64 ((q 2 : Nat) : Int), .int .u64 ((q 3 : Nat) : Int), .int .u64 ((q 4 : Nat) : Int)] 52)) rc); have n3 := Nat.ne_of_lt n1; have n4 := Nat.ne_of_gt n1) | skip)))
    all_goals
      go_wp2_with fail
      go_meet
      refine ⟨_, _, rfl, rfl, ?_⟩
      first
        | (with_reducible refine twop_set e6 ?_ ?_ ?_ ?_ ?_; omega; omega; (first | with_reducible exact rc | with_reducible exact rd); (first | with_reducible exact rd | with_reducible exact rc); omega)
        | (with_reducible refine twop_left e6 ?_ rc; omega)
        | (with_reducible refine twop_right e6 ?_ rc; omega)
        | (with_reducible exact ⟨alloc_then (alloc_then e6), heap_alloc2_old w6 _ _, heap_alloc2_new w6 _ _⟩)
        | (with_reducible exact ⟨alloc_then (alloc_then e6), heap_alloc2_new w6 _ _, heap_alloc2_old w6 _ _⟩)
  case rest =>
    obtain ⟨X, Y, rfl, rfl, TT⟩ := hcut
    have hb := bthen (unhide HB0) TT.below
    have cx := row_cells TT.x
    have cy := row_cells TT.y
    obtain ⟨x0, x1, x2, x3, x4, -⟩ := vcells TT.x
    obtain ⟨y0, y1, y2, y3, y4, -⟩ := vcells TT.y
    have HB := hide hb
    have CX := hide cx
    have CY := hide cy
    clear cx cy hb TT HB0
    rcases (unhide HK) with ⟨rfl, rfl⟩ | ⟨rfl, k, hk5, heq, hne⟩
    · clear HK CX CY
      go_wp2_with fail
      go_ret
      exact ⟨rfl, unhide HB⟩
    · clear HK
      have HE := hide heq
      have HN := hide hne
      clear heq hne
      go_wp2_with fail
      go_loopw [7] (fun a wr => ∃ i : Nat, a = .int .i64 i ∧ i ≤ k ∧ Below w.heap.size w wr ∧ (∀ i, i < 5 → wr.cell? ⟨X, i, none⟩ = some (.int .u64 ((p i : Nat) : Int))) ∧ ∀ i, i < 5 → wr.cell? ⟨Y, i, none⟩ = some (.int .u64 ((q i : Nat) : Int))) (fun a _ => (k - intOf a).toNat)
      case atStart => exact ⟨0, rfl, Nat.zero_le _, unhide HB, unhide CX, unhide CY⟩
      case round =>
        obtain ⟨i, rfl, hi, hb, cx, cy⟩ := hrel
        have HB2 := hide hb
        have CX2 := hide cx
        have CY2 := hide cy
        have c1 := cx i (by omega)
        have c2 := cy i (by omega)
        have i5 : i < 5 := by omega
        clear hb cx cy HB CX CY x0 x1 x2 x3 x4 y0 y1 y2 y3 y4
        by_cases hik : i < k
        · have e := unhide HE i hik
          rw [← e] at c2
          clear e
          generalize ((p i : Nat) : Int) = u at *
          go_wp2_with fail
          go_quiet (fail)
          go_wp2_with fail
          go_roundw
          case rel => exact ⟨i + 1, by go_num, by omega, below_drewN (unhide HB2) _, fun j hj => unhide CX2 j hj, fun j hj => unhide CY2 j hj⟩
          case measure => simp [intOf]; omega
        · obtain rfl : i = k := by omega
          clear hik HE CX2 CY2
          rcases (unhide HN) with ⟨hl, rfl⟩ | ⟨hl, rfl⟩
          · have dl : decide (((p i : Nat) : Int) < ((q i : Nat) : Int)) = true := decide_eq_true (by omega)
            have dn : (((p i : Nat) : Int) == ((q i : Nat) : Int)) = false := by simp; omega
            clear hl HN
            generalize ((p i : Nat) : Int) = u at *
            generalize ((q i : Nat) : Int) = v at *
            go_wp2_with fail
            go_quiet (fail)
            go_wp2_with fail
            go_quiet (fail)
            go_wp2_with fail
            go_ret
            exact ⟨rfl, below_drewN (below_drewN (unhide HB2) _) _⟩
          · have dl : decide (((p i : Nat) : Int) < ((q i : Nat) : Int)) = false := decide_eq_false (by omega)
            have dn : (((p i : Nat) : Int) == ((q i : Nat) : Int)) = false := by simp; omega
            clear hl HN
            generalize ((p i : Nat) : Int) = u at *
            generalize ((q i : Nat) : Int) = v at *
            go_wp2_with fail
            go_quiet (fail)
            go_wp2_with fail
            go_quiet (fail)
            go_wp2_with fail
            go_ret
            exact ⟨rfl, below_drewN (below_drewN (unhide HB2) _) _⟩
theorem vcmp_any (a b : Vc) (w : World) (ha : a.fits) (hb : b.fits) : Calls Try.prog 20 #[a.val, b.val] w fun e w' => e = .returned (.int .i64 (a.cmp b)) ∧ Below w.heap.size w w' := by
  refine cmp_at a.root a.cost a.bridge a.port a.on b.root b.cost b.bridge b.port b.on a.part b.part (a.cmp b) _ w rfl ?_ (hide fun W => partsOf_any a W ha) (hide fun W => partsOf_any b W hb)
  by_cases h : a = b
  · subst h
    refine .inl ⟨by simp, ?_⟩
    exact (cmp_one ha ha).2 rfl
  · refine .inr ⟨decide_eq_false fun q => h ((part_one ha hb).2 fun i hi => ?_), ?_⟩
    · obtain ⟨q0, q1, q2, q3, q4⟩ := q
      match i, hi with
      | 0, _ => exact Int.ofNat.inj q0
      | 1, _ => exact Int.ofNat.inj q1
      | 2, _ => exact Int.ofNat.inj q2
      | 3, _ => exact Int.ofNat.inj q3
      | 4, _ => exact Int.ofNat.inj q4
    · obtain ⟨k, hk, h1, h2⟩ := part_first ha hb h
      have h3 := cmp_part ha hb hk h1 h2
      refine ⟨k, hk, h1, ?_⟩
      by_cases hl : a.part k < b.part k
      · rw [if_pos hl] at h3; exact .inl ⟨hl, h3⟩
      · rw [if_neg hl] at h3; exact .inr ⟨by omega, h3⟩
end Go.Proofs.Ytagfaaciakbnbaa
