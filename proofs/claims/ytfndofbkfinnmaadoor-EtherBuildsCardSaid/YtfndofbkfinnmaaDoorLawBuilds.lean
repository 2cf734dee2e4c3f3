/-
  gangwaylaw04.EtherBuilds answers true, for every frame and every tag.
-/
import Derived.Test.YtfndofbkfinnmaaDoorFrame4
import Derived.Test.YtfndofbkfinnmaaDoorRef4d
import Derived.Deep.RegionHeld3
import Derived.Deep.DeepCutAuto
namespace Go.Proofs.YtfndofbkfinnmaaDoor.etherBuilds
open Go.ChangeShapes Go.WideShapes Go.ChangeAt Go.RowKit Go.Sort

theorem keep12 {W W' : World} {N M : Nat} {a0 a1 a2 a3 a4 a5 a6 a7 t0 t1 t2 t3 : Value} (b : Below W.heap.size W W')
    (h : W.cell? ⟨N, 0, none⟩ = some a0 ∧ W.cell? ⟨N, 1, none⟩ = some a1 ∧ W.cell? ⟨N, 2, none⟩ = some a2 ∧ W.cell? ⟨N, 3, none⟩ = some a3 ∧ W.cell? ⟨N, 4, none⟩ = some a4 ∧ W.cell? ⟨N, 5, none⟩ = some a5 ∧ W.cell? ⟨N, 6, none⟩ = some a6 ∧ W.cell? ⟨N, 7, none⟩ = some a7 ∧ W.cell? ⟨M, 0, none⟩ = some t0 ∧ W.cell? ⟨M, 1, none⟩ = some t1 ∧ W.cell? ⟨M, 2, none⟩ = some t2 ∧ W.cell? ⟨M, 3, none⟩ = some t3) :
    W'.cell? ⟨N, 0, none⟩ = some a0 ∧ W'.cell? ⟨N, 1, none⟩ = some a1 ∧ W'.cell? ⟨N, 2, none⟩ = some a2 ∧ W'.cell? ⟨N, 3, none⟩ = some a3 ∧ W'.cell? ⟨N, 4, none⟩ = some a4 ∧ W'.cell? ⟨N, 5, none⟩ = some a5 ∧ W'.cell? ⟨N, 6, none⟩ = some a6 ∧ W'.cell? ⟨N, 7, none⟩ = some a7 ∧ W'.cell? ⟨M, 0, none⟩ = some t0 ∧ W'.cell? ⟨M, 1, none⟩ = some t1 ∧ W'.cell? ⟨M, 2, none⟩ = some t2 ∧ W'.cell? ⟨M, 3, none⟩ = some t3 := by
  obtain ⟨h0, h1, h2, h3, h4, h5, h6, h7, k0, k1, k2, k3⟩ := h
  exact ⟨(b.cell (block_lt_of_cell h0)).trans h0, (b.cell (block_lt_of_cell h1)).trans h1, (b.cell (block_lt_of_cell h2)).trans h2, (b.cell (block_lt_of_cell h3)).trans h3, (b.cell (block_lt_of_cell h4)).trans h4, (b.cell (block_lt_of_cell h5)).trans h5, (b.cell (block_lt_of_cell h6)).trans h6, (b.cell (block_lt_of_cell h7)).trans h7,
    (b.cell (block_lt_of_cell k0)).trans k0, (b.cell (block_lt_of_cell k1)).trans k1, (b.cell (block_lt_of_cell k2)).trans k2, (b.cell (block_lt_of_cell k3)).trans k3⟩
theorem keepB {W W' : World} {N M : Nat} {a0 a1 a2 a3 a4 a5 a6 a7 t0 t1 t2 t3 : Value} (b : Below W.heap.size W W')
    (h : Hid (W.cell? ⟨N, 0, none⟩ = some a0 ∧ W.cell? ⟨N, 1, none⟩ = some a1 ∧ W.cell? ⟨N, 2, none⟩ = some a2 ∧ W.cell? ⟨N, 3, none⟩ = some a3 ∧ W.cell? ⟨N, 4, none⟩ = some a4 ∧ W.cell? ⟨N, 5, none⟩ = some a5 ∧ W.cell? ⟨N, 6, none⟩ = some a6 ∧ W.cell? ⟨N, 7, none⟩ = some a7 ∧ W.cell? ⟨M, 0, none⟩ = some t0 ∧ W.cell? ⟨M, 1, none⟩ = some t1 ∧ W.cell? ⟨M, 2, none⟩ = some t2 ∧ W.cell? ⟨M, 3, none⟩ = some t3)) :
    W'.cell? ⟨N, 0, none⟩ = some a0 ∧ W'.cell? ⟨N, 1, none⟩ = some a1 ∧ W'.cell? ⟨N, 2, none⟩ = some a2 ∧ W'.cell? ⟨N, 3, none⟩ = some a3 ∧ W'.cell? ⟨N, 4, none⟩ = some a4 ∧ W'.cell? ⟨N, 5, none⟩ = some a5 ∧ W'.cell? ⟨N, 6, none⟩ = some a6 ∧ W'.cell? ⟨N, 7, none⟩ = some a7 ∧ W'.cell? ⟨M, 0, none⟩ = some t0 ∧ W'.cell? ⟨M, 1, none⟩ = some t1 ∧ W'.cell? ⟨M, 2, none⟩ = some t2 ∧ W'.cell? ⟨M, 3, none⟩ = some t3 := keep12 b h
theorem row1 {W W' : World} {o : Obj} (b : Below (W.alloc o).drew.heap.size (W.alloc o).drew W') : W'.heap[W.heap.size]? = some o := Below.row b (heap_alloc_new W o)
theorem row2a {W W' : World} {o p : Obj} (b : Below ((W.alloc o).alloc p).drew.heap.size ((W.alloc o).alloc p).drew W') : W'.heap[W.heap.size]? = some o := Below.row b (heap_alloc2_old W o p)
theorem row2b {W W' : World} {o p : Obj} (b : Below ((W.alloc o).alloc p).drew.heap.size ((W.alloc o).alloc p).drew W') : W'.heap[W.heap.size + 1]? = some p := Below.row b (heap_alloc2_new W o p)
/-- what lies in memory behind the frame's two copies -/
structure Two (w : World) (f t x y : Array Value) (X Y : Nat) (W : World) : Prop where
  below : Below w.heap.size w W
  f : W.heap[w.heap.size]? = some (.cells f 26 (0, 0))
  t : W.heap[w.heap.size + 1]? = some (.cells t 24 (0, 0))
  x : W.heap[X]? = some (.cells x 26 (0, 0))
  y : W.heap[Y]? = some (.cells y 26 (0, 0))
  ne : X ≠ Y
  lx : w.heap.size + 2 ≤ X
  ly : w.heap.size + 2 ≤ Y
theorem two_of {w w2 W : World} {f t x y : Array Value} {X Y : Nat} (z : Below w.heap.size w w2) (hN : w2.heap[w.heap.size]? = some (.cells f 26 (0, 0))) (hM : w2.heap[w.heap.size + 1]? = some (.cells t 24 (0, 0))) (b : Below w2.heap.size w2 W)
    (hx : W.heap[X]? = some (.cells x 26 (0, 0))) (hy : W.heap[Y]? = some (.cells y 26 (0, 0))) (hne : X ≠ Y) (lx : w2.heap.size ≤ X) (ly : w2.heap.size ≤ Y) : Two w f t x y X Y W :=
  ⟨bthen z b, Below.row b hN, Below.row b hM, hx, hy, hne, Nat.le_trans (lt_of_row hM) lx, Nat.le_trans (lt_of_row hM) ly⟩
theorem other8 {W : World} {g k : Nat} {v0 v1 v2 v3 v4 v5 v6 v7 : Value} {o : Obj} (h : k ≠ g) (hk : W.heap[k]? = some o) :
    ((((((((W.setCell ⟨g, 0, none⟩ v0).setCell ⟨g, 1, none⟩ v1).setCell ⟨g, 2, none⟩ v2).setCell ⟨g, 3, none⟩ v3).setCell ⟨g, 4, none⟩ v4).setCell ⟨g, 5, none⟩ v5).setCell ⟨g, 6, none⟩ v6).setCell ⟨g, 7, none⟩ v7).heap[k]? = some o := by
  rw [heap_setCell_other _ ⟨g, 7, none⟩ k _ h, heap_setCell_other _ ⟨g, 6, none⟩ k _ h, heap_setCell_other _ ⟨g, 5, none⟩ k _ h, heap_setCell_other _ ⟨g, 4, none⟩ k _ h, heap_setCell_other _ ⟨g, 3, none⟩ k _ h, heap_setCell_other _ ⟨g, 2, none⟩ k _ h, heap_setCell_other _ ⟨g, 1, none⟩ k _ h, heap_setCell_other _ ⟨g, 0, none⟩ k _ h]
  exact hk
theorem other4 {W : World} {g k : Nat} {v2 v3 v4 v5 : Value} {o : Obj} (h : k ≠ g) (hk : W.heap[k]? = some o) :
    ((((W.setCell ⟨g, 2, none⟩ v2).setCell ⟨g, 3, none⟩ v3).setCell ⟨g, 4, none⟩ v4).setCell ⟨g, 5, none⟩ v5).heap[k]? = some o := by
  rw [heap_setCell_other _ ⟨g, 5, none⟩ k _ h, heap_setCell_other _ ⟨g, 4, none⟩ k _ h, heap_setCell_other _ ⟨g, 3, none⟩ k _ h, heap_setCell_other _ ⟨g, 2, none⟩ k _ h]
  exact hk
theorem below4 {B : Nat} {a W : World} {g : Nat} {v2 v3 v4 v5 : Value} (h : Below B a W) (hg : B ≤ g) : Below B a ((((W.setCell ⟨g, 2, none⟩ v2).setCell ⟨g, 3, none⟩ v3).setCell ⟨g, 4, none⟩ v4).setCell ⟨g, 5, none⟩ v5) :=
  (((h.setCell (p := ⟨g, 2, none⟩) hg v2).setCell (p := ⟨g, 3, none⟩) hg v3).setCell (p := ⟨g, 4, none⟩) hg v4).setCell (p := ⟨g, 5, none⟩) hg v5
theorem size4 {W : World} {g : Nat} {v2 v3 v4 v5 : Value} : ((((W.setCell ⟨g, 2, none⟩ v2).setCell ⟨g, 3, none⟩ v3).setCell ⟨g, 4, none⟩ v4).setCell ⟨g, 5, none⟩ v5).heap.size = W.heap.size := by simp [World.setCell]
set_option maxRecDepth 20000 in
set_option maxHeartbeats 4000000 in
theorem walk_at (d s : Int) (has : Bool) (pri : Int) (dei : Bool) (vid ty : Int) (b : ByteArray) (has2 : Bool) (pri2 : Int) (dei2 : Bool) (vid2 : Int) (A S : ByteArray) (i : Nat) (c : Int) (w : World) (hg : Et w)
    (mb : ∀ (ts : Array TypeId) (t : TypeId) (W : World), (Builtin.min_ ts t #[.int .i64 (b.size : Int), .int .i64 1700]).run Tryd.prog W = .ok (.int .i64 (i : Int)) W)
    (sb : ∀ W : World, (Instr.slice 9 (.string b) none (some (.int .i64 (i : Int))) none).run Tryd.prog W = .ok (.string A) W)
    (B : Hid (∀ W, Et W → Calls Tryd.prog 8 #[.agg #[.int .u64 d, .int .u64 s, .bool has, .int .i64 pri, .bool dei, .int .i64 vid, .int .i64 ty, .string A]] W fun e W' => e = .returned (.tuple #[.string S, .int .i64 c]) ∧ Below W.heap.size W W'))
    (B2 : Hid (∀ W, Calls Tryd.prog 9 #[.agg #[.int .u64 d, .int .u64 s, .bool has, .int .i64 pri, .bool dei, .int .i64 vid, .int .i64 ty, .string A]] W fun e W' => e = .returned (.tuple #[.string S, .int .i64 c]) ∧ Below W.heap.size W W'))
    (C : Hid (∀ W, Et W → Calls Tryd.prog 12 #[.agg #[.int .u64 d, .int .u64 s, .bool has, .int .i64 pri, .bool dei, .int .i64 vid, .int .i64 ty, .string A]] W fun e W' => e = .returned (.int .i64 c) ∧ Below W.heap.size W W'))
    (C2 : Hid (∀ W, Calls Tryd.prog 13 #[.agg #[.int .u64 d, .int .u64 s, .bool has, .int .i64 pri, .bool dei, .int .i64 vid, .int .i64 ty, .string A]] W fun e W' => e = .returned (.int .i64 c) ∧ Below W.heap.size W W')) :
    Calls Tryd.prog 3 #[.agg #[.int .u64 d, .int .u64 s, .bool has, .int .i64 pri, .bool dei, .int .i64 vid, .int .i64 ty, .string b], .agg #[.bool has2, .int .i64 pri2, .bool dei2, .int .i64 vid2]] w fun e w' => e = .returned (.bool true) ∧ Below w.heap.size w w' := by
  go_enter Tryd.func3, Tryd.ntmps3
  go_wp2_with fail
  have z0 := alloc_then (o := .cells #[.bool has2, .int .i64 pri2, .bool dei2, .int .i64 vid2] 24) (alloc_below w (.cells #[.int .u64 d, .int .u64 s, .bool has, .int .i64 pri, .bool dei, .int .i64 vid, .int .i64 ty, .string A] 26))
  have hN0 := heap_alloc2_old w (.cells #[.int .u64 d, .int .u64 s, .bool has, .int .i64 pri, .bool dei, .int .i64 vid, .int .i64 ty, .string A] 26) (.cells #[.bool has2, .int .i64 pri2, .bool dei2, .int .i64 vid2] 24)
  have hM0 := heap_alloc2_new w (.cells #[.int .u64 d, .int .u64 s, .bool has, .int .i64 pri, .bool dei, .int .i64 vid, .int .i64 ty, .string A] 26) (.cells #[.bool has2, .int .i64 pri2, .bool dei2, .int .i64 vid2] 24)
  refine (unhide B _ (hg.next z0)).mono ?_
  rintro e w1 ⟨rfl, b1⟩
  have z1 := bthen z0 b1
  have hN1 := Below.row b1 hN0
  have hM1 := Below.row b1 hM0
  clear b1 z0 hN0 hM0 B
  obtain ⟨c0, c1, c2, c3, c4, c5, c6, c7, _⟩ := cells8 hN1
  go_wp2_with fail
  refine (unhide B2 _).mono ?_
  rintro e w2 ⟨rfl, b2⟩
  have z2 := bthen z1 b2
  have hN2 := Below.row b2 hN1
  have hM2 := Below.row b2 hM1
  clear b2 z1 hN1 hM1 B2 c0 c1 c2 c3 c4 c5 c6 c7
  obtain ⟨c0, c1, c2, c3, c4, c5, c6, c7, _⟩ := cells8 hN2
  have m0 := cell_of_row w2 (w.heap.size + 1) 0 _ _ _ hM2
  have m1 := cell_of_row w2 (w.heap.size + 1) 1 _ _ _ hM2
  have m2 := cell_of_row w2 (w.heap.size + 1) 2 _ _ _ hM2
  have m3 := cell_of_row w2 (w.heap.size + 1) 3 _ _ _ hM2
  simp only [List.getElem?_toArray, List.getElem?_cons_zero, List.getElem?_cons_succ] at m0 m1 m2 m3
  have hS := hide (And.intro c0 (And.intro c1 (And.intro c2 (And.intro c3 (And.intro c4 (And.intro c5 (And.intro c6 (And.intro c7 (And.intro m0 (And.intro m1 (And.intro m2 m3)))))))))))
  go_upto_region 4 with fail
  go_cut [9, 10] (fun x y wx => ∃ X Y : Nat, x = .pointer (some ⟨X, 0, none⟩) ∧ y = .pointer (some ⟨Y, 0, none⟩) ∧ Two w #[.int .u64 d, .int .u64 s, .bool has, .int .i64 pri, .bool dei, .int .i64 vid, .int .i64 ty, .string A] #[.bool has2, .int .i64 pri2, .bool dei2, .int .i64 vid2] #[.int .u64 d, .int .u64 s, .bool has2, .int .i64 pri2, .bool dei2, .int .i64 vid2, .int .i64 ty, .string A] #[.int .u64 d, .int .u64 s, .bool has, .int .i64 pri, .bool dei, .int .i64 vid, .int .i64 ty, .string A] X Y wx)
  case first =>
    go_region_held3 (fun w' => w'.cell? ⟨w.heap.size, 0, none⟩ = some (.int .u64 d) ∧ w'.cell? ⟨w.heap.size, 1, none⟩ = some (.int .u64 s) ∧ w'.cell? ⟨w.heap.size, 2, none⟩ = some (.bool has) ∧ w'.cell? ⟨w.heap.size, 3, none⟩ = some (.int .i64 pri) ∧ w'.cell? ⟨w.heap.size, 4, none⟩ = some (.bool dei) ∧ w'.cell? ⟨w.heap.size, 5, none⟩ = some (.int .i64 vid) ∧ w'.cell? ⟨w.heap.size, 6, none⟩ = some (.int .i64 ty) ∧ w'.cell? ⟨w.heap.size, 7, none⟩ = some (.string A) ∧ w'.cell? ⟨w.heap.size + 1, 0, none⟩ = some (.bool has2) ∧ w'.cell? ⟨w.heap.size + 1, 1, none⟩ = some (.int .i64 pri2) ∧ w'.cell? ⟨w.heap.size + 1, 2, none⟩ = some (.bool dei2) ∧ w'.cell? ⟨w.heap.size + 1, 3, none⟩ = some (.int .i64 vid2)) ((refine keepB ?_ hS; repeat (first | (with_reducible exact Below.refl _ _) | (with_reducible refine Below.drew ?_) | (with_reducible refine alloc_then ?_) | (with_reducible refine Below.setCell ?_ (by first | (show w2.heap.size ≤ w5.heap.size; exact l5) | (show w2.heap.size ≤ w2.heap.size; exact Nat.le_refl _) | (show w2.heap.size ≤ w2.heap.size + 1; exact Nat.le_succ _)) _) | (with_reducible refine bthen ?_ B5)))) ((go_at_call 10; refine (tagged_any d s has pri dei vid ty A has2 pri2 dei2 vid2 _).mono ?_; rintro e5 w5 ⟨rfl, B5⟩; first | (have r1 := row2a B5; have r2 := row2b B5; obtain ⟨x0, x1, x2, x3, x4, x5, x6, x7, u0, u1, u2, u3, u4, u5, u6, u7⟩ := cells8 r1; obtain ⟨y0, y1, y2, y3, y4, y5, y6, y7, v0, v1, v2, v3, v4, v5, v6, v7⟩ := cells8 r2) | (have r1 := row1 B5; have n1 := Nat.ne_of_lt (lt_of_row r1); have n2 := Nat.ne_of_gt (lt_of_row r1); have l5 := Nat.le_of_lt (lt_of_row r1); have r3 := Below.row (alloc_below w5 (.cells #[.int .u64 0, .int .u64 0, .bool false, .int .i64 0, .bool false, .int .i64 0, .int .i64 0, .string ⟨#[]⟩] 26)) r1; have r4 := Below.row (alloc_below w5 (.cells #[.int .u64 d, .int .u64 s, .bool has2, .int .i64 pri2, .bool dei2, .int .i64 vid2, .int .i64 ty, .string A] 26)) r1; obtain ⟨x0, x1, x2, x3, x4, x5, x6, x7, u0, u1, u2, u3, u4, u5, u6, u7⟩ := cells8 r3; obtain ⟨y0, y1, y2, y3, y4, y5, y6, y7, v0, v1, v2, v3, v4, v5, v6, v7⟩ := cells8 r4; clear r3 r4) | skip))
    all_goals
      go_wp2_with fail
      go_meet
    · exact ⟨_, _, rfl, rfl, two_of z2 hN2 hM2 (by repeat (first | (with_reducible exact Below.refl _ _) | (with_reducible refine Below.drew ?_) | (with_reducible refine alloc_then ?_) | (with_reducible refine Below.setCell ?_ (by first | (show w2.heap.size ≤ w5.heap.size; exact l5) | (show w2.heap.size ≤ w2.heap.size; exact Nat.le_refl _) | (show w2.heap.size ≤ w2.heap.size + 1; exact Nat.le_succ _)) _) | (with_reducible refine bthen ?_ B5))) (heap_alloc2_old _ _ _) (heap_alloc2_new _ _ _) (Nat.ne_of_lt (Nat.lt_succ_self _)) B5.size (Nat.le_succ_of_le B5.size)⟩
    · exact ⟨_, _, rfl, rfl, two_of z2 hN2 hM2 (by repeat (first | (with_reducible exact Below.refl _ _) | (with_reducible refine Below.drew ?_) | (with_reducible refine alloc_then ?_) | (with_reducible refine Below.setCell ?_ (by first | (show w2.heap.size ≤ w5.heap.size; exact l5) | (show w2.heap.size ≤ w2.heap.size; exact Nat.le_refl _) | (show w2.heap.size ≤ w2.heap.size + 1; exact Nat.le_succ _)) _) | (with_reducible refine bthen ?_ B5))) (heap_alloc2_new _ _ _) (heap_alloc2_old _ _ _) (Nat.ne_of_gt (Nat.lt_succ_self _)) (Nat.le_succ_of_le B5.size) B5.size⟩
    · have r3 := Below.row (alloc_below w5 (.cells #[.int .u64 0, .int .u64 0, .bool false, .int .i64 0, .bool false, .int .i64 0, .int .i64 0, .string ⟨#[]⟩] 26)) r1
      exact ⟨_, _, rfl, rfl, two_of z2 hN2 hM2 (by repeat (first | (with_reducible exact Below.refl _ _) | (with_reducible refine Below.drew ?_) | (with_reducible refine alloc_then ?_) | (with_reducible refine Below.setCell ?_ (by first | (show w2.heap.size ≤ w5.heap.size; exact l5) | (show w2.heap.size ≤ w2.heap.size; exact Nat.le_refl _) | (show w2.heap.size ≤ w2.heap.size + 1; exact Nat.le_succ _)) _) | (with_reducible refine bthen ?_ B5))) (other8 n1 (set8 r3)) (set8 (other8 n2 (heap_alloc_new w5 _))) n1 (Nat.le_refl _) l5⟩
    · exact ⟨_, _, rfl, rfl, two_of z2 hN2 hM2 (by repeat (first | (with_reducible exact Below.refl _ _) | (with_reducible refine Below.drew ?_) | (with_reducible refine alloc_then ?_) | (with_reducible refine Below.setCell ?_ (by first | (show w2.heap.size ≤ w5.heap.size; exact l5) | (show w2.heap.size ≤ w2.heap.size; exact Nat.le_refl _) | (show w2.heap.size ≤ w2.heap.size + 1; exact Nat.le_succ _)) _) | (with_reducible refine bthen ?_ B5))) (other8 (Nat.ne_of_lt (Nat.lt_succ_self _)) (set8 r1)) (set8 (other8 (Nat.ne_of_gt (Nat.lt_succ_self _)) r2)) (Nat.ne_of_lt (Nat.lt_succ_self _)) (Nat.le_refl _) (Nat.le_succ _)⟩
    · have r4 := Below.row (alloc_below w5 (.cells #[.int .u64 d, .int .u64 s, .bool has2, .int .i64 pri2, .bool dei2, .int .i64 vid2, .int .i64 ty, .string A] 26)) r1
      exact ⟨_, _, rfl, rfl, two_of z2 hN2 hM2 (by repeat (first | (with_reducible exact Below.refl _ _) | (with_reducible refine Below.drew ?_) | (with_reducible refine alloc_then ?_) | (with_reducible refine Below.setCell ?_ (by first | (show w2.heap.size ≤ w5.heap.size; exact l5) | (show w2.heap.size ≤ w2.heap.size; exact Nat.le_refl _) | (show w2.heap.size ≤ w2.heap.size + 1; exact Nat.le_succ _)) _) | (with_reducible refine bthen ?_ B5))) (other8 n2 (heap_alloc_new w5 _)) (set8 r4) n2 l5 (Nat.le_refl _)⟩
    · exact ⟨_, _, rfl, rfl, two_of z2 hN2 hM2 (by repeat (first | (with_reducible exact Below.refl _ _) | (with_reducible refine Below.drew ?_) | (with_reducible refine alloc_then ?_) | (with_reducible refine Below.setCell ?_ (by first | (show w2.heap.size ≤ w5.heap.size; exact l5) | (show w2.heap.size ≤ w2.heap.size; exact Nat.le_refl _) | (show w2.heap.size ≤ w2.heap.size + 1; exact Nat.le_succ _)) _) | (with_reducible refine bthen ?_ B5))) (other8 (Nat.ne_of_gt (Nat.lt_succ_self _)) (set8 r2)) (set8 (other8 (Nat.ne_of_lt (Nat.lt_succ_self _)) r1)) (Nat.ne_of_gt (Nat.lt_succ_self _)) (Nat.le_succ _) (Nat.le_refl _)⟩
  case rest =>
    obtain ⟨X, Y, rfl, rfl, T⟩ := hcut
    clear c0 c1 c2 c3 c4 c5 c6 c7 m0 m1 m2 m3 hS hN2 hM2
    obtain ⟨y0, y1, y2, y3, y4, y5, y6, y7, v0, v1, v2, v3, v4, v5, v6, v7⟩ := cells8 T.y
    have m0 := cell_of_row wc (w.heap.size + 1) 0 _ _ _ T.t
    have m1 := cell_of_row wc (w.heap.size + 1) 1 _ _ _ T.t
    have m2 := cell_of_row wc (w.heap.size + 1) 2 _ _ _ T.t
    have m3 := cell_of_row wc (w.heap.size + 1) 3 _ _ _ T.t
    simp only [List.getElem?_toArray, List.getElem?_cons_zero, List.getElem?_cons_succ] at m0 m1 m2 m3
    go_wp2_with fail
    have lx := T.lx
    have ly := T.ly
    have dN := Below.row (alloc_below ((((wc.setCell ⟨Y, 2, none⟩ (.bool has2)).setCell ⟨Y, 3, none⟩ (.int .i64 pri2)).setCell ⟨Y, 4, none⟩ (.bool dei2)).setCell ⟨Y, 5, none⟩ (.int .i64 vid2)) (.cells #[.int .u64 d, .int .u64 s, .bool false, .int .i64 0, .bool false, .int .i64 0, .int .i64 ty, .string A] 26)) (other4 (g := Y) (by omega) T.f)
    have dX := Below.row (alloc_below ((((wc.setCell ⟨Y, 2, none⟩ (.bool has2)).setCell ⟨Y, 3, none⟩ (.int .i64 pri2)).setCell ⟨Y, 4, none⟩ (.bool dei2)).setCell ⟨Y, 5, none⟩ (.int .i64 vid2)) (.cells #[.int .u64 d, .int .u64 s, .bool false, .int .i64 0, .bool false, .int .i64 0, .int .i64 ty, .string A] 26)) (other4 (g := Y) T.ne T.x)
    have dY := Below.row (alloc_below ((((wc.setCell ⟨Y, 2, none⟩ (.bool has2)).setCell ⟨Y, 3, none⟩ (.int .i64 pri2)).setCell ⟨Y, 4, none⟩ (.bool dei2)).setCell ⟨Y, 5, none⟩ (.int .i64 vid2)) (.cells #[.int .u64 d, .int .u64 s, .bool false, .int .i64 0, .bool false, .int .i64 0, .int .i64 ty, .string A] 26)) (setTag T.y)
    have dZ := heap_last ((((wc.setCell ⟨Y, 2, none⟩ (.bool has2)).setCell ⟨Y, 3, none⟩ (.int .i64 pri2)).setCell ⟨Y, 4, none⟩ (.bool dei2)).setCell ⟨Y, 5, none⟩ (.int .i64 vid2)) (.cells #[.int .u64 d, .int .u64 s, .bool false, .int .i64 0, .bool false, .int .i64 0, .int .i64 ty, .string A] 26) wc.heap.size size4
    have hb : Below w.heap.size w (((((wc.setCell ⟨Y, 2, none⟩ (.bool has2)).setCell ⟨Y, 3, none⟩ (.int .i64 pri2)).setCell ⟨Y, 4, none⟩ (.bool dei2)).setCell ⟨Y, 5, none⟩ (.int .i64 vid2)).alloc (.cells #[.int .u64 d, .int .u64 s, .bool false, .int .i64 0, .bool false, .int .i64 0, .int .i64 ty, .string A] 26)) := alloc_then (below4 T.below (by omega))
    clear T y0 y1 y2 y3 y4 y5 y6 y7 v0 v1 v2 v3 v4 v5 v6 v7 m0 m1 m2 m3 z2
    generalize wc.heap.size = Q at *
    generalize ((((wc.setCell ⟨Y, 2, none⟩ (.bool has2)).setCell ⟨Y, 3, none⟩ (.int .i64 pri2)).setCell ⟨Y, 4, none⟩ (.bool dei2)).setCell ⟨Y, 5, none⟩ (.int .i64 vid2)).alloc (.cells #[.int .u64 d, .int .u64 s, .bool false, .int .i64 0, .bool false, .int .i64 0, .int .i64 ty, .string A] 26) = w3 at *
    obtain ⟨n0, n1, n2, n3, n4, n5, n6, n7, _⟩ := cells8 dN
    obtain ⟨x0, x1, x2, x3, x4, x5, x6, x7, _⟩ := cells8 dX
    obtain ⟨y0, y1, y2, y3, y4, y5, y6, y7, _⟩ := cells8 dY
    obtain ⟨z0, z1, z2, z3, z4, z5, z6, z7, _⟩ := cells8 dZ
    have qn0 := cell_regrown n0
    have qn1 := cell_regrown n1
    have qn2 := cell_regrown n2
    have qn3 := cell_regrown n3
    have qn4 := cell_regrown n4
    have qn5 := cell_regrown n5
    have qn6 := cell_regrown n6
    have qn7 := cell_regrown n7
    have qx0 := cell_regrown x0
    have qx1 := cell_regrown x1
    have qx2 := cell_regrown x2
    have qx3 := cell_regrown x3
    have qx4 := cell_regrown x4
    have qx5 := cell_regrown x5
    have qx6 := cell_regrown x6
    have qx7 := cell_regrown x7
    have qy0 := cell_regrown y0
    have qy1 := cell_regrown y1
    have qy2 := cell_regrown y2
    have qy3 := cell_regrown y3
    have qy4 := cell_regrown y4
    have qy5 := cell_regrown y5
    have qy6 := cell_regrown y6
    have qy7 := cell_regrown y7
    have qz0 := cell_regrown z0
    have qz1 := cell_regrown z1
    have qz2 := cell_regrown z2
    have qz3 := cell_regrown z3
    have qz4 := cell_regrown z4
    have qz5 := cell_regrown z5
    have qz6 := cell_regrown z6
    have qz7 := cell_regrown z7
    clear dN dX dY dZ n0 n1 n2 n3 n4 n5 n6 n7 x0 x1 x2 x3 x4 x5 x6 x7 y0 y1 y2 y3 y4 y5 y6 y7 z0 z1 z2 z3 z4 z5 z6 z7
    have cF : ∀ dd os, Calls Tryd.prog 11 #[] (grow (redrawn w3 dd) os) fun e w'' => e = .returned (.bool true) ∧ ∃ p : Regrown, w'' = grow (redrawn w3 p.d) p.os := fun dd os => Calls.regrown_of (fixed_true _ (hg.next (grown_then hb dd os)))
    have cC : ∀ dd os, Calls Tryd.prog 12 #[.agg #[.int .u64 d, .int .u64 s, .bool has, .int .i64 pri, .bool dei, .int .i64 vid, .int .i64 ty, .string A]] (grow (redrawn w3 dd) os) fun e w'' => e = .returned (.int .i64 c) ∧ ∃ p : Regrown, w'' = grow (redrawn w3 p.d) p.os := fun dd os => Calls.regrown_of (unhide C _ (hg.next (grown_then hb dd os)))
    have cR := at_grown (unhide C2) w3
    have cB := at_grown (bare_any d s has2 pri2 dei2 vid2 ty A) w3
    clear C C2
    refine wp_region_quiet_below (by kernel_rfl) (by kernel_rfl) ?_
    repeat (go_big_quiet_step (first | (go_at_call 11; exact cF _ _) | (go_at_call 12; exact cC _ _) | (go_at_call 13; exact cR _ _) | (go_at_call 14; exact cB _ _)))
    refine wpQuiet_nil ?_
    rintro _ ⟨⟨dq, osq⟩, rfl⟩
    go_wp2
    go_ret
    exact ⟨rfl, grown_then hb dq osq⟩
theorem walk (d s : Nat) (has : Bool) (pri : Int) (dei : Bool) (vid ty : Int) (b : ByteArray) (has2 : Bool) (pri2 : Int) (dei2 : Bool) (vid2 : Int) (w : World) (hg : Et w) (_ : d < 18446744073709551616) (_ : s < 18446744073709551616) (_ : -9223372036854775808 ≤ pri ∧ pri ≤ 9223372036854775807) (_ : -9223372036854775808 ≤ vid ∧ vid ≤ 9223372036854775807) (_ : -9223372036854775808 ≤ ty ∧ ty ≤ 9223372036854775807) (_ : b.size ≤ maxLen) :
    Calls Tryd.prog 3 #[.agg #[.int .u64 d, .int .u64 s, .bool has, .int .i64 pri, .bool dei, .int .i64 vid, .int .i64 ty, .string b], .agg #[.bool has2, .int .i64 pri2, .bool dei2, .int .i64 vid2]] w fun e w' => e = .returned (.bool true) ∧ Below w.heap.size w w' := by
  obtain ⟨i, a, la, mb, sb⟩ := firstN 1700 b
  have B := fun (W : World) (hW : Et W) => build_any (Fr.mk d s has pri dei vid ty a) W hW (by simp only; omega)
  have B2 := fun (W : World) => rbuild_any (Fr.mk d s has pri dei vid ty a) W (by simp only; omega)
  have C := fun (W : World) (hW : Et W) => check_any d s has pri dei vid ty a W hW (by omega)
  have C2 := fun (W : World) => rcheck d s has pri dei vid ty a W (by omega)
  generalize (Fr.mk d s has pri dei vid ty a).check = c at *
  generalize (Fr.mk d s has pri dei vid ty a).built = S at *
  exact walk_at d s has pri dei vid ty b has2 pri2 dei2 vid2 (bs a) (bs S) i c w hg mb sb (hide B) (hide B2) (hide C) (hide C2)
set_option maxRecDepth 100000 in
theorem lifted (os : Os) (started : os.Started) (H : Type) (enc : TypeId × Value → H) :
    ReturnsInHanded {} Tryd.checked os 3 .any (fun w args => (Rows.etherBuildsSpec.pre enc Tryd.prog Tryd.f3 [] false w args ∧ laidMetH Tryd.prog [("errors.errorType", Rows.laid_errors_errorType)] w) ∧ sizedMet enc Tryd.prog Tryd.f3 (OpenSpec.ofChange Rows.etherBuildsSpec) false w args)
      (Rows.etherBuildsSpec.post enc Tryd.prog Tryd.f3 false true false false) := by
  refine returnsInHanded_of_change_and (C := Tryd.checked) (X := fun w _ => laidMetH Tryd.prog [("errors.errorType", Rows.laid_errors_errorType)] w) (fun _ _ _ hh h => h.of_heap hh) own started (by kernel_rfl) Tryd.func3
    (ChangeSpec.witness_at (enc := enc) (C := Tryd.checked) (os := os) (X := fun w _ => laidMetH Tryd.prog [("errors.errorType", Rows.laid_errors_errorType)] w) false
      { World.holding Tryd.prog os ⟨#[], #[], []⟩ with heap := (World.holding Tryd.prog os ⟨#[], #[], []⟩).heap.modify 0 fun
        | .cells _ t frozen => .cells #[.iface 87 (.agg #[.pointer (some ⟨1, 41, none⟩)])] t frozen
        | o => o } #[.agg #[.int .u64 0, .int .u64 0, .bool false, .int .i64 0, .bool false, .int .i64 0, .int .i64 0, .string ByteArray.empty], .agg #[.bool false, .int .i64 0, .bool false, .int .i64 0]] 8 rfl (by kernel_rfl) (by kernel_rfl) (by kernel_rfl) (by kernel_rfl) (by kernel_rfl) (laid_met os _)) ?_
  intro W base args ds gs before hval0 hW _ _ hL _
  have hval : ∀ (j : Nat) t v, Tryd.f3.params[j]? = some t → args[j]? = some v → Value.okWide Tryd.prog W .any base t v := hval0
  have hW' := hW
  obtain ⟨p, q, hA0, hV0, rfl, hfz, hnd⟩ := hW
  have hA : DataW.TrodAll enc Tryd.prog W 0 (fun _ => true) true Tryd.f3.params.toList args.toList ds p := hA0
  have hV : DataW.TrodVars enc Tryd.prog W (fun _ => true) [] gs q := hV0
  rw [Tryd.params3] at hA hval
  obtain ⟨v0, v1, d0, d1, p0, p1, rfl, rfl, rfl, h0, h1⟩ := trodAll_two hA
  obtain ⟨d0, s0, has0, pri0, dei0, vid0, ty0, b0, rfl, rfl, rfl, hd0, hs0, wa0, wb0, wp0, wv0, wt0, wz0⟩ := open_frame (hval 0 26 v0 rfl rfl) h0
  obtain ⟨has1, pri1, dei1, vid1, rfl, rfl, rfl, wp1, wv1⟩ := open_tag (hval 1 24 v1 rfl rfl) h1
  obtain ⟨rfl, rfl⟩ := trodVars_none hV
  have e1 : Rows.etherBuildsSpec.fn H ([frameD d0 s0 has0 pri0 dei0 vid0 ty0 b0, tagD has1 pri1 dei1 vid1] ++ []) = { results := [.lit (.bool true)], args := [frameD d0 s0 has0 pri0 dei0 vid0 ty0 b0, tagD has1 pri1 dei1 vid1] } := by simp [Rows.etherBuildsSpec]
  refine (walk d0 s0 has0 pri0 dei0 vid0 ty0 b0 has1 pri1 dei1 vid1 W (et_of_laid hL) hd0 hs0 (bounds_i64 wp0) (bounds_i64 wv0) (bounds_i64 wt0) wz0).mono fun e W' ⟨he, hb⟩ => ?_
  subst he
  refine ⟨_, rfl, _, _, _, [], [], [], hW', ?_, ?_, ?_, hb.frame _, fun h => by cases h⟩
  · rw [e1]; exact trodAll_mk1 (shut_bool Tryd.underlying4 true)
  · rw [e1]; exact trodAll_mk2 (shut_frame d0 s0 has0 pri0 dei0 vid0 ty0 b0 wa0 wb0 wp0 wv0 wt0 wz0) (shut_tag has1 pri1 dei1 vid1 wp1 wv1)
  · rw [e1]; rfl

theorem said : Rows.EtherBuildsSaid :=
  OpenClaim.holds_of_wide 3 Tryd.f3 rfl rfl rfl rfl rfl rfl rfl ⟨rfl, rfl, rfl, rfl, rfl⟩ rfl rfl rfl rfl rfl (by kernel_rfl) Tryd.func3 (by kernel_rfl)
    (of_decide_eq_true (by kernel_rfl)) (by unfold Func.isWrapper; rw [if_neg (of_decide_eq_false (by kernel_rfl))]; exact ⟨rfl, rfl⟩)
    (fun os started H enc _ => lifted os started H enc)

theorem plain (f : FuncId) (fn : Func) (hf : Tryd.pinned.checked.prog.funcNamed Rows.etherBuildsRow.func = some f) (hfn : Tryd.pinned.checked.prog.funcs[f]? = some fn) :
    true = Tryd.pinned.checked.prog.looks [] ∧ ∀ (j : Nat) t, fn.params[j]? = some t → Tryd.pinned.checked.prog.wantsStandIn t = false := by
  obtain rfl : f = 3 := Option.some.inj ((show Tryd.prog.funcNamed Rows.etherBuildsRow.func = some 3 by kernel_rfl).symm.trans hf) |>.symm
  obtain rfl : fn = Tryd.f3 := (Option.some.inj (Tryd.func3.symm.trans hfn)).symm
  refine ⟨by kernel_rfl, fun j t ht => ?_⟩
  rw [Tryd.params3] at ht
  have hm := Array.mem_of_getElem? ht
  simp only [List.mem_toArray, List.mem_cons, List.not_mem_nil, or_false] at hm
  rcases hm with rfl | rfl
  · exact (show Tryd.prog.wantsStandIn 26 = false by kernel_rfl)
  · exact (show Tryd.prog.wantsStandIn 24 = false by kernel_rfl)

theorem card : Rows.EtherBuildsCardSaid :=
  Claim7.holds_tied_plain_at .later [] _ _ _ _ said (fun _ h => by cases h) (by kernel_rfl) (fun _ h => by cases h) etherBuilds_row_tie rfl ⟨rfl, rfl⟩ (by kernel_rfl) rfl plain (by kernel_rfl)
end Go.Proofs.YtfndofbkfinnmaaDoor.etherBuilds
namespace Go.Proofs.YtfndofbkfinnmaaDoor
theorem etherBuilds_card_holds : Rows.EtherBuildsCardSaid := etherBuilds.card
end Go.Proofs.YtfndofbkfinnmaaDoor

