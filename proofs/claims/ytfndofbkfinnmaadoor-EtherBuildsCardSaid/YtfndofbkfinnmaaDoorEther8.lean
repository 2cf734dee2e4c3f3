/-
  The contract of ether.read: the frame of bytes, or a fault.
-/
import Derived.Test.YtfndofbkfinnmaaDoorEther7
namespace Go.Proofs.YtfndofbkfinnmaaDoor
open Go.RowKit Go.Sort

/-- what lies in memory while bytes are read -/
structure Rs (w W : World) (s : ByteArray) (a : Nat) (err : Option ByteArray) : Prop where
  below : Below w.heap.size w W
  row : W.heap[w.heap.size]? = some (.cells #[.int .u64 0, .int .u64 0, .bool false, .int .i64 0, .bool false, .int .i64 0, .int .i64 0, .string ⟨#[]⟩] 26 (0, 0))
  rd : Rd W (w.heap.size + 1) s a err
theorem lt_of_row {W : World} {g : Nat} {o : Obj} (h : W.heap[g]? = some o) : g < W.heap.size := by
  rcases Nat.lt_or_ge g W.heap.size with x | x
  · exact x
  · rw [Array.getElem?_eq_none x] at h; cases h
theorem But.row {R g : Nat} {W W' : World} {o : Obj} (b : But R W W') (h : W.heap[g]? = some o) (hr : g ≠ R) : W'.heap[g]? = some o := (b.block g (lt_of_row h) hr).trans h
theorem Rs.next {w W W' : World} {s : ByteArray} {a a' : Nat} {err err' : Option ByteArray} (h : Rs w W s a err) (b : But (w.heap.size + 1) W W') (r : Rd W' (w.heap.size + 1) s a' err') : Rs w W' s a' err' :=
  ⟨h.below.trans (b.below (Nat.le_succ _) h.below.size), b.row h.row (by omega), r⟩
theorem Rs.grow {w W W' : World} {s : ByteArray} {a : Nat} {err : Option ByteArray} (h : Rs w W s a err) (b : Below W.heap.size W W') : Rs w W' s a err := h.next (But.of b) (h.rd.below b)
theorem Rs.start (w : World) (s : ByteArray) : Rs w ((w.alloc (.cells #[.int .u64 0, .int .u64 0, .bool false, .int .i64 0, .bool false, .int .i64 0, .int .i64 0, .string ⟨#[]⟩] 26)).alloc (.cells #[.string s, .int .i64 0, .nilIface] 62)) s 0 none := by
  have hr := heap_alloc2_new w (.cells #[.int .u64 0, .int .u64 0, .bool false, .int .i64 0, .bool false, .int .i64 0, .int .i64 0, .string ⟨#[]⟩] 26) (.cells #[.string s, .int .i64 0, .nilIface] 62)
  exact ⟨(alloc_below w _).alloc (by simp) _, heap_alloc2_old w _ _, ⟨cell_of_row _ _ 0 _ _ _ hr, cell_of_row _ _ 1 _ _ _ hr, cell_of_row _ _ 2 _ _ _ hr, frozen_of_row _ _ 1 _ _ hr, frozen_of_row _ _ 2 _ _ hr⟩⟩

theorem read_long (s : ByteArray) (w : World) (hs : 1600 < s.size) (hs2 : s.size ≤ 10000) :
    Calls Tryd.prog 23 #[.string s] w fun e w' => e = .returned (.tuple #[.agg #[.int .u64 0, .int .u64 0, .bool false, .int .i64 0, .bool false, .int .i64 0, .int .i64 0, .string ⟨#[]⟩], .iface 53 (.agg #[.string ⟨#[102, 114, 97, 109, 101]⟩, .int .i64 41])]) ∧ Below w.heap.size w w' := by
  go_enter Tryd.func23, Tryd.ntmps23
  go_wp2
  refine bodyPost_ret ?_ rfl ⟨rfl, alloc_below w _⟩
  exact results_row2 rfl _ _ w.heap.size 26 _ _ _ _ rfl rfl (heap_last w _ _ rfl) Tryd.underlying26 rfl (by kernel_rfl)
theorem addr_ne {F R i j : Nat} (h : F ≠ R) : (⟨F, i, none⟩ : Addr) ≠ ⟨R, j, none⟩ := fun e => h (congrArg Addr.block e)
theorem Rs.set {w W : World} {s : ByteArray} {a : Nat} {err : Option ByteArray} (h : Rs w W s a err) {F : Nat} (hF : w.heap.size + 2 ≤ F) (i : Nat) (v : Value) : Rs w (W.setCell ⟨F, i, none⟩ v) s a err :=
  ⟨h.below.setCell (p := ⟨F, i, none⟩) (by simp only; omega) v, (heap_setCell_other W ⟨F, i, none⟩ _ v (by simp only; omega)).trans h.row,
   ⟨(World.cell?_setCell_other _ _ _ _ (addr_ne (by omega))).trans h.rd.c0, (World.cell?_setCell_other _ _ _ _ (addr_ne (by omega))).trans h.rd.c1, (World.cell?_setCell_other _ _ _ _ (addr_ne (by omega))).trans h.rd.c2, by simpa using h.rd.f1, by simpa using h.rd.f2⟩⟩
theorem set8d {W : World} {g : Nat} {t : TypeId} {a0 a1 a2 a3 a4 a5 a6 a7 v0 v1 v2 v3 v4 v5 v6 v7 : Value} (h : W.heap[g]? = some (.cells #[a0, a1, a2, a3, a4, a5, a6, a7] t (0, 0))) :
    ((((((((W.setCell ⟨g, 0, none⟩ v0).setCell ⟨g, 1, none⟩ v1).setCell ⟨g, 2, none⟩ v2).setCell ⟨g, 3, none⟩ v3).setCell ⟨g, 4, none⟩ v4).setCell ⟨g, 5, none⟩ v5).setCell ⟨g, 6, none⟩ v6).setCell ⟨g, 7, none⟩ v7).drew.heap[g]? = some (.cells #[v0, v1, v2, v3, v4, v5, v6, v7] t (0, 0)) := by
  rw [heap_drew]; exact set8 h
theorem setTag {W : World} {g : Nat} {t : TypeId} {a0 a1 a2 a3 a4 a5 a6 a7 v2 v3 v4 v5 : Value} (h : W.heap[g]? = some (.cells #[a0, a1, a2, a3, a4, a5, a6, a7] t (0, 0))) :
    ((((W.setCell ⟨g, 2, none⟩ v2).setCell ⟨g, 3, none⟩ v3).setCell ⟨g, 4, none⟩ v4).setCell ⟨g, 5, none⟩ v5).heap[g]? = some (.cells #[a0, a1, v2, v3, v4, v5, a6, a7] t (0, 0)) := by
  have := heap_setCell_same _ g 5 _ t v5 (heap_setCell_same _ g 4 _ t v4 (heap_setCell_same _ g 3 _ t v3 (heap_setCell_same _ g 2 _ t v2 h)))
  simpa using this
theorem setBody {W : World} {g : Nat} {t : TypeId} {a0 a1 a2 a3 a4 a5 a6 a7 v7 : Value} (h : W.heap[g]? = some (.cells #[a0, a1, a2, a3, a4, a5, a6, a7] t (0, 0))) :
    (W.setCell ⟨g, 7, none⟩ v7).heap[g]? = some (.cells #[a0, a1, a2, a3, a4, a5, a6, v7] t (0, 0)) := by
  have := heap_setCell_same _ g 7 _ t v7 h
  simpa using this
theorem setType {W : World} {g : Nat} {t : TypeId} {a0 a1 a2 a3 a4 a5 a6 a7 v6 v7 : Value} (h : W.heap[g]? = some (.cells #[a0, a1, a2, a3, a4, a5, a6, a7] t (0, 0))) :
    ((W.setCell ⟨g, 6, none⟩ v6).setCell ⟨g, 7, none⟩ v7).heap[g]? = some (.cells #[a0, a1, a2, a3, a4, a5, v6, v7] t (0, 0)) := by
  have := heap_setCell_same _ g 7 _ t v7 (heap_setCell_same _ g 6 _ t v6 h)
  simpa using this
set_option maxRecDepth 20000 in
set_option maxHeartbeats 400000 in
theorem read_err0 (s : ByteArray) (k : Nat) (p : ByteArray) (w : World) (hg : Et w) (hs : s.size ≤ 1600) (hk : Hid (numAt s 12 2 = k)) (hk1 : k < 65536) (hk2 : ((k : Int) == 33024) = false) (he : Hid (errAt s 12 2 (errAt s 6 6 (errAt s 0 6 none ⟨#[97, 100, 100, 114, 101, 115, 115]⟩) ⟨#[97, 100, 100, 114, 101, 115, 115]⟩) ⟨#[116, 121, 112, 101]⟩ = some p)) :
    Calls Tryd.prog 23 #[.string s] w fun e w' => e = .returned (.tuple #[.agg #[.int .u64 0, .int .u64 0, .bool false, .int .i64 0, .bool false, .int .i64 0, .int .i64 0, .string ⟨#[]⟩], errV (some p)]) ∧ Below w.heap.size w w' := by
  go_enter Tryd.func23, Tryd.ntmps23
  go_wp2_with fail
  have z0 := Rs.start w s
  refine (number_rd (w.heap.size + 1) 0 6 s ⟨#[97, 100, 100, 114, 101, 115, 115]⟩ none _ (hg.next z0.below) z0.rd (by omega) (by decide) (by decide) (by decide)).mono ?_
  rintro e w1 ⟨rfl, b1, r1⟩
  have z1 := z0.next b1 r1
  clear z0 b1 r1
  go_wp2_with fail
  refine (number_rd (w.heap.size + 1) 6 6 s ⟨#[97, 100, 100, 114, 101, 115, 115]⟩ _ _ (hg.next z1.below) z1.rd (by omega) (by decide) (by decide) (by decide)).mono ?_
  rintro e w2 ⟨rfl, b2, r2⟩
  have z2 := z1.next b2 r2
  clear z1 b2 r2
  go_wp2_with fail
  have z3 := z2.grow (alloc_below w2 (.cells #[.int .u64 (numAt s 0 6 : Nat), .int .u64 (numAt s 6 6 : Nat), .bool false, .int .i64 0, .bool false, .int .i64 0, .int .i64 0, .string ⟨#[]⟩] 26))
  have hF := heap_alloc_new w2 (.cells #[.int .u64 (numAt s 0 6 : Nat), .int .u64 (numAt s 6 6 : Nat), .bool false, .int .i64 0, .bool false, .int .i64 0, .int .i64 0, .string ⟨#[]⟩] 26)
  have hFR : w2.heap.size ≠ w.heap.size + 1 := by have := block_lt_of_cell z2.rd.c0; simp only at this; omega
  have hFl : w.heap.size + 2 ≤ w2.heap.size := by have := block_lt_of_cell z2.rd.c0; simp only at this; omega
  clear z2
  refine (number_rd (w.heap.size + 1) 12 2 s ⟨#[116, 121, 112, 101]⟩ _ _ (hg.next z3.below) z3.rd (by omega) (by decide) (by decide) (by decide)).mono ?_
  rw [unhide hk]
  rintro e w4 ⟨rfl, b4, r4⟩
  have z4 := z3.next b4 r4
  have hF4 := b4.row hF hFR
  clear z3 b4 r4 hF
  generalize w2.heap.size = F at *
  have ce : w4.cell? ⟨w.heap.size + 1, 2, none⟩ = some (.iface 53 (.agg #[.string p, .int .i64 10])) := z4.rd.c2.trans (congrArg (fun x => some (errV x)) (unhide he))
  obtain ⟨c0, c1, c2, c3, c4, c5, c6, c7, f0, f1, f2, f3, f4, f5, f6, f7⟩ := cells8 z4.row
  have hb := z4.below
  have HR := hide z4.row
  clear z4 hF4
  go_wp2_with fail
  go_region
  all_goals
    go_wp2_with fail
    refine bodyPost_ret ?_ rfl ⟨rfl, (below8 hb (Nat.le_refl _)).drew⟩
    exact results_row2 rfl _ _ w.heap.size 26 _ _ _ _ rfl rfl (set8d (unhide HR)) Tryd.underlying26 rfl (by kernel_rfl)
set_option maxRecDepth 20000 in
set_option maxHeartbeats 400000 in
theorem read_err1 (s : ByteArray) (v k : Nat) (p : ByteArray) (w : World) (hg : Et w) (hs : s.size ≤ 1600) (hk : Hid (numAt s 12 2 = 33024)) (hv : Hid (numAt s 14 2 = v)) (hv1 : v < 65536) (hk' : Hid (numAt s 16 2 = k)) (hk1 : k < 65536) (he : Hid (errAt s 16 2 (errAt s 14 2 (errAt s 12 2 (errAt s 6 6 (errAt s 0 6 none ⟨#[97, 100, 100, 114, 101, 115, 115]⟩) ⟨#[97, 100, 100, 114, 101, 115, 115]⟩) ⟨#[116, 121, 112, 101]⟩) ⟨#[116, 97, 103]⟩) ⟨#[116, 121, 112, 101]⟩ = some p)) :
    Calls Tryd.prog 23 #[.string s] w fun e w' => e = .returned (.tuple #[.agg #[.int .u64 0, .int .u64 0, .bool false, .int .i64 0, .bool false, .int .i64 0, .int .i64 0, .string ⟨#[]⟩], errV (some p)]) ∧ Below w.heap.size w w' := by
  go_enter Tryd.func23, Tryd.ntmps23
  go_wp2_with fail
  have z0 := Rs.start w s
  refine (number_rd (w.heap.size + 1) 0 6 s ⟨#[97, 100, 100, 114, 101, 115, 115]⟩ none _ (hg.next z0.below) z0.rd (by omega) (by decide) (by decide) (by decide)).mono ?_
  rintro e w1 ⟨rfl, b1, r1⟩
  have z1 := z0.next b1 r1
  clear z0 b1 r1
  go_wp2_with fail
  refine (number_rd (w.heap.size + 1) 6 6 s ⟨#[97, 100, 100, 114, 101, 115, 115]⟩ _ _ (hg.next z1.below) z1.rd (by omega) (by decide) (by decide) (by decide)).mono ?_
  rintro e w2 ⟨rfl, b2, r2⟩
  have z2 := z1.next b2 r2
  clear z1 b2 r2
  go_wp2_with fail
  have z3 := z2.grow (alloc_below w2 (.cells #[.int .u64 (numAt s 0 6 : Nat), .int .u64 (numAt s 6 6 : Nat), .bool false, .int .i64 0, .bool false, .int .i64 0, .int .i64 0, .string ⟨#[]⟩] 26))
  have hF := heap_alloc_new w2 (.cells #[.int .u64 (numAt s 0 6 : Nat), .int .u64 (numAt s 6 6 : Nat), .bool false, .int .i64 0, .bool false, .int .i64 0, .int .i64 0, .string ⟨#[]⟩] 26)
  have hFR : w2.heap.size ≠ w.heap.size + 1 := by have := block_lt_of_cell z2.rd.c0; simp only at this; omega
  have hFl : w.heap.size + 2 ≤ w2.heap.size := by have := block_lt_of_cell z2.rd.c0; simp only at this; omega
  clear z2
  refine (number_rd (w.heap.size + 1) 12 2 s ⟨#[116, 121, 112, 101]⟩ _ _ (hg.next z3.below) z3.rd (by omega) (by decide) (by decide) (by decide)).mono ?_
  rw [unhide hk]
  rintro e w4 ⟨rfl, b4, r4⟩
  have z4 := z3.next b4 r4
  have hF4 := b4.row hF hFR
  clear z3 b4 r4 hF
  generalize w2.heap.size = F at *
  go_wp2_with fail
  refine (number_rd (w.heap.size + 1) 14 2 s ⟨#[116, 97, 103]⟩ _ _ (hg.next z4.below) z4.rd (by omega) (by decide) (by decide) (by decide)).mono ?_
  rw [unhide hv]
  rintro e w5 ⟨rfl, b5, r5⟩
  have z5 := z4.next b5 r5
  have hF5 := b5.row hF4 hFR
  clear z4 b5 r5 hF4
  go_wp2_with fail
  refine (unmark_any v _ hv1).mono ?_
  rintro e w6 ⟨rfl, b6⟩
  have z6 := z5.grow b6
  have hF6 := (But.of (R := w.heap.size + 1) b6).row hF5 hFR
  clear z5 b6 hF5
  obtain ⟨d0, d1, d2, d3, d4, d5, d6, d7, g0, g1, g2, g3, g4, g5, g6, g7⟩ := cells8 hF6
  have z7 := (((z6.set hFl 2 (.bool true)).set hFl 3 (.int .i64 ((v / 8192 : Nat) : Int))).set hFl 4 (.bool (decide (v / 4096 % 2 = 1)))).set hFl 5 (.int .i64 ((v % 4096 : Nat) : Int))
  have hF7 := setTag (v2 := .bool true) (v3 := .int .i64 ((v / 8192 : Nat) : Int)) (v4 := .bool (decide (v / 4096 % 2 = 1))) (v5 := .int .i64 ((v % 4096 : Nat) : Int)) hF6
  have HZ := hide z7
  have HF := hide hF7
  clear z6 hF6 z7 hF7
  go_wp2_with fail
  have z7 := unhide HZ
  have hF7 := unhide HF
  clear HZ HF d0 d1 d2 d3 d4 d5 d6 d7 g0 g1 g2 g3 g4 g5 g6 g7
  refine (number_rd (w.heap.size + 1) 16 2 s ⟨#[116, 121, 112, 101]⟩ _ _ (hg.next z7.below) z7.rd (by omega) (by decide) (by decide) (by decide)).mono ?_
  rw [unhide hk']
  rintro e w4 ⟨rfl, b4, r4⟩
  have z4 := z7.next b4 r4
  have hF4 := b4.row hF7 hFR
  clear z7 b4 r4 hF7
  have ce : w4.cell? ⟨w.heap.size + 1, 2, none⟩ = some (.iface 53 (.agg #[.string p, .int .i64 10])) := z4.rd.c2.trans (congrArg (fun x => some (errV x)) (unhide he))
  obtain ⟨c0, c1, c2, c3, c4, c5, c6, c7, f0, f1, f2, f3, f4, f5, f6, f7⟩ := cells8 z4.row
  have hb := z4.below
  have HR := hide z4.row
  clear z4 hF4
  go_wp2_with fail
  go_region
  all_goals
    go_wp2_with fail
    refine bodyPost_ret ?_ rfl ⟨rfl, (below8 hb (Nat.le_refl _)).drew⟩
    exact results_row2 rfl _ _ w.heap.size 26 _ _ _ _ rfl rfl (set8d (unhide HR)) Tryd.underlying26 rfl (by kernel_rfl)
set_option maxRecDepth 20000 in
set_option maxHeartbeats 400000 in
theorem read_len0 (s : ByteArray) (k : Nat) (w : World) (hg : Et w) (hs : s.size ≤ 1600) (hk : Hid (numAt s 12 2 = k)) (hk1 : k < 65536) (hk2 : ((k : Int) == 33024) = false) (he : Hid (errAt s 12 2 (errAt s 6 6 (errAt s 0 6 none ⟨#[97, 100, 100, 114, 101, 115, 115]⟩) ⟨#[97, 100, 100, 114, 101, 115, 115]⟩) ⟨#[116, 121, 112, 101]⟩ = none)) (h : (k : Int) ≤ 1500) :
    Calls Tryd.prog 23 #[.string s] w fun e w' => e = .returned (.tuple #[.agg #[.int .u64 (numAt s 0 6 : Nat), .int .u64 (numAt s 6 6 : Nat), .bool false, .int .i64 0, .bool false, .int .i64 0, .int .i64 0, .string (cutAt s 14 k)], errV (errAt s 14 k none ⟨#[98, 111, 100, 121]⟩)]) ∧ Below w.heap.size w w' := by
  go_enter Tryd.func23, Tryd.ntmps23
  go_wp2_with fail
  have z0 := Rs.start w s
  refine (number_rd (w.heap.size + 1) 0 6 s ⟨#[97, 100, 100, 114, 101, 115, 115]⟩ none _ (hg.next z0.below) z0.rd (by omega) (by decide) (by decide) (by decide)).mono ?_
  rintro e w1 ⟨rfl, b1, r1⟩
  have z1 := z0.next b1 r1
  clear z0 b1 r1
  go_wp2_with fail
  refine (number_rd (w.heap.size + 1) 6 6 s ⟨#[97, 100, 100, 114, 101, 115, 115]⟩ _ _ (hg.next z1.below) z1.rd (by omega) (by decide) (by decide) (by decide)).mono ?_
  rintro e w2 ⟨rfl, b2, r2⟩
  have z2 := z1.next b2 r2
  clear z1 b2 r2
  go_wp2_with fail
  have z3 := z2.grow (alloc_below w2 (.cells #[.int .u64 (numAt s 0 6 : Nat), .int .u64 (numAt s 6 6 : Nat), .bool false, .int .i64 0, .bool false, .int .i64 0, .int .i64 0, .string ⟨#[]⟩] 26))
  have hF := heap_alloc_new w2 (.cells #[.int .u64 (numAt s 0 6 : Nat), .int .u64 (numAt s 6 6 : Nat), .bool false, .int .i64 0, .bool false, .int .i64 0, .int .i64 0, .string ⟨#[]⟩] 26)
  have hFR : w2.heap.size ≠ w.heap.size + 1 := by have := block_lt_of_cell z2.rd.c0; simp only at this; omega
  have hFl : w.heap.size + 2 ≤ w2.heap.size := by have := block_lt_of_cell z2.rd.c0; simp only at this; omega
  clear z2
  refine (number_rd (w.heap.size + 1) 12 2 s ⟨#[116, 121, 112, 101]⟩ _ _ (hg.next z3.below) z3.rd (by omega) (by decide) (by decide) (by decide)).mono ?_
  rw [unhide hk]
  rintro e w4 ⟨rfl, b4, r4⟩
  have z4 := z3.next b4 r4
  have hF4 := b4.row hF hFR
  clear z3 b4 r4 hF
  generalize w2.heap.size = F at *
  have ce : w4.cell? ⟨w.heap.size + 1, 2, none⟩ = some .nilIface := z4.rd.c2.trans (congrArg (fun x => some (errV x)) (unhide he))
  have z8 : Rs w w4 s 14 none := ⟨z4.below, z4.row, ⟨z4.rd.c0, z4.rd.c1, ce, z4.rd.f1, z4.rd.f2⟩⟩
  have ca : w4.cell? ⟨w.heap.size + 1, 1, none⟩ = some (.int .i64 14) := z4.rd.c1
  clear z4
  go_wp2_with fail
  clear ce ca
  refine (bytes_rd (w.heap.size + 1) 14 k s ⟨#[98, 111, 100, 121]⟩ none _ (hg.next z8.below) z8.rd (by omega) (by decide) (by omega)).mono ?_
  rintro e w8 ⟨rfl, b8, r8⟩
  have y8 := z8.next b8 r8
  have hF8 := b8.row hF4 hFR
  clear z8 b8 r8 hF4
  have HZ := hide (y8.set hFl 7 (.string (cutAt s 14 k)))
  have HF := hide (setBody (v7 := .string (cutAt s 14 k)) hF8)
  have d7 := (cells8 hF8).2.2.2.2.2.2.2.1
  have g7 := (cells8 hF8).2.2.2.2.2.2.2.2.2.2.2.2.2.2.2
  clear y8 hF8
  go_wp2_with fail
  have z9 := unhide HZ
  have hF9 := unhide HF
  clear HZ HF d7 g7
  obtain ⟨W9, hW9⟩ : ∃ W9, W9 = w8.setCell ⟨F, 7, none⟩ (.string (cutAt s 14 k)) := ⟨_, rfl⟩
  rw [← hW9] at z9 hF9 ⊢
  clear hW9
  obtain ⟨d0, d1, d2, d3, d4, d5, d6, d7, g0, g1, g2, g3, g4, g5, g6, g7⟩ := cells8 hF9
  obtain ⟨c0, c1, c2, c3, c4, c5, c6, c7, f0, f1, f2, f3, f4, f5, f6, f7⟩ := cells8 z9.row
  have ce := z9.rd.c2
  have hb := z9.below
  have HR := hide z9.row
  clear z9 hF9
  go_region
  all_goals
    go_wp2_with fail
    refine bodyPost_ret ?_ rfl ⟨rfl, (below8 hb (Nat.le_refl _)).drew⟩
    exact results_row2 rfl _ _ w.heap.size 26 _ _ _ _ rfl rfl (set8d (unhide HR)) Tryd.underlying26 rfl (by kernel_rfl)
set_option maxRecDepth 20000 in
set_option maxHeartbeats 400000 in
theorem read_type0 (s : ByteArray) (k : Nat) (m : Nat) (w : World) (hg : Et w) (hs : s.size ≤ 1600) (hk : Hid (numAt s 12 2 = k)) (hk1 : k < 65536) (hk2 : ((k : Int) == 33024) = false) (he : Hid (errAt s 12 2 (errAt s 6 6 (errAt s 0 6 none ⟨#[97, 100, 100, 114, 101, 115, 115]⟩) ⟨#[97, 100, 100, 114, 101, 115, 115]⟩) ⟨#[116, 121, 112, 101]⟩ = none)) (h : (1500 : Int) < k) (hn : isType k = true) (hm : (s.size : Int) - 14 = (m : Int)) :
    Calls Tryd.prog 23 #[.string s] w fun e w' => e = .returned (.tuple #[.agg #[.int .u64 (numAt s 0 6 : Nat), .int .u64 (numAt s 6 6 : Nat), .bool false, .int .i64 0, .bool false, .int .i64 0, .int .i64 k, .string (cutAt s 14 m)], errV (errAt s 14 m none ⟨#[98, 111, 100, 121]⟩)]) ∧ Below w.heap.size w w' := by
  go_enter Tryd.func23, Tryd.ntmps23
  go_wp2_with fail
  have z0 := Rs.start w s
  refine (number_rd (w.heap.size + 1) 0 6 s ⟨#[97, 100, 100, 114, 101, 115, 115]⟩ none _ (hg.next z0.below) z0.rd (by omega) (by decide) (by decide) (by decide)).mono ?_
  rintro e w1 ⟨rfl, b1, r1⟩
  have z1 := z0.next b1 r1
  clear z0 b1 r1
  go_wp2_with fail
  refine (number_rd (w.heap.size + 1) 6 6 s ⟨#[97, 100, 100, 114, 101, 115, 115]⟩ _ _ (hg.next z1.below) z1.rd (by omega) (by decide) (by decide) (by decide)).mono ?_
  rintro e w2 ⟨rfl, b2, r2⟩
  have z2 := z1.next b2 r2
  clear z1 b2 r2
  go_wp2_with fail
  have z3 := z2.grow (alloc_below w2 (.cells #[.int .u64 (numAt s 0 6 : Nat), .int .u64 (numAt s 6 6 : Nat), .bool false, .int .i64 0, .bool false, .int .i64 0, .int .i64 0, .string ⟨#[]⟩] 26))
  have hF := heap_alloc_new w2 (.cells #[.int .u64 (numAt s 0 6 : Nat), .int .u64 (numAt s 6 6 : Nat), .bool false, .int .i64 0, .bool false, .int .i64 0, .int .i64 0, .string ⟨#[]⟩] 26)
  have hFR : w2.heap.size ≠ w.heap.size + 1 := by have := block_lt_of_cell z2.rd.c0; simp only at this; omega
  have hFl : w.heap.size + 2 ≤ w2.heap.size := by have := block_lt_of_cell z2.rd.c0; simp only at this; omega
  clear z2
  refine (number_rd (w.heap.size + 1) 12 2 s ⟨#[116, 121, 112, 101]⟩ _ _ (hg.next z3.below) z3.rd (by omega) (by decide) (by decide) (by decide)).mono ?_
  rw [unhide hk]
  rintro e w4 ⟨rfl, b4, r4⟩
  have z4 := z3.next b4 r4
  have hF4 := b4.row hF hFR
  clear z3 b4 r4 hF
  generalize w2.heap.size = F at *
  have ce : w4.cell? ⟨w.heap.size + 1, 2, none⟩ = some .nilIface := z4.rd.c2.trans (congrArg (fun x => some (errV x)) (unhide he))
  have z8 : Rs w w4 s 14 none := ⟨z4.below, z4.row, ⟨z4.rd.c0, z4.rd.c1, ce, z4.rd.f1, z4.rd.f2⟩⟩
  have ca : w4.cell? ⟨w.heap.size + 1, 1, none⟩ = some (.int .i64 14) := z4.rd.c1
  clear z4
  have hm' := hm
  clear hm'
  go_wp2_with fail
  refine (named_any _ _).mono ?_
  rw [hn]
  rintro e w7 ⟨rfl, rfl⟩
  go_wp2_with fail
  clear ce ca
  refine (bytes_rd (w.heap.size + 1) 14 m s ⟨#[98, 111, 100, 121]⟩ none _ (hg.next z8.below) z8.rd (by omega) (by decide) (by omega)).mono ?_
  rintro e w8 ⟨rfl, b8, r8⟩
  have y8 := z8.next b8 r8
  have hF8 := b8.row hF4 hFR
  clear z8 b8 r8 hF4
  have HZ := hide ((y8.set hFl 6 (.int .i64 k)).set hFl 7 (.string (cutAt s 14 m)))
  have HF := hide (setType (v6 := .int .i64 k) (v7 := .string (cutAt s 14 m)) hF8)
  have d6 := (cells8 hF8).2.2.2.2.2.2.1
  have g6 := (cells8 hF8).2.2.2.2.2.2.2.2.2.2.2.2.2.2.1
  have d7 := (cells8 hF8).2.2.2.2.2.2.2.1
  have g7 := (cells8 hF8).2.2.2.2.2.2.2.2.2.2.2.2.2.2.2
  clear y8 hF8
  go_wp2_with fail
  have z9 := unhide HZ
  have hF9 := unhide HF
  clear HZ HF d6 g6 d7 g7
  obtain ⟨W9, hW9⟩ : ∃ W9, W9 = (w8.setCell ⟨F, 6, none⟩ (.int .i64 k)).setCell ⟨F, 7, none⟩ (.string (cutAt s 14 m)) := ⟨_, rfl⟩
  rw [← hW9] at z9 hF9 ⊢
  clear hW9
  obtain ⟨d0, d1, d2, d3, d4, d5, d6, d7, g0, g1, g2, g3, g4, g5, g6, g7⟩ := cells8 hF9
  obtain ⟨c0, c1, c2, c3, c4, c5, c6, c7, f0, f1, f2, f3, f4, f5, f6, f7⟩ := cells8 z9.row
  have ce := z9.rd.c2
  have hb := z9.below
  have HR := hide z9.row
  clear z9 hF9
  go_region
  all_goals
    go_wp2_with fail
    refine bodyPost_ret ?_ rfl ⟨rfl, (below8 hb (Nat.le_refl _)).drew⟩
    exact results_row2 rfl _ _ w.heap.size 26 _ _ _ _ rfl rfl (set8d (unhide HR)) Tryd.underlying26 rfl (by kernel_rfl)
set_option maxRecDepth 20000 in
set_option maxHeartbeats 400000 in
theorem read_bad0 (s : ByteArray) (k : Nat) (w : World) (hg : Et w) (hs : s.size ≤ 1600) (hk : Hid (numAt s 12 2 = k)) (hk1 : k < 65536) (hk2 : ((k : Int) == 33024) = false) (he : Hid (errAt s 12 2 (errAt s 6 6 (errAt s 0 6 none ⟨#[97, 100, 100, 114, 101, 115, 115]⟩) ⟨#[97, 100, 100, 114, 101, 115, 115]⟩) ⟨#[116, 121, 112, 101]⟩ = none)) (h : (1500 : Int) < k) (hn : isType k = false) :
    Calls Tryd.prog 23 #[.string s] w fun e w' => e = .returned (.tuple #[.agg #[.int .u64 0, .int .u64 0, .bool false, .int .i64 0, .bool false, .int .i64 0, .int .i64 0, .string ⟨#[]⟩], .iface 53 (.agg #[.string ⟨#[116, 121, 112, 101]⟩, .int .i64 41])]) ∧ Below w.heap.size w w' := by
  go_enter Tryd.func23, Tryd.ntmps23
  go_wp2_with fail
  have z0 := Rs.start w s
  refine (number_rd (w.heap.size + 1) 0 6 s ⟨#[97, 100, 100, 114, 101, 115, 115]⟩ none _ (hg.next z0.below) z0.rd (by omega) (by decide) (by decide) (by decide)).mono ?_
  rintro e w1 ⟨rfl, b1, r1⟩
  have z1 := z0.next b1 r1
  clear z0 b1 r1
  go_wp2_with fail
  refine (number_rd (w.heap.size + 1) 6 6 s ⟨#[97, 100, 100, 114, 101, 115, 115]⟩ _ _ (hg.next z1.below) z1.rd (by omega) (by decide) (by decide) (by decide)).mono ?_
  rintro e w2 ⟨rfl, b2, r2⟩
  have z2 := z1.next b2 r2
  clear z1 b2 r2
  go_wp2_with fail
  have z3 := z2.grow (alloc_below w2 (.cells #[.int .u64 (numAt s 0 6 : Nat), .int .u64 (numAt s 6 6 : Nat), .bool false, .int .i64 0, .bool false, .int .i64 0, .int .i64 0, .string ⟨#[]⟩] 26))
  have hF := heap_alloc_new w2 (.cells #[.int .u64 (numAt s 0 6 : Nat), .int .u64 (numAt s 6 6 : Nat), .bool false, .int .i64 0, .bool false, .int .i64 0, .int .i64 0, .string ⟨#[]⟩] 26)
  have hFR : w2.heap.size ≠ w.heap.size + 1 := by have := block_lt_of_cell z2.rd.c0; simp only at this; omega
  have hFl : w.heap.size + 2 ≤ w2.heap.size := by have := block_lt_of_cell z2.rd.c0; simp only at this; omega
  clear z2
  refine (number_rd (w.heap.size + 1) 12 2 s ⟨#[116, 121, 112, 101]⟩ _ _ (hg.next z3.below) z3.rd (by omega) (by decide) (by decide) (by decide)).mono ?_
  rw [unhide hk]
  rintro e w4 ⟨rfl, b4, r4⟩
  have z4 := z3.next b4 r4
  have hF4 := b4.row hF hFR
  clear z3 b4 r4 hF
  generalize w2.heap.size = F at *
  have ce : w4.cell? ⟨w.heap.size + 1, 2, none⟩ = some .nilIface := z4.rd.c2.trans (congrArg (fun x => some (errV x)) (unhide he))
  have z8 : Rs w w4 s 14 none := ⟨z4.below, z4.row, ⟨z4.rd.c0, z4.rd.c1, ce, z4.rd.f1, z4.rd.f2⟩⟩
  have ca : w4.cell? ⟨w.heap.size + 1, 1, none⟩ = some (.int .i64 14) := z4.rd.c1
  clear z4
  obtain ⟨c0, c1, c2, c3, c4, c5, c6, c7, f0, f1, f2, f3, f4, f5, f6, f7⟩ := cells8 z8.row
  have hb := z8.below
  have HR := hide z8.row
  clear z8 hF4
  go_wp2_with fail
  refine (named_any _ _).mono ?_
  rw [hn]
  rintro e w7 ⟨rfl, rfl⟩
  go_wp2_with fail
  refine bodyPost_ret ?_ rfl ⟨rfl, below8 hb (Nat.le_refl _)⟩
  exact results_row2 rfl _ _ w.heap.size 26 _ _ _ _ rfl rfl (set8 (unhide HR)) Tryd.underlying26 rfl (by kernel_rfl)
set_option maxRecDepth 20000 in
set_option maxHeartbeats 400000 in
theorem read_len1 (s : ByteArray) (v k : Nat) (w : World) (hg : Et w) (hs : s.size ≤ 1600) (hk : Hid (numAt s 12 2 = 33024)) (hv : Hid (numAt s 14 2 = v)) (hv1 : v < 65536) (hk' : Hid (numAt s 16 2 = k)) (hk1 : k < 65536) (he : Hid (errAt s 16 2 (errAt s 14 2 (errAt s 12 2 (errAt s 6 6 (errAt s 0 6 none ⟨#[97, 100, 100, 114, 101, 115, 115]⟩) ⟨#[97, 100, 100, 114, 101, 115, 115]⟩) ⟨#[116, 121, 112, 101]⟩) ⟨#[116, 97, 103]⟩) ⟨#[116, 121, 112, 101]⟩ = none)) (h : (k : Int) ≤ 1500) :
    Calls Tryd.prog 23 #[.string s] w fun e w' => e = .returned (.tuple #[.agg #[.int .u64 (numAt s 0 6 : Nat), .int .u64 (numAt s 6 6 : Nat), .bool true, .int .i64 ((v / 8192 : Nat) : Int), .bool (decide (v / 4096 % 2 = 1)), .int .i64 ((v % 4096 : Nat) : Int), .int .i64 0, .string (cutAt s 18 k)], errV (errAt s 18 k none ⟨#[98, 111, 100, 121]⟩)]) ∧ Below w.heap.size w w' := by
  go_enter Tryd.func23, Tryd.ntmps23
  go_wp2_with fail
  have z0 := Rs.start w s
  refine (number_rd (w.heap.size + 1) 0 6 s ⟨#[97, 100, 100, 114, 101, 115, 115]⟩ none _ (hg.next z0.below) z0.rd (by omega) (by decide) (by decide) (by decide)).mono ?_
  rintro e w1 ⟨rfl, b1, r1⟩
  have z1 := z0.next b1 r1
  clear z0 b1 r1
  go_wp2_with fail
  refine (number_rd (w.heap.size + 1) 6 6 s ⟨#[97, 100, 100, 114, 101, 115, 115]⟩ _ _ (hg.next z1.below) z1.rd (by omega) (by decide) (by decide) (by decide)).mono ?_
  rintro e w2 ⟨rfl, b2, r2⟩
  have z2 := z1.next b2 r2
  clear z1 b2 r2
  go_wp2_with fail
  have z3 := z2.grow (alloc_below w2 (.cells #[.int .u64 (numAt s 0 6 : Nat), .int .u64 (numAt s 6 6 : Nat), .bool false, .int .i64 0, .bool false, .int .i64 0, .int .i64 0, .string ⟨#[]⟩] 26))
  have hF := heap_alloc_new w2 (.cells #[.int .u64 (numAt s 0 6 : Nat), .int .u64 (numAt s 6 6 : Nat), .bool false, .int .i64 0, .bool false, .int .i64 0, .int .i64 0, .string ⟨#[]⟩] 26)
  have hFR : w2.heap.size ≠ w.heap.size + 1 := by have := block_lt_of_cell z2.rd.c0; simp only at this; omega
  have hFl : w.heap.size + 2 ≤ w2.heap.size := by have := block_lt_of_cell z2.rd.c0; simp only at this; omega
  clear z2
  refine (number_rd (w.heap.size + 1) 12 2 s ⟨#[116, 121, 112, 101]⟩ _ _ (hg.next z3.below) z3.rd (by omega) (by decide) (by decide) (by decide)).mono ?_
  rw [unhide hk]
  rintro e w4 ⟨rfl, b4, r4⟩
  have z4 := z3.next b4 r4
  have hF4 := b4.row hF hFR
  clear z3 b4 r4 hF
  generalize w2.heap.size = F at *
  go_wp2_with fail
  refine (number_rd (w.heap.size + 1) 14 2 s ⟨#[116, 97, 103]⟩ _ _ (hg.next z4.below) z4.rd (by omega) (by decide) (by decide) (by decide)).mono ?_
  rw [unhide hv]
  rintro e w5 ⟨rfl, b5, r5⟩
  have z5 := z4.next b5 r5
  have hF5 := b5.row hF4 hFR
  clear z4 b5 r5 hF4
  go_wp2_with fail
  refine (unmark_any v _ hv1).mono ?_
  rintro e w6 ⟨rfl, b6⟩
  have z6 := z5.grow b6
  have hF6 := (But.of (R := w.heap.size + 1) b6).row hF5 hFR
  clear z5 b6 hF5
  obtain ⟨d0, d1, d2, d3, d4, d5, d6, d7, g0, g1, g2, g3, g4, g5, g6, g7⟩ := cells8 hF6
  have z7 := (((z6.set hFl 2 (.bool true)).set hFl 3 (.int .i64 ((v / 8192 : Nat) : Int))).set hFl 4 (.bool (decide (v / 4096 % 2 = 1)))).set hFl 5 (.int .i64 ((v % 4096 : Nat) : Int))
  have hF7 := setTag (v2 := .bool true) (v3 := .int .i64 ((v / 8192 : Nat) : Int)) (v4 := .bool (decide (v / 4096 % 2 = 1))) (v5 := .int .i64 ((v % 4096 : Nat) : Int)) hF6
  have HZ := hide z7
  have HF := hide hF7
  clear z6 hF6 z7 hF7
  go_wp2_with fail
  have z7 := unhide HZ
  have hF7 := unhide HF
  clear HZ HF d0 d1 d2 d3 d4 d5 d6 d7 g0 g1 g2 g3 g4 g5 g6 g7
  refine (number_rd (w.heap.size + 1) 16 2 s ⟨#[116, 121, 112, 101]⟩ _ _ (hg.next z7.below) z7.rd (by omega) (by decide) (by decide) (by decide)).mono ?_
  rw [unhide hk']
  rintro e w4 ⟨rfl, b4, r4⟩
  have z4 := z7.next b4 r4
  have hF4 := b4.row hF7 hFR
  clear z7 b4 r4 hF7
  have ce : w4.cell? ⟨w.heap.size + 1, 2, none⟩ = some .nilIface := z4.rd.c2.trans (congrArg (fun x => some (errV x)) (unhide he))
  have z8 : Rs w w4 s 18 none := ⟨z4.below, z4.row, ⟨z4.rd.c0, z4.rd.c1, ce, z4.rd.f1, z4.rd.f2⟩⟩
  have ca : w4.cell? ⟨w.heap.size + 1, 1, none⟩ = some (.int .i64 18) := z4.rd.c1
  clear z4
  go_wp2_with fail
  clear ce ca
  refine (bytes_rd (w.heap.size + 1) 18 k s ⟨#[98, 111, 100, 121]⟩ none _ (hg.next z8.below) z8.rd (by omega) (by decide) (by omega)).mono ?_
  rintro e w8 ⟨rfl, b8, r8⟩
  have y8 := z8.next b8 r8
  have hF8 := b8.row hF4 hFR
  clear z8 b8 r8 hF4
  have HZ := hide (y8.set hFl 7 (.string (cutAt s 18 k)))
  have HF := hide (setBody (v7 := .string (cutAt s 18 k)) hF8)
  have d7 := (cells8 hF8).2.2.2.2.2.2.2.1
  have g7 := (cells8 hF8).2.2.2.2.2.2.2.2.2.2.2.2.2.2.2
  clear y8 hF8
  go_wp2_with fail
  have z9 := unhide HZ
  have hF9 := unhide HF
  clear HZ HF d7 g7
  obtain ⟨W9, hW9⟩ : ∃ W9, W9 = w8.setCell ⟨F, 7, none⟩ (.string (cutAt s 18 k)) := ⟨_, rfl⟩
  rw [← hW9] at z9 hF9 ⊢
  clear hW9
  obtain ⟨d0, d1, d2, d3, d4, d5, d6, d7, g0, g1, g2, g3, g4, g5, g6, g7⟩ := cells8 hF9
  obtain ⟨c0, c1, c2, c3, c4, c5, c6, c7, f0, f1, f2, f3, f4, f5, f6, f7⟩ := cells8 z9.row
  have ce := z9.rd.c2
  have hb := z9.below
  have HR := hide z9.row
  clear z9 hF9
  go_region
  all_goals
    go_wp2_with fail
    refine bodyPost_ret ?_ rfl ⟨rfl, (below8 hb (Nat.le_refl _)).drew⟩
    exact results_row2 rfl _ _ w.heap.size 26 _ _ _ _ rfl rfl (set8d (unhide HR)) Tryd.underlying26 rfl (by kernel_rfl)
set_option maxRecDepth 20000 in
set_option maxHeartbeats 400000 in
theorem read_type1 (s : ByteArray) (v k : Nat) (m : Nat) (w : World) (hg : Et w) (hs : s.size ≤ 1600) (hk : Hid (numAt s 12 2 = 33024)) (hv : Hid (numAt s 14 2 = v)) (hv1 : v < 65536) (hk' : Hid (numAt s 16 2 = k)) (hk1 : k < 65536) (he : Hid (errAt s 16 2 (errAt s 14 2 (errAt s 12 2 (errAt s 6 6 (errAt s 0 6 none ⟨#[97, 100, 100, 114, 101, 115, 115]⟩) ⟨#[97, 100, 100, 114, 101, 115, 115]⟩) ⟨#[116, 121, 112, 101]⟩) ⟨#[116, 97, 103]⟩) ⟨#[116, 121, 112, 101]⟩ = none)) (h : (1500 : Int) < k) (hn : isType k = true) (hm : (s.size : Int) - 18 = (m : Int)) :
    Calls Tryd.prog 23 #[.string s] w fun e w' => e = .returned (.tuple #[.agg #[.int .u64 (numAt s 0 6 : Nat), .int .u64 (numAt s 6 6 : Nat), .bool true, .int .i64 ((v / 8192 : Nat) : Int), .bool (decide (v / 4096 % 2 = 1)), .int .i64 ((v % 4096 : Nat) : Int), .int .i64 k, .string (cutAt s 18 m)], errV (errAt s 18 m none ⟨#[98, 111, 100, 121]⟩)]) ∧ Below w.heap.size w w' := by
  go_enter Tryd.func23, Tryd.ntmps23
  go_wp2_with fail
  have z0 := Rs.start w s
  refine (number_rd (w.heap.size + 1) 0 6 s ⟨#[97, 100, 100, 114, 101, 115, 115]⟩ none _ (hg.next z0.below) z0.rd (by omega) (by decide) (by decide) (by decide)).mono ?_
  rintro e w1 ⟨rfl, b1, r1⟩
  have z1 := z0.next b1 r1
  clear z0 b1 r1
  go_wp2_with fail
  refine (number_rd (w.heap.size + 1) 6 6 s ⟨#[97, 100, 100, 114, 101, 115, 115]⟩ _ _ (hg.next z1.below) z1.rd (by omega) (by decide) (by decide) (by decide)).mono ?_
  rintro e w2 ⟨rfl, b2, r2⟩
  have z2 := z1.next b2 r2
  clear z1 b2 r2
  go_wp2_with fail
  have z3 := z2.grow (alloc_below w2 (.cells #[.int .u64 (numAt s 0 6 : Nat), .int .u64 (numAt s 6 6 : Nat), .bool false, .int .i64 0, .bool false, .int .i64 0, .int .i64 0, .string ⟨#[]⟩] 26))
  have hF := heap_alloc_new w2 (.cells #[.int .u64 (numAt s 0 6 : Nat), .int .u64 (numAt s 6 6 : Nat), .bool false, .int .i64 0, .bool false, .int .i64 0, .int .i64 0, .string ⟨#[]⟩] 26)
  have hFR : w2.heap.size ≠ w.heap.size + 1 := by have := block_lt_of_cell z2.rd.c0; simp only at this; omega
  have hFl : w.heap.size + 2 ≤ w2.heap.size := by have := block_lt_of_cell z2.rd.c0; simp only at this; omega
  clear z2
  refine (number_rd (w.heap.size + 1) 12 2 s ⟨#[116, 121, 112, 101]⟩ _ _ (hg.next z3.below) z3.rd (by omega) (by decide) (by decide) (by decide)).mono ?_
  rw [unhide hk]
  rintro e w4 ⟨rfl, b4, r4⟩
  have z4 := z3.next b4 r4
  have hF4 := b4.row hF hFR
  clear z3 b4 r4 hF
  generalize w2.heap.size = F at *
  go_wp2_with fail
  refine (number_rd (w.heap.size + 1) 14 2 s ⟨#[116, 97, 103]⟩ _ _ (hg.next z4.below) z4.rd (by omega) (by decide) (by decide) (by decide)).mono ?_
  rw [unhide hv]
  rintro e w5 ⟨rfl, b5, r5⟩
  have z5 := z4.next b5 r5
  have hF5 := b5.row hF4 hFR
  clear z4 b5 r5 hF4
  go_wp2_with fail
  refine (unmark_any v _ hv1).mono ?_
  rintro e w6 ⟨rfl, b6⟩
  have z6 := z5.grow b6
  have hF6 := (But.of (R := w.heap.size + 1) b6).row hF5 hFR
  clear z5 b6 hF5
  obtain ⟨d0, d1, d2, d3, d4, d5, d6, d7, g0, g1, g2, g3, g4, g5, g6, g7⟩ := cells8 hF6
  have z7 := (((z6.set hFl 2 (.bool true)).set hFl 3 (.int .i64 ((v / 8192 : Nat) : Int))).set hFl 4 (.bool (decide (v / 4096 % 2 = 1)))).set hFl 5 (.int .i64 ((v % 4096 : Nat) : Int))
  have hF7 := setTag (v2 := .bool true) (v3 := .int .i64 ((v / 8192 : Nat) : Int)) (v4 := .bool (decide (v / 4096 % 2 = 1))) (v5 := .int .i64 ((v % 4096 : Nat) : Int)) hF6
  have HZ := hide z7
  have HF := hide hF7
  clear z6 hF6 z7 hF7
  go_wp2_with fail
  have z7 := unhide HZ
  have hF7 := unhide HF
  clear HZ HF d0 d1 d2 d3 d4 d5 d6 d7 g0 g1 g2 g3 g4 g5 g6 g7
  refine (number_rd (w.heap.size + 1) 16 2 s ⟨#[116, 121, 112, 101]⟩ _ _ (hg.next z7.below) z7.rd (by omega) (by decide) (by decide) (by decide)).mono ?_
  rw [unhide hk']
  rintro e w4 ⟨rfl, b4, r4⟩
  have z4 := z7.next b4 r4
  have hF4 := b4.row hF7 hFR
  clear z7 b4 r4 hF7
  have ce : w4.cell? ⟨w.heap.size + 1, 2, none⟩ = some .nilIface := z4.rd.c2.trans (congrArg (fun x => some (errV x)) (unhide he))
  have z8 : Rs w w4 s 18 none := ⟨z4.below, z4.row, ⟨z4.rd.c0, z4.rd.c1, ce, z4.rd.f1, z4.rd.f2⟩⟩
  have ca : w4.cell? ⟨w.heap.size + 1, 1, none⟩ = some (.int .i64 18) := z4.rd.c1
  clear z4
  have hm' := hm
  clear hm'
  go_wp2_with fail
  refine (named_any _ _).mono ?_
  rw [hn]
  rintro e w7 ⟨rfl, rfl⟩
  go_wp2_with fail
  clear ce ca
  refine (bytes_rd (w.heap.size + 1) 18 m s ⟨#[98, 111, 100, 121]⟩ none _ (hg.next z8.below) z8.rd (by omega) (by decide) (by omega)).mono ?_
  rintro e w8 ⟨rfl, b8, r8⟩
  have y8 := z8.next b8 r8
  have hF8 := b8.row hF4 hFR
  clear z8 b8 r8 hF4
  have HZ := hide ((y8.set hFl 6 (.int .i64 k)).set hFl 7 (.string (cutAt s 18 m)))
  have HF := hide (setType (v6 := .int .i64 k) (v7 := .string (cutAt s 18 m)) hF8)
  have d6 := (cells8 hF8).2.2.2.2.2.2.1
  have g6 := (cells8 hF8).2.2.2.2.2.2.2.2.2.2.2.2.2.2.1
  have d7 := (cells8 hF8).2.2.2.2.2.2.2.1
  have g7 := (cells8 hF8).2.2.2.2.2.2.2.2.2.2.2.2.2.2.2
  clear y8 hF8
  go_wp2_with fail
  have z9 := unhide HZ
  have hF9 := unhide HF
  clear HZ HF d6 g6 d7 g7
  obtain ⟨W9, hW9⟩ : ∃ W9, W9 = (w8.setCell ⟨F, 6, none⟩ (.int .i64 k)).setCell ⟨F, 7, none⟩ (.string (cutAt s 18 m)) := ⟨_, rfl⟩
  rw [← hW9] at z9 hF9 ⊢
  clear hW9
  obtain ⟨d0, d1, d2, d3, d4, d5, d6, d7, g0, g1, g2, g3, g4, g5, g6, g7⟩ := cells8 hF9
  obtain ⟨c0, c1, c2, c3, c4, c5, c6, c7, f0, f1, f2, f3, f4, f5, f6, f7⟩ := cells8 z9.row
  have ce := z9.rd.c2
  have hb := z9.below
  have HR := hide z9.row
  clear z9 hF9
  go_region
  all_goals
    go_wp2_with fail
    refine bodyPost_ret ?_ rfl ⟨rfl, (below8 hb (Nat.le_refl _)).drew⟩
    exact results_row2 rfl _ _ w.heap.size 26 _ _ _ _ rfl rfl (set8d (unhide HR)) Tryd.underlying26 rfl (by kernel_rfl)
set_option maxRecDepth 20000 in
set_option maxHeartbeats 400000 in
theorem read_bad1 (s : ByteArray) (v k : Nat) (w : World) (hg : Et w) (hs : s.size ≤ 1600) (hk : Hid (numAt s 12 2 = 33024)) (hv : Hid (numAt s 14 2 = v)) (hv1 : v < 65536) (hk' : Hid (numAt s 16 2 = k)) (hk1 : k < 65536) (he : Hid (errAt s 16 2 (errAt s 14 2 (errAt s 12 2 (errAt s 6 6 (errAt s 0 6 none ⟨#[97, 100, 100, 114, 101, 115, 115]⟩) ⟨#[97, 100, 100, 114, 101, 115, 115]⟩) ⟨#[116, 121, 112, 101]⟩) ⟨#[116, 97, 103]⟩) ⟨#[116, 121, 112, 101]⟩ = none)) (h : (1500 : Int) < k) (hn : isType k = false) :
    Calls Tryd.prog 23 #[.string s] w fun e w' => e = .returned (.tuple #[.agg #[.int .u64 0, .int .u64 0, .bool false, .int .i64 0, .bool false, .int .i64 0, .int .i64 0, .string ⟨#[]⟩], .iface 53 (.agg #[.string ⟨#[116, 121, 112, 101]⟩, .int .i64 41])]) ∧ Below w.heap.size w w' := by
  go_enter Tryd.func23, Tryd.ntmps23
  go_wp2_with fail
  have z0 := Rs.start w s
  refine (number_rd (w.heap.size + 1) 0 6 s ⟨#[97, 100, 100, 114, 101, 115, 115]⟩ none _ (hg.next z0.below) z0.rd (by omega) (by decide) (by decide) (by decide)).mono ?_
  rintro e w1 ⟨rfl, b1, r1⟩
  have z1 := z0.next b1 r1
  clear z0 b1 r1
  go_wp2_with fail
  refine (number_rd (w.heap.size + 1) 6 6 s ⟨#[97, 100, 100, 114, 101, 115, 115]⟩ _ _ (hg.next z1.below) z1.rd (by omega) (by decide) (by decide) (by decide)).mono ?_
  rintro e w2 ⟨rfl, b2, r2⟩
  have z2 := z1.next b2 r2
  clear z1 b2 r2
  go_wp2_with fail
  have z3 := z2.grow (alloc_below w2 (.cells #[.int .u64 (numAt s 0 6 : Nat), .int .u64 (numAt s 6 6 : Nat), .bool false, .int .i64 0, .bool false, .int .i64 0, .int .i64 0, .string ⟨#[]⟩] 26))
  have hF := heap_alloc_new w2 (.cells #[.int .u64 (numAt s 0 6 : Nat), .int .u64 (numAt s 6 6 : Nat), .bool false, .int .i64 0, .bool false, .int .i64 0, .int .i64 0, .string ⟨#[]⟩] 26)
  have hFR : w2.heap.size ≠ w.heap.size + 1 := by have := block_lt_of_cell z2.rd.c0; simp only at this; omega
  have hFl : w.heap.size + 2 ≤ w2.heap.size := by have := block_lt_of_cell z2.rd.c0; simp only at this; omega
  clear z2
  refine (number_rd (w.heap.size + 1) 12 2 s ⟨#[116, 121, 112, 101]⟩ _ _ (hg.next z3.below) z3.rd (by omega) (by decide) (by decide) (by decide)).mono ?_
  rw [unhide hk]
  rintro e w4 ⟨rfl, b4, r4⟩
  have z4 := z3.next b4 r4
  have hF4 := b4.row hF hFR
  clear z3 b4 r4 hF
  generalize w2.heap.size = F at *
  go_wp2_with fail
  refine (number_rd (w.heap.size + 1) 14 2 s ⟨#[116, 97, 103]⟩ _ _ (hg.next z4.below) z4.rd (by omega) (by decide) (by decide) (by decide)).mono ?_
  rw [unhide hv]
  rintro e w5 ⟨rfl, b5, r5⟩
  have z5 := z4.next b5 r5
  have hF5 := b5.row hF4 hFR
  clear z4 b5 r5 hF4
  go_wp2_with fail
  refine (unmark_any v _ hv1).mono ?_
  rintro e w6 ⟨rfl, b6⟩
  have z6 := z5.grow b6
  have hF6 := (But.of (R := w.heap.size + 1) b6).row hF5 hFR
  clear z5 b6 hF5
  obtain ⟨d0, d1, d2, d3, d4, d5, d6, d7, g0, g1, g2, g3, g4, g5, g6, g7⟩ := cells8 hF6
  have z7 := (((z6.set hFl 2 (.bool true)).set hFl 3 (.int .i64 ((v / 8192 : Nat) : Int))).set hFl 4 (.bool (decide (v / 4096 % 2 = 1)))).set hFl 5 (.int .i64 ((v % 4096 : Nat) : Int))
  have hF7 := setTag (v2 := .bool true) (v3 := .int .i64 ((v / 8192 : Nat) : Int)) (v4 := .bool (decide (v / 4096 % 2 = 1))) (v5 := .int .i64 ((v % 4096 : Nat) : Int)) hF6
  have HZ := hide z7
  have HF := hide hF7
  clear z6 hF6 z7 hF7
  go_wp2_with fail
  have z7 := unhide HZ
  have hF7 := unhide HF
  clear HZ HF d0 d1 d2 d3 d4 d5 d6 d7 g0 g1 g2 g3 g4 g5 g6 g7
  refine (number_rd (w.heap.size + 1) 16 2 s ⟨#[116, 121, 112, 101]⟩ _ _ (hg.next z7.below) z7.rd (by omega) (by decide) (by decide) (by decide)).mono ?_
  rw [unhide hk']
  rintro e w4 ⟨rfl, b4, r4⟩
  have z4 := z7.next b4 r4
  have hF4 := b4.row hF7 hFR
  clear z7 b4 r4 hF7
  have ce : w4.cell? ⟨w.heap.size + 1, 2, none⟩ = some .nilIface := z4.rd.c2.trans (congrArg (fun x => some (errV x)) (unhide he))
  have z8 : Rs w w4 s 18 none := ⟨z4.below, z4.row, ⟨z4.rd.c0, z4.rd.c1, ce, z4.rd.f1, z4.rd.f2⟩⟩
  have ca : w4.cell? ⟨w.heap.size + 1, 1, none⟩ = some (.int .i64 18) := z4.rd.c1
  clear z4
  obtain ⟨c0, c1, c2, c3, c4, c5, c6, c7, f0, f1, f2, f3, f4, f5, f6, f7⟩ := cells8 z8.row
  have hb := z8.below
  have HR := hide z8.row
  clear z8 hF4
  go_wp2_with fail
  refine (named_any _ _).mono ?_
  rw [hn]
  rintro e w7 ⟨rfl, rfl⟩
  go_wp2_with fail
  refine bodyPost_ret ?_ rfl ⟨rfl, below8 hb (Nat.le_refl _)⟩
  exact results_row2 rfl _ _ w.heap.size 26 _ _ _ _ rfl rfl (set8 (unhide HR)) Tryd.underlying26 rfl (by kernel_rfl)
end Go.Proofs.YtfndofbkfinnmaaDoor
