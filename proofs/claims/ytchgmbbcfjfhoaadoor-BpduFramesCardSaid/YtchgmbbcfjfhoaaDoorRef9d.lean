/-
  The document's answer for bridges' messages: the contract of gangwayref09's Parse at the longest ones; no cell that was there before has turned.
-/
import Derived.Test.YtchgmbbcfjfhoaaDoorRef9
import Derived.Test.YtchgmbbcfjfhoaaDoorLoad9
import Derived.Deep.RegionHeld3
namespace Go.Proofs.YtchgmbbcfjfhoaaDoor
open Go.RowKit Go.Sort

theorem set_six {W : World} {g : Nat} {t : TypeId} {a0 a1 a2 a3 a4 a5 a6 a7 a8 a9 a10 a11 a12 a13 a14 a15 v0 v2 v7 v3 v4 v5 : Value} (h : W.heap[g]? = some (.cells #[a0, a1, a2, a3, a4, a5, a6, a7, a8, a9, a10, a11, a12, a13, a14, a15] t (0, 0))) :
    ((((((W.setCell ⟨g, 0, none⟩ v0).setCell ⟨g, 2, none⟩ v2).setCell ⟨g, 7, none⟩ v7).setCell ⟨g, 3, none⟩ v3).setCell ⟨g, 4, none⟩ v4).setCell ⟨g, 5, none⟩ v5).heap[g]? = some (.cells #[v0, a1, v2, v3, v4, v5, a6, v7, a8, a9, a10, a11, a12, a13, a14, a15] t (0, 0)) := by
  have := heap_setCell_same _ g 5 _ t v5 (heap_setCell_same _ g 4 _ t v4 (heap_setCell_same _ g 3 _ t v3 (heap_setCell_same _ g 7 _ t v7 (heap_setCell_same _ g 2 _ t v2 (heap_setCell_same _ g 0 _ t v0 h)))))
  simpa using this
theorem below_six {B : Nat} {a W : World} {g : Nat} {v0 v2 v7 v3 v4 v5 : Value} (h : Below B a W) (hg : B ≤ g) : Below B a ((((((W.setCell ⟨g, 0, none⟩ v0).setCell ⟨g, 2, none⟩ v2).setCell ⟨g, 7, none⟩ v7).setCell ⟨g, 3, none⟩ v3).setCell ⟨g, 4, none⟩ v4).setCell ⟨g, 5, none⟩ v5) :=
  (((((h.setCell (p := ⟨g, 0, none⟩) hg v0).setCell (p := ⟨g, 2, none⟩) hg v2).setCell (p := ⟨g, 7, none⟩) hg v7).setCell (p := ⟨g, 3, none⟩) hg v3).setCell (p := ⟨g, 4, none⟩) hg v4).setCell (p := ⟨g, 5, none⟩) hg v5
theorem other_six {W : World} {g k : Nat} {v0 v2 v7 v3 v4 v5 : Value} {o : Obj} (h : k ≠ g) (hk : W.heap[k]? = some o) : ((((((W.setCell ⟨g, 0, none⟩ v0).setCell ⟨g, 2, none⟩ v2).setCell ⟨g, 7, none⟩ v7).setCell ⟨g, 3, none⟩ v3).setCell ⟨g, 4, none⟩ v4).setCell ⟨g, 5, none⟩ v5).heap[k]? = some o := by
  rw [heap_setCell_other _ ⟨g, 5, none⟩ k _ h, heap_setCell_other _ ⟨g, 4, none⟩ k _ h, heap_setCell_other _ ⟨g, 3, none⟩ k _ h, heap_setCell_other _ ⟨g, 7, none⟩ k _ h, heap_setCell_other _ ⟨g, 2, none⟩ k _ h, heap_setCell_other _ ⟨g, 0, none⟩ k _ h]
  exact hk
set_option maxRecDepth 100000 in
set_option maxHeartbeats 16000000 in
theorem rparse_rap (S : ByteArray) (P5 QR QB : ByteArray) (f R C B P A M H D : Int) (c x p l d a : Bool) (r : Int) (w : World) (hs : (7 : Int) ≤ (S.size : Int)) (hs2 : (S.size : Int) ≤ 10000) (z5 : ∀ W : World, (Instr.slice 9 (.string S) none (some (.int .i64 5)) none).run Tryd.prog W = .ok (.string P5) W) (h5 : (P5.toList == [66, 66, 3, 0, 0]) = true) 
    (k5 : Hid (∀ W, Calls Tryd.prog 33 #[.string S, .int .i64 5, .int .i64 7] W fun e W' => e = .returned (.int .i64 514) ∧ W' = W)) (h0 : ¬ (S.size : Int) < 38) (h00 : ¬ (S.size : Int) < 39) (k7 : Hid (∀ W, Calls Tryd.prog 33 #[.string S, .int .i64 7, .int .i64 8] W fun e W' => e = .returned (.int .i64 f) ∧ W' = W))
    (nC : Hid (∀ W, Calls Tryd.prog 33 #[.string S, .int .i64 16, .int .i64 20] W fun e W' => e = .returned (.int .i64 C) ∧ W' = W))
    (nP : Hid (∀ W, Calls Tryd.prog 33 #[.string S, .int .i64 28, .int .i64 30] W fun e W' => e = .returned (.int .i64 P) ∧ W' = W))
    (nA : Hid (∀ W, Calls Tryd.prog 33 #[.string S, .int .i64 30, .int .i64 32] W fun e W' => e = .returned (.int .i64 A) ∧ W' = W))
    (nM : Hid (∀ W, Calls Tryd.prog 33 #[.string S, .int .i64 32, .int .i64 34] W fun e W' => e = .returned (.int .i64 M) ∧ W' = W))
    (nH : Hid (∀ W, Calls Tryd.prog 33 #[.string S, .int .i64 34, .int .i64 36] W fun e W' => e = .returned (.int .i64 H) ∧ W' = W))
    (nD : Hid (∀ W, Calls Tryd.prog 33 #[.string S, .int .i64 36, .int .i64 38] W fun e W' => e = .returned (.int .i64 D) ∧ W' = W))
    (zR : ∀ W : World, (Instr.slice 9 (.string S) (some (.int .i64 8)) (some (.int .i64 16)) none).run Tryd.prog W = .ok (.string QR) W) (zB : ∀ W : World, (Instr.slice 9 (.string S) (some (.int .i64 20)) (some (.int .i64 28)) none).run Tryd.prog W = .ok (.string QB) W)
    (nR : Hid (∀ W, Calls Tryd.prog 34 #[.string QR] W fun e W' => e = .returned (.int .u64 R) ∧ W' = W)) (nB : Hid (∀ W, Calls Tryd.prog 34 #[.string QB] W fun e W' => e = .returned (.int .u64 B) ∧ W' = W)) (hc : (f.tmod 2 == 1) = c) (hx : (IntKind.i64.wrap (f.tdiv 128) == 1) = x) 
    (hp : ((wrap64 (f.tdiv 2)).tmod 2 == 1) = p) (hr : (wrap64 (f.tdiv 4)).tmod 4 = r) (hl : ((wrap64 (f.tdiv 16)).tmod 2 == 1) = l) (hd : ((wrap64 (f.tdiv 32)).tmod 2 == 1) = d) (ha : ((wrap64 (f.tdiv 64)).tmod 2 == 1) = a)  :
    Calls Tryd.prog 15 #[.string S] w fun e w' => e = .returned (.tuple #[.agg #[.int .i64 2, .bool c, .bool p, .bool l, .bool d, .bool a, .bool x, .int .i64 r, .int .u64 R, .int .i64 C, .int .u64 B, .int .i64 P, .int .i64 A, .int .i64 M, .int .i64 H, .int .i64 D], .int .i64 0]) ∧ Below w.heap.size w w' := by
  go_enter Tryd.func15, Tryd.ntmps15
  go_wp2_with fail
  refine (unhide k5 _).mono ?_
  rintro e w1 ⟨rfl, rfl⟩
  clear k5
  go_wp2_with fail
  refine (unhide k7 _).mono ?_
  rintro e w1 ⟨rfl, rfl⟩
  clear k7
  go_wp2_with fail
  have hb := hide (Below.drew (alloc_then (o := .cells #[.int .i64 0, .bool c, .bool false, .bool false, .bool false, .bool false, .bool x, .int .i64 0, .int .u64 R, .int .i64 C, .int .u64 B, .int .i64 P, .int .i64 A, .int .i64 M, .int .i64 H, .int .i64 D] 24) (alloc_below w (.cells #[.int .i64 0, .bool false, .bool false, .bool false, .bool false, .bool false, .bool false, .int .i64 0, .int .u64 0, .int .i64 0, .int .u64 0, .int .i64 0, .int .i64 0, .int .i64 0, .int .i64 0, .int .i64 0] 24))))
  have hr := hide (heap_alloc2_old w (.cells #[.int .i64 0, .bool false, .bool false, .bool false, .bool false, .bool false, .bool false, .int .i64 0, .int .u64 0, .int .i64 0, .int .u64 0, .int .i64 0, .int .i64 0, .int .i64 0, .int .i64 0, .int .i64 0] 24) (.cells #[.int .i64 0, .bool c, .bool false, .bool false, .bool false, .bool false, .bool x, .int .i64 0, .int .u64 R, .int .i64 C, .int .u64 B, .int .i64 P, .int .i64 A, .int .i64 M, .int .i64 H, .int .i64 D] 24))
  have hq := hide (heap_alloc2_new w (.cells #[.int .i64 0, .bool false, .bool false, .bool false, .bool false, .bool false, .bool false, .int .i64 0, .int .u64 0, .int .i64 0, .int .u64 0, .int .i64 0, .int .i64 0, .int .i64 0, .int .i64 0, .int .i64 0] 24) (.cells #[.int .i64 0, .bool c, .bool false, .bool false, .bool false, .bool false, .bool x, .int .i64 0, .int .u64 R, .int .i64 C, .int .u64 B, .int .i64 P, .int .i64 A, .int .i64 M, .int .i64 H, .int .i64 D] 24))
  go_upto_region 13 with fail
  go_cut [6] (fun v wx => v = .pointer (some ⟨w.heap.size + 1, 0, none⟩) ∧ ((w.alloc (.cells #[.int .i64 0, .bool false, .bool false, .bool false, .bool false, .bool false, .bool false, .int .i64 0, .int .u64 0, .int .i64 0, .int .u64 0, .int .i64 0, .int .i64 0, .int .i64 0, .int .i64 0, .int .i64 0] 24)).alloc (.cells #[.int .i64 0, .bool c, .bool false, .bool false, .bool false, .bool false, .bool x, .int .i64 0, .int .u64 R, .int .i64 C, .int .u64 B, .int .i64 P, .int .i64 A, .int .i64 M, .int .i64 H, .int .i64 D] 24)).drew = wx)
  case first =>
    go_region_held3 (fun _ => True) (exact True.intro) (first | (go_at_call_of 33 (#[.string S, .int .i64 16, .int .i64 20] : Array Value); refine (unhide nC _).mono ?_; rintro e9 w9 ⟨rfl, rfl⟩) | (go_at_call_of 33 (#[.string S, .int .i64 28, .int .i64 30] : Array Value); refine (unhide nP _).mono ?_; rintro e9 w9 ⟨rfl, rfl⟩) | (go_at_call_of 33 (#[.string S, .int .i64 30, .int .i64 32] : Array Value); refine (unhide nA _).mono ?_; rintro e9 w9 ⟨rfl, rfl⟩) | (go_at_call_of 33 (#[.string S, .int .i64 32, .int .i64 34] : Array Value); refine (unhide nM _).mono ?_; rintro e9 w9 ⟨rfl, rfl⟩) | (go_at_call_of 33 (#[.string S, .int .i64 34, .int .i64 36] : Array Value); refine (unhide nH _).mono ?_; rintro e9 w9 ⟨rfl, rfl⟩) | (go_at_call_of 33 (#[.string S, .int .i64 36, .int .i64 38] : Array Value); refine (unhide nD _).mono ?_; rintro e9 w9 ⟨rfl, rfl⟩) | (go_at_call_of 34 QR; refine (unhide nR _).mono ?_; rintro e9 w9 ⟨rfl, rfl⟩) | (go_at_call_of 34 QB; refine (unhide nB _).mono ?_; rintro e9 w9 ⟨rfl, rfl⟩))
    all_goals
      go_wp2_with fail
      go_meet
      exact ⟨rfl, rfl⟩
  case rest =>
    obtain ⟨rfl, rfl⟩ := hcut
    have HR := hide ((heap_drew ((w.alloc (.cells #[.int .i64 0, .bool false, .bool false, .bool false, .bool false, .bool false, .bool false, .int .i64 0, .int .u64 0, .int .i64 0, .int .u64 0, .int .i64 0, .int .i64 0, .int .i64 0, .int .i64 0, .int .i64 0] 24)).alloc (.cells #[.int .i64 0, .bool c, .bool false, .bool false, .bool false, .bool false, .bool x, .int .i64 0, .int .u64 R, .int .i64 C, .int .u64 B, .int .i64 P, .int .i64 A, .int .i64 M, .int .i64 H, .int .i64 D] 24))).symm ▸ unhide hr)
    have HQ := hide ((heap_drew ((w.alloc (.cells #[.int .i64 0, .bool false, .bool false, .bool false, .bool false, .bool false, .bool false, .int .i64 0, .int .u64 0, .int .i64 0, .int .u64 0, .int .i64 0, .int .i64 0, .int .i64 0, .int .i64 0, .int .i64 0] 24)).alloc (.cells #[.int .i64 0, .bool c, .bool false, .bool false, .bool false, .bool false, .bool x, .int .i64 0, .int .u64 R, .int .i64 C, .int .u64 B, .int .i64 P, .int .i64 A, .int .i64 M, .int .i64 H, .int .i64 D] 24))).symm ▸ unhide hq)
    clear hr hq
    generalize ((w.alloc (.cells #[.int .i64 0, .bool false, .bool false, .bool false, .bool false, .bool false, .bool false, .int .i64 0, .int .u64 0, .int .i64 0, .int .u64 0, .int .i64 0, .int .i64 0, .int .i64 0, .int .i64 0, .int .i64 0] 24)).alloc (.cells #[.int .i64 0, .bool c, .bool false, .bool false, .bool false, .bool false, .bool x, .int .i64 0, .int .u64 R, .int .i64 C, .int .u64 B, .int .i64 P, .int .i64 A, .int .i64 M, .int .i64 H, .int .i64 D] 24)).drew = v at *
    obtain ⟨c0, c1, c2, c3, c4, c5, c6, c7, c8, c9, c10, c11, c12, c13, c14, c15, g0, g1, g2, g3, g4, g5, g6, g7, g8, g9, g10, g11, g12, g13, g14, g15⟩ := cells16 (unhide HQ)
    have h2 := hide (below_six (g := w.heap.size + 1) (v0 := .int .i64 2) (v2 := .bool p) (v7 := .int .i64 r) (v3 := .bool l) (v4 := .bool d) (v5 := .bool a) (unhide hb) (Nat.le_succ w.heap.size))
    have q2 := hide (set_six (g := w.heap.size + 1) (v0 := .int .i64 2) (v2 := .bool p) (v7 := .int .i64 r) (v3 := .bool l) (v4 := .bool d) (v5 := .bool a) (unhide HQ))
    have r2 := hide (other_six (g := w.heap.size + 1) (v0 := .int .i64 2) (v2 := .bool p) (v7 := .int .i64 r) (v3 := .bool l) (v4 := .bool d) (v5 := .bool a) (Nat.ne_of_lt (Nat.lt_succ_self w.heap.size)) (unhide HR))
    clear hb HR HQ
    go_upto_region 21 with fail
    generalize ((((((v.setCell ⟨w.heap.size + 1, 0, none⟩ (.int .i64 2)).setCell ⟨w.heap.size + 1, 2, none⟩ (.bool p)).setCell ⟨w.heap.size + 1, 7, none⟩ (.int .i64 r)).setCell ⟨w.heap.size + 1, 3, none⟩ (.bool l)).setCell ⟨w.heap.size + 1, 4, none⟩ (.bool d)).setCell ⟨w.heap.size + 1, 5, none⟩ (.bool a)) = v2 at *
    clear c0 c1 c2 c3 c4 c5 c6 c7 c8 c9 c10 c11 c12 c13 c14 c15 g0 g1 g2 g3 g4 g5 g6 g7 g8 g9 g10 g11 g12 g13 g14 g15
    obtain ⟨c0, c1, c2, c3, c4, c5, c6, c7, c8, c9, c10, c11, c12, c13, c14, c15, g0, g1, g2, g3, g4, g5, g6, g7, g8, g9, g10, g11, g12, g13, g14, g15⟩ := cells16 (unhide r2)
    go_wp2_with (first | (refine load_want 24 _ rfl (w.heap.size + 1) rfl rfl 24 _ _ _ (unhide q2) Tryd.underlying24 rfl (by kernel_rfl) ?_; simp only [Act.put, List.setIfInBounds_toArray, List.set_cons_zero, List.set_cons_succ]))
    refine bodyPost_ret (v := .tuple #[.agg #[.int .i64 2, .bool c, .bool p, .bool l, .bool d, .bool a, .bool x, .int .i64 r, .int .u64 R, .int .i64 C, .int .u64 B, .int .i64 P, .int .i64 A, .int .i64 M, .int .i64 H, .int .i64 D], .int .i64 0]) ?_ rfl ⟨rfl, below16 (unhide h2) (Nat.le_refl _)⟩
    exact results_row2 rfl _ _ w.heap.size 24 _ _ _ _ rfl rfl (set16 (unhide r2)) Tryd.underlying24 rfl (by kernel_rfl)
end Go.Proofs.YtchgmbbcfjfhoaaDoor
