/-
  The contracts of ether.unmark, Tagged and Bare.
-/
import Derived.Test.YtfndofbkfinnmaaDoorEther6
import Derived.Laws.Rows
import Derived.Laws.ResultCell
namespace Go.Proofs.YtfndofbkfinnmaaDoor
open Go.RowKit Go.Sort

theorem wrap64_id {n : Int} (h0 : 0 ≤ n) (h1 : n < 9223372036854775808) : wrap64 n = n := by unfold wrap64; omega
theorem heap_last (W : World) (o : Obj) (k : Nat) (h : W.heap.size = k) : (W.alloc o).heap[k]? = some o := by subst h; exact heap_alloc_new W o
/-- eight cells that lie in one block, and may be written -/
theorem cells8 {W : World} {g : Nat} {t : TypeId} {a0 a1 a2 a3 a4 a5 a6 a7 : Value} (h : W.heap[g]? = some (.cells #[a0, a1, a2, a3, a4, a5, a6, a7] t (0, 0))) :
    W.cell? ⟨g, 0, none⟩ = some a0 ∧ W.cell? ⟨g, 1, none⟩ = some a1 ∧ W.cell? ⟨g, 2, none⟩ = some a2 ∧ W.cell? ⟨g, 3, none⟩ = some a3 ∧ W.cell? ⟨g, 4, none⟩ = some a4 ∧ W.cell? ⟨g, 5, none⟩ = some a5 ∧ W.cell? ⟨g, 6, none⟩ = some a6 ∧ W.cell? ⟨g, 7, none⟩ = some a7 ∧
    W.frozen? ⟨g, 0, none⟩ = false ∧ W.frozen? ⟨g, 1, none⟩ = false ∧ W.frozen? ⟨g, 2, none⟩ = false ∧ W.frozen? ⟨g, 3, none⟩ = false ∧ W.frozen? ⟨g, 4, none⟩ = false ∧ W.frozen? ⟨g, 5, none⟩ = false ∧ W.frozen? ⟨g, 6, none⟩ = false ∧ W.frozen? ⟨g, 7, none⟩ = false :=
  ⟨cell_of_row W g 0 _ _ _ h, cell_of_row W g 1 _ _ _ h, cell_of_row W g 2 _ _ _ h, cell_of_row W g 3 _ _ _ h, cell_of_row W g 4 _ _ _ h, cell_of_row W g 5 _ _ _ h, cell_of_row W g 6 _ _ _ h, cell_of_row W g 7 _ _ _ h,
   frozen_of_row W g 0 _ _ h, frozen_of_row W g 1 _ _ h, frozen_of_row W g 2 _ _ h, frozen_of_row W g 3 _ _ h, frozen_of_row W g 4 _ _ h, frozen_of_row W g 5 _ _ h, frozen_of_row W g 6 _ _ h, frozen_of_row W g 7 _ _ h⟩
theorem set8 {W : World} {g : Nat} {t : TypeId} {a0 a1 a2 a3 a4 a5 a6 a7 v0 v1 v2 v3 v4 v5 v6 v7 : Value} (h : W.heap[g]? = some (.cells #[a0, a1, a2, a3, a4, a5, a6, a7] t (0, 0))) :
    ((((((((W.setCell ⟨g, 0, none⟩ v0).setCell ⟨g, 1, none⟩ v1).setCell ⟨g, 2, none⟩ v2).setCell ⟨g, 3, none⟩ v3).setCell ⟨g, 4, none⟩ v4).setCell ⟨g, 5, none⟩ v5).setCell ⟨g, 6, none⟩ v6).setCell ⟨g, 7, none⟩ v7).heap[g]? = some (.cells #[v0, v1, v2, v3, v4, v5, v6, v7] t (0, 0)) := by
  have := heap_setCell_same _ g 7 _ t v7 (heap_setCell_same _ g 6 _ t v6 (heap_setCell_same _ g 5 _ t v5 (heap_setCell_same _ g 4 _ t v4 (heap_setCell_same _ g 3 _ t v3 (heap_setCell_same _ g 2 _ t v2 (heap_setCell_same _ g 1 _ t v1 (heap_setCell_same _ g 0 _ t v0 h)))))))
  simpa using this
theorem below8 {B : Nat} {a W : World} {g : Nat} {v0 v1 v2 v3 v4 v5 v6 v7 : Value} (h : Below B a W) (hg : B ≤ g) :
    Below B a ((((((((W.setCell ⟨g, 0, none⟩ v0).setCell ⟨g, 1, none⟩ v1).setCell ⟨g, 2, none⟩ v2).setCell ⟨g, 3, none⟩ v3).setCell ⟨g, 4, none⟩ v4).setCell ⟨g, 5, none⟩ v5).setCell ⟨g, 6, none⟩ v6).setCell ⟨g, 7, none⟩ v7) :=
  (((((((h.setCell (p := ⟨g, 0, none⟩) hg v0).setCell (p := ⟨g, 1, none⟩) hg v1).setCell (p := ⟨g, 2, none⟩) hg v2).setCell (p := ⟨g, 3, none⟩) hg v3).setCell (p := ⟨g, 4, none⟩) hg v4).setCell (p := ⟨g, 5, none⟩) hg v5).setCell (p := ⟨g, 6, none⟩) hg v6).setCell (p := ⟨g, 7, none⟩) hg v7
theorem results_row2 {P : Program} {fn : Func} {p u : Tmp} {ty : TypeId} (h : fn.results = #[.cell p ty, .tmp u]) (tmps : Array Value) (w : World) (g : Nat) (t : TypeId) (cs : Array Value) (fr : Nat × Nat) (d : TypeDesc) (v : Value)
    (hp : tmps.getD p undef = .pointer (some ⟨g, 0, none⟩)) (hv : tmps.getD u undef = v) (hg : w.heap[g]? = some (.cells cs t fr))
    (hu : P.underlying ty = some d) (hd : (match d with | .struct _ | .array _ _ => true | _ => false) = true) (hi : (P.info? ty).map (·.size) = some cs.size) :
    (results fn tmps).run P w = .ok (.tuple #[.agg cs, v]) w := by
  have hp' : tmps[p]?.getD undef = .pointer (some ⟨g, 0, none⟩) := by simpa using hp
  have hv' : tmps[u]?.getD undef = v := by simpa using hv
  rw [results_cell_tmp h]
  simp [hp', hv', asAddr, Result.andThen, run_loadVar_row w g t ty cs fr d hg hu hd hi]
theorem and_nat (a k m : Nat) (ha : a < 18446744073709551616) (hk : 2 ^ k = m) (hm : m ≤ 65536) (hm1 : 1 ≤ m) : bits .and .u64 (a : Int) ((m - 1 : Nat) : Int) = ((a % m : Nat) : Int) := by
  rw [u64_and_nat _ _ ha (by omega), ← hk, Nat.and_two_pow_sub_one_eq_mod]
set_option maxRecDepth 20000 in
theorem unmark_any (v : Nat) (w : World) (hv : v < 65536) :
    Calls Tryd.prog 33 #[.int .u64 v] w fun e w' => e = .returned (.agg #[.bool true, .int .i64 ((v / 8192 : Nat) : Int), .bool (decide (v / 4096 % 2 = 1)), .int .i64 ((v % 4096 : Nat) : Int)]) ∧ Below w.heap.size w w' := by
  have e1 : bits BinOp.and IntKind.u64 ((v : Int) / 4096) 1 = ((v / 4096 % 2 : Nat) : Int) := and_nat (v / 4096) 1 2 (by omega) rfl (by decide) (by decide)
  have e2 : bits BinOp.and IntKind.u64 (v : Int) 4095 = ((v % 4096 : Nat) : Int) := and_nat v 12 4096 (by omega) rfl (by decide) (by decide)
  have e3 : wrap64 ((v % 4096 : Nat) : Int) = ((v % 4096 : Nat) : Int) := wrap64_id (by omega) (by omega)
  have e4 : (((v / 4096 % 2 : Nat) : Int) == 1) = decide (v / 4096 % 2 = 1) := by
    by_cases z : v / 4096 % 2 = 1
    · rw [z]; rfl
    · rw [decide_eq_false z, beq_eq_false_iff_ne]; omega
  have e5 : (v : Int) / 8192 = ((v / 8192 : Nat) : Int) := by omega
  have E := hide (And.intro e1 (And.intro e2 (And.intro e3 (And.intro e4 e5))))
  clear e1 e2 e3 e4 e5
  go_enter Tryd.func33, Tryd.ntmps33
  go_wp2
  obtain ⟨e1, e2, e3, e4, e5⟩ := unhide E
  rw [e1, e2, e3, e4, e5]
  refine bodyPost_ret ?_ rfl ⟨rfl, alloc_below _ _⟩
  exact results_cell_row rfl _ _ w.heap.size 24 _ _ _ rfl (heap_last w _ _ rfl) Tryd.underlying24 rfl (by kernel_rfl)
set_option maxRecDepth 20000 in
theorem tagged_any (d s : Int) (has : Bool) (pri : Int) (dei : Bool) (vid ty : Int) (b : ByteArray) (has2 : Bool) (pri2 : Int) (dei2 : Bool) (vid2 : Int) (w : World) :
    Calls Tryd.prog 10 #[.agg #[.int .u64 d, .int .u64 s, .bool has, .int .i64 pri, .bool dei, .int .i64 vid, .int .i64 ty, .string b], .agg #[.bool has2, .int .i64 pri2, .bool dei2, .int .i64 vid2]] w fun e w' => e = .returned (.agg #[.int .u64 d, .int .u64 s, .bool has2, .int .i64 pri2, .bool dei2, .int .i64 vid2, .int .i64 ty, .string b]) ∧ Below w.heap.size w w' := by
  go_enter Tryd.func10, Tryd.ntmps10
  go_wp2
  refine bodyPost_ret ?_ rfl ⟨rfl, ((alloc_below w _).alloc (by simp) _).alloc (by simp; omega) _⟩
  exact results_cell_row rfl _ _ (w.heap.size + 1 + 1) 26 _ _ _ rfl (heap_last _ _ _ (by simp)) Tryd.underlying26 rfl (by kernel_rfl)
set_option maxRecDepth 20000 in
theorem bare_any (d s : Int) (has : Bool) (pri : Int) (dei : Bool) (vid ty : Int) (b : ByteArray) (w : World) :
    Calls Tryd.prog 14 #[.agg #[.int .u64 d, .int .u64 s, .bool has, .int .i64 pri, .bool dei, .int .i64 vid, .int .i64 ty, .string b]] w fun e w' => e = .returned (.agg #[.int .u64 d, .int .u64 s, .bool false, .int .i64 0, .bool false, .int .i64 0, .int .i64 ty, .string b]) ∧ Below w.heap.size w w' := by
  go_enter Tryd.func14, Tryd.ntmps14
  go_wp2_with fail
  refine (tagged_any d s has pri dei vid ty b false 0 false 0 _).mono ?_
  rintro e w1 ⟨rfl, b1⟩
  have hrow := (b1.block (w.heap.size + 1) (by simp)).trans (heap_alloc2_new w _ _)
  have hb := bthen ((alloc_below w _).alloc (by simp) _) b1
  clear b1
  obtain ⟨c0, c1, c2, c3, c4, c5, c6, c7, f0, f1, f2, f3, f4, f5, f6, f7⟩ := cells8 hrow
  have HR := hide hrow
  clear hrow
  go_wp2_with fail
  refine bodyPost_ret ?_ rfl ⟨rfl, below8 hb (Nat.le_succ _)⟩
  exact results_cell_row rfl _ _ (w.heap.size + 1) 26 _ _ _ rfl (set8 (unhide HR)) Tryd.underlying26 rfl (by kernel_rfl)
end Go.Proofs.YtfndofbkfinnmaaDoor
