/-
  What stage 10's texts stand on: blocks made and kept, structs of one to four cells in a block of their own, a struct told as a result, contracts in a world with more blocks; all as it was but for two blocks. No function is named here.
-/
import Derived.Test.YtagfaaciakbnbaaProg
import Derived.WalkKit
import Derived.Outline
import Derived.Lib.BufferRead
import Derived.Laws.BitsAllLaws
import Derived.RowKitTokens
import Derived.Below
import Derived.Laws.Rows
import Derived.Laws.ResultCell
import Derived.Laws.StructEq
import Derived.Laws.AppendOwn
import Derived.Laws.OwnMore
import Derived.BigQuiet
import Derived.BigFrame
import Derived.Lib.QuietBelow
import Derived.Deep.RegionWith
namespace Go.Proofs.Ytagfaaciakbnbaa
open Go.RowKit Go.Sort

theorem bthen {w w1 w2 : World} (h1 : Below w.heap.size w w1) (h2 : Below w1.heap.size w1 w2) : Below w.heap.size w w2 := h1.trans (h2.mono h1.size)
theorem alloc_below (w : World) (o : Obj) : Below w.heap.size w (w.alloc o) := (Below.refl _ _).alloc (Nat.le_refl _) _
theorem alloc_then {w W : World} {o : Obj} (h : Below w.heap.size w W) : Below w.heap.size w (W.alloc o) := h.alloc h.size _
theorem wrap64_id {n : Int} (h0 : 0 ≤ n) (h1 : n < 9223372036854775808) : wrap64 n = n := by unfold wrap64; omega
theorem heap_last (W : World) (o : Obj) (k : Nat) (h : W.heap.size = k) : (W.alloc o).heap[k]? = some o := by subst h; exact heap_alloc_new W o
theorem lt_of_row {W : World} {g : Nat} {o : Obj} (h : W.heap[g]? = some o) : g < W.heap.size := by
  rcases Nat.lt_or_ge g W.heap.size with h' | h'
  · exact h'
  · simp [Array.getElem?_eq_none h'] at h
theorem Below.row {W W' : World} {g : Nat} {o : Obj} (b : Below W.heap.size W W') (h : W.heap[g]? = some o) : W'.heap[g]? = some o := (b.block g (lt_of_row h)).trans h
theorem results_row2 {P : Program} {fn : Func} {p u : Tmp} {ty : TypeId} (h : fn.results = #[.cell p ty, .tmp u]) (tmps : Array Value) (w : World) (g : Nat) (t : TypeId) (cs : Array Value) (fr : Nat × Nat) (d : TypeDesc) (v : Value)
    (hp : tmps.getD p undef = .pointer (some ⟨g, 0, none⟩)) (hv : tmps.getD u undef = v) (hg : w.heap[g]? = some (.cells cs t fr))
    (hu : P.underlying ty = some d) (hd : (match d with | .struct _ | .array _ _ => true | _ => false) = true) (hi : (P.info? ty).map (·.size) = some cs.size) :
    (results fn tmps).run P w = .ok (.tuple #[.agg cs, v]) w := by
  have hp' : tmps[p]?.getD undef = .pointer (some ⟨g, 0, none⟩) := by simpa using hp
  have hv' : tmps[u]?.getD undef = v := by simpa using hv
  rw [results_cell_tmp h]
  simp [hp', hv', asAddr, Result.andThen, run_loadVar_row w g t ty cs fr d hg hu hd hi]
/-- a contract that leaves what was there, in a world with more blocks -/
theorem at_grown {P : Program} {f : FuncId} {args : Array Value} {v : Value} (h : ∀ W, Calls P f args W fun e W' => e = .returned v ∧ Below W.heap.size W W') (W : World) :
    ∀ d os, Calls P f args (grow (redrawn W d) os) fun e w'' => e = .returned v ∧ ∃ p : Regrown, w'' = grow (redrawn W p.d) p.os := fun _ _ => Calls.regrown_of (h _)
theorem grown_then {w W : World} (h : Below w.heap.size w W) (d : Nat) (os : Array Obj) : Below w.heap.size w (grow (redrawn W d) os) := h.trans ((below_regrown W d os).mono h.size)
theorem cells1 {W : World} {g : Nat} {t : TypeId} {a0 : Value} (h : W.heap[g]? = some (.cells #[a0] t (0, 0))) :
    W.cell? ⟨g, 0, none⟩ = some a0 ∧
    W.frozen? ⟨g, 0, none⟩ = false :=
  ⟨cell_of_row W g 0 _ _ _ h, frozen_of_row W g 0 _ _ h⟩
theorem set1 {W : World} {g : Nat} {t : TypeId} {a0 v0 : Value} (h : W.heap[g]? = some (.cells #[a0] t (0, 0))) :
    (W.setCell ⟨g, 0, none⟩ v0).heap[g]? = some (.cells #[v0] t (0, 0)) := by
  have := heap_setCell_same _ g 0 _ t v0 h
  simpa using this
theorem set1d {W : World} {g : Nat} {t : TypeId} {a0 v0 : Value} (h : W.heap[g]? = some (.cells #[a0] t (0, 0))) :
    (W.setCell ⟨g, 0, none⟩ v0).drew.heap[g]? = some (.cells #[v0] t (0, 0)) := by
  rw [heap_drew]; exact set1 h
theorem below1 {B : Nat} {a W : World} {g : Nat} {v0 : Value} (h : Below B a W) (hg : B ≤ g) : Below B a (W.setCell ⟨g, 0, none⟩ v0) :=
  h.setCell (p := ⟨g, 0, none⟩) hg v0
theorem other1 {W : World} {g k : Nat} {v0 : Value} {o : Obj} (h : k ≠ g) (hk : W.heap[k]? = some o) : (W.setCell ⟨g, 0, none⟩ v0).heap[k]? = some o := by
  rw [heap_setCell_other _ ⟨g, 0, none⟩ k _ h]
  exact hk
theorem cells2 {W : World} {g : Nat} {t : TypeId} {a0 a1 : Value} (h : W.heap[g]? = some (.cells #[a0, a1] t (0, 0))) :
    W.cell? ⟨g, 0, none⟩ = some a0 ∧ W.cell? ⟨g, 1, none⟩ = some a1 ∧
    W.frozen? ⟨g, 0, none⟩ = false ∧ W.frozen? ⟨g, 1, none⟩ = false :=
  ⟨cell_of_row W g 0 _ _ _ h, cell_of_row W g 1 _ _ _ h, frozen_of_row W g 0 _ _ h, frozen_of_row W g 1 _ _ h⟩
theorem set2 {W : World} {g : Nat} {t : TypeId} {a0 a1 v0 v1 : Value} (h : W.heap[g]? = some (.cells #[a0, a1] t (0, 0))) :
    ((W.setCell ⟨g, 0, none⟩ v0).setCell ⟨g, 1, none⟩ v1).heap[g]? = some (.cells #[v0, v1] t (0, 0)) := by
  have := heap_setCell_same _ g 1 _ t v1 (heap_setCell_same _ g 0 _ t v0 h)
  simpa using this
theorem set2d {W : World} {g : Nat} {t : TypeId} {a0 a1 v0 v1 : Value} (h : W.heap[g]? = some (.cells #[a0, a1] t (0, 0))) :
    ((W.setCell ⟨g, 0, none⟩ v0).setCell ⟨g, 1, none⟩ v1).drew.heap[g]? = some (.cells #[v0, v1] t (0, 0)) := by
  rw [heap_drew]; exact set2 h
theorem below2 {B : Nat} {a W : World} {g : Nat} {v0 v1 : Value} (h : Below B a W) (hg : B ≤ g) : Below B a ((W.setCell ⟨g, 0, none⟩ v0).setCell ⟨g, 1, none⟩ v1) :=
  (h.setCell (p := ⟨g, 0, none⟩) hg v0).setCell (p := ⟨g, 1, none⟩) hg v1
theorem other2 {W : World} {g k : Nat} {v0 v1 : Value} {o : Obj} (h : k ≠ g) (hk : W.heap[k]? = some o) : ((W.setCell ⟨g, 0, none⟩ v0).setCell ⟨g, 1, none⟩ v1).heap[k]? = some o := by
  rw [heap_setCell_other _ ⟨g, 1, none⟩ k _ h, heap_setCell_other _ ⟨g, 0, none⟩ k _ h]
  exact hk
theorem cells3 {W : World} {g : Nat} {t : TypeId} {a0 a1 a2 : Value} (h : W.heap[g]? = some (.cells #[a0, a1, a2] t (0, 0))) :
    W.cell? ⟨g, 0, none⟩ = some a0 ∧ W.cell? ⟨g, 1, none⟩ = some a1 ∧ W.cell? ⟨g, 2, none⟩ = some a2 ∧
    W.frozen? ⟨g, 0, none⟩ = false ∧ W.frozen? ⟨g, 1, none⟩ = false ∧ W.frozen? ⟨g, 2, none⟩ = false :=
  ⟨cell_of_row W g 0 _ _ _ h, cell_of_row W g 1 _ _ _ h, cell_of_row W g 2 _ _ _ h, frozen_of_row W g 0 _ _ h, frozen_of_row W g 1 _ _ h, frozen_of_row W g 2 _ _ h⟩
theorem set3 {W : World} {g : Nat} {t : TypeId} {a0 a1 a2 v0 v1 v2 : Value} (h : W.heap[g]? = some (.cells #[a0, a1, a2] t (0, 0))) :
    (((W.setCell ⟨g, 0, none⟩ v0).setCell ⟨g, 1, none⟩ v1).setCell ⟨g, 2, none⟩ v2).heap[g]? = some (.cells #[v0, v1, v2] t (0, 0)) := by
  have := heap_setCell_same _ g 2 _ t v2 (heap_setCell_same _ g 1 _ t v1 (heap_setCell_same _ g 0 _ t v0 h))
  simpa using this
theorem set3d {W : World} {g : Nat} {t : TypeId} {a0 a1 a2 v0 v1 v2 : Value} (h : W.heap[g]? = some (.cells #[a0, a1, a2] t (0, 0))) :
    (((W.setCell ⟨g, 0, none⟩ v0).setCell ⟨g, 1, none⟩ v1).setCell ⟨g, 2, none⟩ v2).drew.heap[g]? = some (.cells #[v0, v1, v2] t (0, 0)) := by
  rw [heap_drew]; exact set3 h
theorem below3 {B : Nat} {a W : World} {g : Nat} {v0 v1 v2 : Value} (h : Below B a W) (hg : B ≤ g) : Below B a (((W.setCell ⟨g, 0, none⟩ v0).setCell ⟨g, 1, none⟩ v1).setCell ⟨g, 2, none⟩ v2) :=
  ((h.setCell (p := ⟨g, 0, none⟩) hg v0).setCell (p := ⟨g, 1, none⟩) hg v1).setCell (p := ⟨g, 2, none⟩) hg v2
theorem other3 {W : World} {g k : Nat} {v0 v1 v2 : Value} {o : Obj} (h : k ≠ g) (hk : W.heap[k]? = some o) : (((W.setCell ⟨g, 0, none⟩ v0).setCell ⟨g, 1, none⟩ v1).setCell ⟨g, 2, none⟩ v2).heap[k]? = some o := by
  rw [heap_setCell_other _ ⟨g, 2, none⟩ k _ h, heap_setCell_other _ ⟨g, 1, none⟩ k _ h, heap_setCell_other _ ⟨g, 0, none⟩ k _ h]
  exact hk
theorem cells4 {W : World} {g : Nat} {t : TypeId} {a0 a1 a2 a3 : Value} (h : W.heap[g]? = some (.cells #[a0, a1, a2, a3] t (0, 0))) :
    W.cell? ⟨g, 0, none⟩ = some a0 ∧ W.cell? ⟨g, 1, none⟩ = some a1 ∧ W.cell? ⟨g, 2, none⟩ = some a2 ∧ W.cell? ⟨g, 3, none⟩ = some a3 ∧
    W.frozen? ⟨g, 0, none⟩ = false ∧ W.frozen? ⟨g, 1, none⟩ = false ∧ W.frozen? ⟨g, 2, none⟩ = false ∧ W.frozen? ⟨g, 3, none⟩ = false :=
  ⟨cell_of_row W g 0 _ _ _ h, cell_of_row W g 1 _ _ _ h, cell_of_row W g 2 _ _ _ h, cell_of_row W g 3 _ _ _ h, frozen_of_row W g 0 _ _ h, frozen_of_row W g 1 _ _ h, frozen_of_row W g 2 _ _ h, frozen_of_row W g 3 _ _ h⟩
theorem set4 {W : World} {g : Nat} {t : TypeId} {a0 a1 a2 a3 v0 v1 v2 v3 : Value} (h : W.heap[g]? = some (.cells #[a0, a1, a2, a3] t (0, 0))) :
    ((((W.setCell ⟨g, 0, none⟩ v0).setCell ⟨g, 1, none⟩ v1).setCell ⟨g, 2, none⟩ v2).setCell ⟨g, 3, none⟩ v3).heap[g]? = some (.cells #[v0, v1, v2, v3] t (0, 0)) := by
  have := heap_setCell_same _ g 3 _ t v3 (heap_setCell_same _ g 2 _ t v2 (heap_setCell_same _ g 1 _ t v1 (heap_setCell_same _ g 0 _ t v0 h)))
  simpa using this
theorem set4d {W : World} {g : Nat} {t : TypeId} {a0 a1 a2 a3 v0 v1 v2 v3 : Value} (h : W.heap[g]? = some (.cells #[a0, a1, a2, a3] t (0, 0))) :
    ((((W.setCell ⟨g, 0, none⟩ v0).setCell ⟨g, 1, none⟩ v1).setCell ⟨g, 2, none⟩ v2).setCell ⟨g, 3, none⟩ v3).drew.heap[g]? = some (.cells #[v0, v1, v2, v3] t (0, 0)) := by
  rw [heap_drew]; exact set4 h
theorem below4 {B : Nat} {a W : World} {g : Nat} {v0 v1 v2 v3 : Value} (h : Below B a W) (hg : B ≤ g) : Below B a ((((W.setCell ⟨g, 0, none⟩ v0).setCell ⟨g, 1, none⟩ v1).setCell ⟨g, 2, none⟩ v2).setCell ⟨g, 3, none⟩ v3) :=
  (((h.setCell (p := ⟨g, 0, none⟩) hg v0).setCell (p := ⟨g, 1, none⟩) hg v1).setCell (p := ⟨g, 2, none⟩) hg v2).setCell (p := ⟨g, 3, none⟩) hg v3
theorem other4 {W : World} {g k : Nat} {v0 v1 v2 v3 : Value} {o : Obj} (h : k ≠ g) (hk : W.heap[k]? = some o) : ((((W.setCell ⟨g, 0, none⟩ v0).setCell ⟨g, 1, none⟩ v1).setCell ⟨g, 2, none⟩ v2).setCell ⟨g, 3, none⟩ v3).heap[k]? = some o := by
  rw [heap_setCell_other _ ⟨g, 3, none⟩ k _ h, heap_setCell_other _ ⟨g, 2, none⟩ k _ h, heap_setCell_other _ ⟨g, 1, none⟩ k _ h, heap_setCell_other _ ⟨g, 0, none⟩ k _ h]
  exact hk
/-- as it was, but for two blocks -/
structure But2 (g : Nat) (r : Option Nat) (w w' : World) : Prop where
  os : w'.os = w.os
  tape : w'.tape = w.tape
  output : w'.output = w.output
  size : w.heap.size ≤ w'.heap.size
  block : ∀ k, k < w.heap.size → k ≠ g → some k ≠ r → w'.heap[k]? = w.heap[k]?
theorem But2.of {g : Nat} {r : Option Nat} {w w' : World} (h : Below w.heap.size w w') : But2 g r w w' := ⟨h.os, h.tape, h.output, h.size, fun k hk _ _ => h.block k hk⟩
theorem But2.refl (g : Nat) (r : Option Nat) (w : World) : But2 g r w w := But2.of (Below.refl _ _)
theorem But2.by {g : Nat} {r : Option Nat} {w w' : World} (h : w.grownBy w' r) : But2 g r w w' := ⟨h.os, h.tape, h.output, h.size, fun k hk _ hr => h.block k hk hr⟩
/-- the second row is the first one's, or lies in memory that was not there -/
def Nb (w : World) (r r' : Option Nat) : Prop := r' = r ∨ ∀ k, r' = some k → w.heap.size ≤ k
theorem Nb.refl (w : World) (r : Option Nat) : Nb w r r := .inl rfl
theorem But2.trans {g : Nat} {r r1 : Option Nat} {a b c : World} (h : But2 g r a b) (n : Nb a r r1) (k : But2 g r1 b c) : But2 g r a c :=
  ⟨k.os.trans h.os, k.tape.trans h.tape, k.output.trans h.output, Nat.le_trans h.size k.size, fun i hi hg hr =>
    (k.block i (Nat.lt_of_lt_of_le hi h.size) hg (fun e => by exact n.elim (fun n => hr (e.trans n)) (fun n => absurd (n i e.symm) (by omega)))).trans (h.block i hi hg hr)⟩
theorem Nb.trans {a b : World} {r r1 r2 : Option Nat} (h : Nb a r r1) (s : a.heap.size ≤ b.heap.size) (k : Nb b r1 r2) : Nb a r r2 := by
  rcases k with k | k
  · rw [k]; exact h
  · exact .inr fun i e => Nat.le_trans s (k i e)
theorem But2.row {g : Nat} {r : Option Nat} {w w' : World} {k : Nat} {o : Obj} (h : But2 g r w w') (hg : k ≠ g) (hr : some k ≠ r) (ho : w.heap[k]? = some o) : w'.heap[k]? = some o :=
  (h.block k (lt_of_row ho) hg hr).trans ho
theorem But2.below {g B : Nat} {r : Option Nat} {w w' : World} (h : But2 g r w w') (h1 : B ≤ g) (h2 : ∀ k, r = some k → B ≤ k) (h3 : B ≤ w.heap.size) : Below B w w' :=
  ⟨h.os, h.tape, h.output, h.size, fun k hk => h.block k (by omega) (by omega) (fun e => by have := h2 k e.symm; omega)⟩
theorem But2.setCell {g o : Nat} {r : Option Nat} {w w' : World} (h : But2 g r w w') (u : Value) : But2 g r w (w'.setCell ⟨g, o, none⟩ u) :=
  ⟨h.os, h.tape, h.output, by simpa [World.setCell] using h.size, fun k hk hg hr => (heap_setCell_other _ ⟨g, o, none⟩ k _ hg).trans (h.block k hk hg hr)⟩
theorem own_row {w w' : World} {B n : Nat} {e s : Nat} {v : Value} {xs : List Value} {g : Nat} {r : Option Nat} (h : w.ownsRow B e s v n xs) (b : But2 g r w w') (hg : v.ownBlock ≠ some g) (hr : v.ownBlock = none ∨ v.ownBlock ≠ r) : w'.ownsRow B e s v n xs := by
  obtain ⟨hl, hx | ⟨k, cap, cur, rfl, h1, h2, h3, h4, h5, h6⟩⟩ := h
  · exact ⟨hl, .inl hx⟩
  · refine ⟨hl, .inr ⟨k, cap, cur, rfl, h1, ?_, h3, h4, h5, h6⟩⟩
    exact b.row (fun e => hg (by simp [Value.ownBlock, e])) (hr.elim (fun q => by simp [Value.ownBlock] at q) (fun q => q)) h2
end Go.Proofs.Ytagfaaciakbnbaa
