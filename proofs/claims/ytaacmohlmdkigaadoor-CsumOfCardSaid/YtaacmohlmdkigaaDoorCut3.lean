/-
  Three texts among a row's arguments: what they hold, and that they read as they did; gangwaylaw03.cut: the first 600 bytes of each.
-/
import Derived.Test.YtaacmohlmdkigaaDoorRow3
import Derived.Test.YtaacmohlmdkigaaDoorCells3
import Derived.Deep.Strs
import Derived.Deep.RegionHeld3
namespace Go.Proofs.YtaacmohlmdkigaaDoor
open Go.ChangeShapes Go.WideShapes Go.ChangeAt Go.RowKit Go.Deep
open Go.ChangeMaps (open_string shut_string)

theorem cells_parts : Tryd.prog.cellsOf 23 = 3 := by kernel_rfl
theorem cells_str : Tryd.prog.cellsOf 9 = 1 := by kernel_rfl
section
variable {H : Type} {enc : TypeId × Value → H} {W : World} {base : Nat} {sp : Nat → Bool} {held : Bool}
/-- three texts' reading -/
def partsD (x y z : ByteArray) : DataW H := .agg [.lit (.string x.data.toList), .lit (.string y.data.toList), .lit (.string z.data.toList)]
set_option maxRecDepth 100000 in
theorem open_parts {v : Value} {d : DataW H} {p : List MemPlace} {b0 : Nat} (hv : Value.okWide Tryd.prog W .any b0 23 v) (h : DataW.Trod enc Tryd.prog W base sp held 23 v d p) :
    ∃ x y z : ByteArray, v = .agg #[.string x, .string y, .string z] ∧ d = partsD x y z ∧ p = [] ∧ x.size ≤ maxLen ∧ y.size ≤ maxLen ∧ z.size ≤ maxLen := by
  obtain ⟨cs, rfl, hsz⟩ := okWide_struct Tryd.underlying23 hv
  rw [cells_parts] at hsz
  obtain ⟨fuel, hf⟩ := h
  obtain ⟨l⟩ := cs
  match l, hsz with
  | [c0, c1, c2], _ =>
    obtain ⟨y0, y1, y2, m, hx, _, hy0, hy1, hy2⟩ := trod_struct3 Tryd.underlying23 hf
    obtain ⟨x, e0, rfl, wx⟩ := DataW.trod_string Tryd.underlying9 hy0
    obtain ⟨y, e1, rfl, wy⟩ := DataW.trod_string Tryd.underlying9 hy1
    obtain ⟨z, e2, rfl, wz⟩ := DataW.trod_string Tryd.underlying9 hy2
    simp [Value.cells, cells_str] at e0 e1 e2
    simp only [Prod.mk.injEq] at hx
    subst e0 e1 e2
    exact ⟨x, y, z, rfl, hx.1, hx.2, wx, wy, wz⟩
set_option maxRecDepth 100000 in
theorem shut_parts (x y z : ByteArray) (wx : x.size ≤ maxLen) (wy : y.size ≤ maxLen) (wz : z.size ≤ maxLen) :
    DataW.Trod enc Tryd.prog W base sp held 23 (.agg #[.string x, .string y, .string z]) (partsD x y z) [] := by
  have f : ∀ s : ByteArray, s.size ≤ maxLen → DataW.trod enc Tryd.prog W base sp held 1 9 [.string s] = some (.lit (.string s.data.toList), []) := fun s hs => by simp [DataW.trod, Tryd.underlying9, hs]
  refine ⟨2, ?_⟩
  have := trod_struct3_mk (enc := enc) (w := W) (base := base) (spare := sp) (held := held) (n := 1) (cs := [.string x, .string y, .string z]) Tryd.underlying23 (by simp [cells_parts])
    (by simpa [cells_str] using f x wx) (by simpa [cells_str] using f y wy) (by simpa [cells_str] using f z wz)
  simpa [Value.cells, partsD] using this
end
/-- a text's first 600 bytes, as the walk's own operations give them -/
theorem first600 (x : ByteArray) : ∃ (m : Nat) (a : List UInt8), a.length ≤ 600 ∧ (∀ (ts : Array TypeId) (t : TypeId) (W : World), (Builtin.min_ ts t #[.int .i64 (x.size : Int), .int .i64 600]).run Tryd.prog W = .ok (.int .i64 (m : Int)) W) ∧
    ∀ W : World, (Instr.slice 9 (.string x) none (some (.int .i64 (m : Int))) none).run Tryd.prog W = .ok (.string (bs a)) W := by
  refine ⟨min x.size 600, (x.extract 0 (min x.size 600)).data.toList, ?_, ?_, ?_⟩
  · rw [size_toList, ByteArray.size_extract]; omega
  · intro ts t W
    rw [run_min_int2]
    by_cases h : (600 : Int) < (x.size : Int)
    · rw [if_pos h, show ((min x.size 600 : Nat) : Int) = 600 by omega]
    · rw [if_neg h, show ((min x.size 600 : Nat) : Int) = (x.size : Int) by omega]
  · intro W
    have e := run_slice_string_h (P := Tryd.prog) W 9 x Tryd.underlying9 .i64 ((min x.size 600 : Nat) : Int) (by omega) (by omega)
    rw [show (((min x.size 600 : Nat) : Int)).toNat = min x.size 600 by omega] at e
    rw [bs_of]
    exact e
set_option maxRecDepth 20000 in
set_option maxHeartbeats 4000000 in
theorem cut_any (x y z A B C : ByteArray) (i j k : Nat) (w : World)
    (mx : ∀ (ts : Array TypeId) (t : TypeId) (W : World), (Builtin.min_ ts t #[.int .i64 (x.size : Int), .int .i64 600]).run Tryd.prog W = .ok (.int .i64 (i : Int)) W)
    (sx : ∀ W : World, (Instr.slice 9 (.string x) none (some (.int .i64 (i : Int))) none).run Tryd.prog W = .ok (.string A) W)
    (my : ∀ (ts : Array TypeId) (t : TypeId) (W : World), (Builtin.min_ ts t #[.int .i64 (y.size : Int), .int .i64 600]).run Tryd.prog W = .ok (.int .i64 (j : Int)) W)
    (sy : ∀ W : World, (Instr.slice 9 (.string y) none (some (.int .i64 (j : Int))) none).run Tryd.prog W = .ok (.string B) W)
    (mz : ∀ (ts : Array TypeId) (t : TypeId) (W : World), (Builtin.min_ ts t #[.int .i64 (z.size : Int), .int .i64 600]).run Tryd.prog W = .ok (.int .i64 (k : Int)) W)
    (sz : ∀ W : World, (Instr.slice 9 (.string z) none (some (.int .i64 (k : Int))) none).run Tryd.prog W = .ok (.string C) W) :
    Calls Tryd.prog 9 #[.agg #[.string x, .string y, .string z]] w fun e w' => e = .returned (.agg #[.string A, .string B, .string C]) ∧ Below w.heap.size w w' := by
  go_enter Tryd.func9, Tryd.ntmps9
  go_wp2_with fail
  go_region_held3 (fun w' => w'.cell? ⟨w.heap.size, 0, none⟩ = some (.string x) ∧ w'.cell? ⟨w.heap.size, 1, none⟩ = some (.string y) ∧ w'.cell? ⟨w.heap.size, 2, none⟩ = some (.string z)) (go_keep) (fail)
  all_goals
    go_wp2_with fail
    refine bodyPost_ret (v := .agg #[.string A, .string B, .string C]) ?_ rfl ⟨rfl, (alloc_then (alloc_then (Below.refl w.heap.size w))).drew⟩
    exact results_cell_row rfl _ _ (w.heap.size + 1) 23 _ _ _ rfl (heap_alloc2_new w _ _) Tryd.underlying23 rfl (by kernel_rfl)
end Go.Proofs.YtaacmohlmdkigaaDoor
