/-
  A frame, and a tag, among a row's arguments: what they hold, and that they read as they did; the first bytes of a text.
-/
import Derived.Test.YtfndofbkfinnmaaDoorRow4
import Derived.Test.YtfndofbkfinnmaaDoorStructs
import Derived.ChangeMaps5
import Derived.Deep.Strs
namespace Go.Proofs.YtfndofbkfinnmaaDoor
open Go.ChangeShapes Go.WideShapes Go.ChangeAt Go.RowKit Go.Deep

theorem cells_frame : Tryd.prog.cellsOf 26 = 8 := by kernel_rfl
theorem cells_tag : Tryd.prog.cellsOf 24 = 4 := by kernel_rfl
theorem cells_u64 : Tryd.prog.cellsOf 22 = 1 := by kernel_rfl
theorem cells_i64 : Tryd.prog.cellsOf 3 = 1 := by kernel_rfl
theorem cells_bool : Tryd.prog.cellsOf 4 = 1 := by kernel_rfl
theorem cells_str : Tryd.prog.cellsOf 9 = 1 := by kernel_rfl
section
variable {H : Type} {enc : TypeId × Value → H} {W : World} {base : Nat} {sp : Nat → Bool} {held : Bool}
/-- a tag's reading -/
def tagD (has : Bool) (pri : Int) (dei : Bool) (vid : Int) : DataW H := .agg [.lit (.bool has), .lit (.int .i64 pri), .lit (.bool dei), .lit (.int .i64 vid)]
/-- a frame's reading -/
def frameD (d s : Nat) (has : Bool) (pri : Int) (dei : Bool) (vid ty : Int) (b : ByteArray) : DataW H := .agg [.lit (.int .u64 (d : Int)), .lit (.int .u64 (s : Int)), tagD has pri dei vid, .lit (.int .i64 ty), .lit (.string b.data.toList)]
set_option maxRecDepth 100000 in
theorem tag_of_trod {fuel : Nat} {cs : List Value} {x : DataW H × List MemPlace} (h : DataW.trod enc Tryd.prog W base sp held fuel 24 cs = some x) :
    ∃ (has : Bool) (pri : Int) (dei : Bool) (vid : Int), cs = [.bool has, .int .i64 pri, .bool dei, .int .i64 vid] ∧ x = (tagD has pri dei vid, []) ∧ (Lit.int .i64 pri).wf = true ∧ (Lit.int .i64 vid).wf = true := by
  obtain ⟨y0, y1, y2, y3, m, hx, hl, h0, h1, h2, h3⟩ := trod_struct4 Tryd.underlying24 h
  rw [cells_tag] at hl
  match cs, hl with
  | [c0, c1, c2, c3], _ =>
    obtain ⟨a, e0, rfl⟩ := DataW.trod_bool Tryd.underlying4 h0
    obtain ⟨b, e1, rfl, wb⟩ := DataW.trod_int Tryd.underlying3 h1
    obtain ⟨c, e2, rfl⟩ := DataW.trod_bool Tryd.underlying4 h2
    obtain ⟨d, e3, rfl, wd⟩ := DataW.trod_int Tryd.underlying3 h3
    simp [cells_bool, cells_i64] at e0 e1 e2 e3
    subst e0 e1 e2 e3
    exact ⟨a, b, c, d, rfl, hx, wb, wd⟩
theorem bool_mk (n : Nat) (b : Bool) : DataW.trod enc Tryd.prog W base sp held (n + 1) 4 [.bool b] = some (.lit (.bool b), []) := by simp [DataW.trod, Tryd.underlying4]
theorem str_mk (n : Nat) (b : ByteArray) (h : b.size ≤ maxLen) : DataW.trod enc Tryd.prog W base sp held (n + 1) 9 [.string b] = some (.lit (.string b.data.toList), []) := by simp [DataW.trod, Tryd.underlying9, h]
set_option maxRecDepth 100000 in
theorem tag_trod (n : Nat) (has : Bool) (pri : Int) (dei : Bool) (vid : Int) (wb : (Lit.int .i64 pri).wf = true) (wd : (Lit.int .i64 vid).wf = true) :
    DataW.trod enc Tryd.prog W base sp held (n + 2) 24 [.bool has, .int .i64 pri, .bool dei, .int .i64 vid] = some (tagD has pri dei vid, []) := by
  have f0 := bool_mk (enc := enc) (W := W) (base := base) (sp := sp) (held := held) n has
  have f1 : DataW.trod enc Tryd.prog W base sp held (n + 1) 3 [.int .i64 pri] = some (.lit (.int .i64 pri), []) := trod_int_mk n Tryd.underlying3 wb
  have f2 := bool_mk (enc := enc) (W := W) (base := base) (sp := sp) (held := held) n dei
  have f3 : DataW.trod enc Tryd.prog W base sp held (n + 1) 3 [.int .i64 vid] = some (.lit (.int .i64 vid), []) := trod_int_mk n Tryd.underlying3 wd
  have := trod_struct4_mk (enc := enc) (w := W) (base := base) (spare := sp) (held := held) (n := n + 1) (cs := [.bool has, .int .i64 pri, .bool dei, .int .i64 vid]) Tryd.underlying24 (by simp [cells_tag])
    (by simpa [cells_bool] using f0) (by simpa [cells_i64] using f1) (by simpa [cells_bool] using f2) (by simpa [cells_i64] using f3)
  simpa [tagD] using this
set_option maxRecDepth 100000 in
theorem open_tag {v : Value} {d : DataW H} {p : List MemPlace} {b0 : Nat} (hv : Value.okWide Tryd.prog W .any b0 24 v) (h : DataW.Trod enc Tryd.prog W base sp held 24 v d p) :
    ∃ (has : Bool) (pri : Int) (dei : Bool) (vid : Int), v = .agg #[.bool has, .int .i64 pri, .bool dei, .int .i64 vid] ∧ d = tagD has pri dei vid ∧ p = [] ∧ (Lit.int .i64 pri).wf = true ∧ (Lit.int .i64 vid).wf = true := by
  obtain ⟨cs, rfl, _⟩ := okWide_struct Tryd.underlying24 hv
  obtain ⟨fuel, hf⟩ := h
  obtain ⟨has, pri, dei, vid, e, hx, h1, h2⟩ := tag_of_trod hf
  simp only [Prod.mk.injEq] at hx
  refine ⟨has, pri, dei, vid, ?_, hx.1, hx.2, h1, h2⟩
  obtain ⟨l⟩ := cs
  simp [Value.cells] at e
  rw [e]
theorem shut_tag (has : Bool) (pri : Int) (dei : Bool) (vid : Int) (wb : (Lit.int .i64 pri).wf = true) (wd : (Lit.int .i64 vid).wf = true) :
    DataW.Trod enc Tryd.prog W base sp held 24 (.agg #[.bool has, .int .i64 pri, .bool dei, .int .i64 vid]) (tagD has pri dei vid) [] := ⟨2, tag_trod 0 has pri dei vid wb wd⟩
set_option maxRecDepth 100000 in
theorem open_frame {v : Value} {x : DataW H} {p : List MemPlace} {b0 : Nat} (hv : Value.okWide Tryd.prog W .any b0 26 v) (h : DataW.Trod enc Tryd.prog W base sp held 26 v x p) :
    ∃ (d s : Nat) (has : Bool) (pri : Int) (dei : Bool) (vid ty : Int) (b : ByteArray), v = .agg #[.int .u64 d, .int .u64 s, .bool has, .int .i64 pri, .bool dei, .int .i64 vid, .int .i64 ty, .string b] ∧ x = frameD d s has pri dei vid ty b ∧ p = [] ∧
      d < 18446744073709551616 ∧ s < 18446744073709551616 ∧ (Lit.int .u64 (d : Int)).wf = true ∧ (Lit.int .u64 (s : Int)).wf = true ∧ (Lit.int .i64 pri).wf = true ∧ (Lit.int .i64 vid).wf = true ∧ (Lit.int .i64 ty).wf = true ∧ b.size ≤ maxLen := by
  obtain ⟨cs, rfl, hsz⟩ := okWide_struct Tryd.underlying26 hv
  rw [cells_frame] at hsz
  obtain ⟨fuel, hf⟩ := h
  obtain ⟨l⟩ := cs
  match l, hsz with
  | [c0, c1, c2, c3, c4, c5, c6, c7], _ =>
    obtain ⟨y0, y1, y2, y3, y4, m, hx, _, h0, h1, h2, h3, h4⟩ := trod_struct5 Tryd.underlying26 hf
    obtain ⟨a, e0, rfl, wa⟩ := DataW.trod_int Tryd.underlying22 h0
    obtain ⟨b, e1, rfl, wb⟩ := DataW.trod_int Tryd.underlying22 h1
    obtain ⟨has, pri, dei, vid, e2, rfl, wp, wv⟩ := tag_of_trod h2
    obtain ⟨ty, e3, rfl, wt⟩ := DataW.trod_int Tryd.underlying3 h3
    obtain ⟨z, e4, rfl, wz⟩ := DataW.trod_string Tryd.underlying9 h4
    simp [Value.cells, cells_u64, cells_i64, cells_str, cells_tag] at e0 e1 e2 e3 e4
    obtain ⟨rfl, rfl, rfl, rfl⟩ := e2
    subst e0 e1 e3 e4
    have ha := bounds_u64 wa
    have hb := bounds_u64 wb
    obtain ⟨a', rfl⟩ : ∃ m : Nat, a = m := ⟨a.toNat, by omega⟩
    obtain ⟨b', rfl⟩ : ∃ m : Nat, b = m := ⟨b.toNat, by omega⟩
    simp only [Prod.mk.injEq] at hx
    exact ⟨a', b', has, pri, dei, vid, ty, z, rfl, hx.1, hx.2, by omega, by omega, wa, wb, wp, wv, wt, wz⟩
set_option maxRecDepth 100000 in
theorem shut_frame (d s : Nat) (has : Bool) (pri : Int) (dei : Bool) (vid ty : Int) (b : ByteArray) (wa : (Lit.int .u64 (d : Int)).wf = true) (wb : (Lit.int .u64 (s : Int)).wf = true) (wp : (Lit.int .i64 pri).wf = true) (wv : (Lit.int .i64 vid).wf = true) (wt : (Lit.int .i64 ty).wf = true) (wz : b.size ≤ maxLen) :
    DataW.Trod enc Tryd.prog W base sp held 26 (.agg #[.int .u64 d, .int .u64 s, .bool has, .int .i64 pri, .bool dei, .int .i64 vid, .int .i64 ty, .string b]) (frameD d s has pri dei vid ty b) [] := by
  have f0 : DataW.trod enc Tryd.prog W base sp held 2 22 [.int .u64 (d : Int)] = some (.lit (.int .u64 (d : Int)), []) := trod_int_mk 1 Tryd.underlying22 wa
  have f1 : DataW.trod enc Tryd.prog W base sp held 2 22 [.int .u64 (s : Int)] = some (.lit (.int .u64 (s : Int)), []) := trod_int_mk 1 Tryd.underlying22 wb
  have f2 := tag_trod (enc := enc) (W := W) (base := base) (sp := sp) (held := held) 0 has pri dei vid wp wv
  have f3 : DataW.trod enc Tryd.prog W base sp held 2 3 [.int .i64 ty] = some (.lit (.int .i64 ty), []) := trod_int_mk 1 Tryd.underlying3 wt
  have f4 := str_mk (enc := enc) (W := W) (base := base) (sp := sp) (held := held) 1 b wz
  refine ⟨3, ?_⟩
  have := trod_struct5_mk (enc := enc) (w := W) (base := base) (spare := sp) (held := held) (n := 2) (cs := [.int .u64 (d : Int), .int .u64 (s : Int), .bool has, .int .i64 pri, .bool dei, .int .i64 vid, .int .i64 ty, .string b]) Tryd.underlying26 (by simp [cells_frame])
    (by simpa [cells_u64] using f0) (by simpa [cells_u64] using f1) (by simpa [cells_tag] using f2) (by simpa [cells_i64] using f3) (by simpa [cells_str] using f4)
  simpa [Value.cells, frameD] using this
end
/-- a text's first n bytes, as the walk's own operations give them -/
def FirstN (n : Nat) (x : ByteArray) (m : Nat) (a : List UInt8) : Prop :=
  a.length ≤ n ∧ (∀ (ts : Array TypeId) (t : TypeId) (W : World), (Builtin.min_ ts t #[.int .i64 (x.size : Int), .int .i64 (n : Int)]).run Tryd.prog W = .ok (.int .i64 (m : Int)) W) ∧
    ∀ W : World, (Instr.slice 9 (.string x) none (some (.int .i64 (m : Int))) none).run Tryd.prog W = .ok (.string (bs a)) W
theorem firstN (n : Nat) (x : ByteArray) : ∃ (m : Nat) (a : List UInt8), FirstN n x m a := by
  refine ⟨min x.size n, (x.extract 0 (min x.size n)).data.toList, ?_, ?_, ?_⟩
  · rw [size_toList, ByteArray.size_extract]; omega
  · intro ts t W
    rw [run_min_int2]
    by_cases h : (n : Int) < (x.size : Int)
    · rw [if_pos h, show ((min x.size n : Nat) : Int) = n by omega]
    · rw [if_neg h, show ((min x.size n : Nat) : Int) = (x.size : Int) by omega]
  · intro W
    have e := run_slice_string_h (P := Tryd.prog) W 9 x Tryd.underlying9 .i64 ((min x.size n : Nat) : Int) (by omega) (by omega)
    rw [show (((min x.size n : Nat) : Int)).toNat = min x.size n by omega] at e
    rw [bs_of]
    exact e
end Go.Proofs.YtfndofbkfinnmaaDoor
