/-
  What every row of this seat shares: a struct of two numbers among a row's arguments.
-/
import Derived.Test.YtppfhbcfmekdoaaRows
import Derived.ProofKit
import Derived.Deep.Strs
namespace Go.Proofs.Ytppfhbcfmekdoaa
open Go.ChangeShapes Go.WideShapes Go.ChangeAt Go.RowKit Go.Deep

theorem own : ownKnob Try.prog.godebug = none := by kernel_rfl
theorem laidOut : laidOutB Try.prog = true := by kernel_rfl
theorem cells_u64 : Try.prog.cellsOf 29 = 1 := by kernel_rfl
theorem cells_i64 : Try.prog.cellsOf 3 = 1 := by kernel_rfl
theorem cells_lsize : Try.prog.cellsOf 23 = 2 := by kernel_rfl
theorem bnd_u64 {n : Int} (h : (Lit.int .u64 n).wf = true) : 0 ≤ n ∧ n < 18446744073709551616 := by
  simp [Lit.wf] at h
  have e1 : IntKind.u64.min = 0 := by decide
  have e2 : IntKind.u64.max = 18446744073709551615 := by decide
  omega
section
variable {H : Type} {enc : TypeId × Value → H} {W : World} {base : Nat} {sp : Nat → Bool} {held : Bool}
/-- a size's reading -/
def sizeD (a b : Int) : DataW H := .agg [.lit (.int .i64 a), .lit (.int .i64 b)]
set_option maxRecDepth 100000 in
theorem open_size {v : Value} {d : DataW H} {p : List MemPlace} {b0 : Nat} (hv : Value.okWide Try.prog W .any b0 23 v) (h : DataW.Trod enc Try.prog W base sp held 23 v d p) :
    ∃ (a b : Int), v = .agg #[.int .i64 a, .int .i64 b] ∧ d = sizeD a b ∧ p = [] ∧ (Lit.int .i64 a).wf = true ∧ (Lit.int .i64 b).wf = true := by
  obtain ⟨cs, rfl, hsz⟩ := okWide_struct Try.underlying23 hv
  rw [cells_lsize] at hsz
  obtain ⟨fuel, hf⟩ := h
  obtain ⟨l⟩ := cs
  match l, hsz with
  | [c0, c1], _ =>
    obtain ⟨y0, y1, m, hx, _, h0, h1⟩ := trod_struct2 Try.underlying23 hf
    obtain ⟨a, e0, rfl, wa⟩ := DataW.trod_int Try.underlying3 h0
    obtain ⟨b, e1, rfl, wb⟩ := DataW.trod_int Try.underlying3 h1
    simp [Value.cells, cells_i64] at e0 e1
    subst e0 e1
    simp only [Prod.mk.injEq] at hx
    exact ⟨a, b, rfl, hx.1, hx.2, wa, wb⟩
set_option maxRecDepth 100000 in
theorem shut_size (a b : Int) (wa : (Lit.int .i64 a).wf = true) (wb : (Lit.int .i64 b).wf = true) : DataW.Trod enc Try.prog W base sp held 23 (.agg #[.int .i64 a, .int .i64 b]) (sizeD a b) [] := by
  have f0 : DataW.trod enc Try.prog W base sp held 1 3 [.int .i64 a] = some (.lit (.int .i64 a), []) := trod_int_mk 0 Try.underlying3 wa
  have f1 : DataW.trod enc Try.prog W base sp held 1 3 [.int .i64 b] = some (.lit (.int .i64 b), []) := trod_int_mk 0 Try.underlying3 wb
  refine ⟨2, ?_⟩
  have := trod_struct2_mk (enc := enc) (w := W) (base := base) (spare := sp) (held := held) (n := 1) (cs := [.int .i64 a, .int .i64 b]) Try.underlying23 (by simp [cells_lsize]) (by simpa [cells_i64] using f0) (by simpa [cells_i64] using f1)
  simpa [Value.cells, sizeD] using this
end
end Go.Proofs.Ytppfhbcfmekdoaa
