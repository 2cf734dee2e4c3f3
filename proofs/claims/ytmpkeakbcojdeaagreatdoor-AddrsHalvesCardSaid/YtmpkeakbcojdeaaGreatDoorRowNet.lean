/-
  A net, and two nets, among a row's arguments: what they hold, and that they read as they did.
-/
import Derived.Test.YtmpkeakbcojdeaaGreatDoorRow2
import Derived.Laws.StructEq
namespace Go.Proofs.YtmpkeakbcojdeaaGreatDoor
open Go.ChangeShapes Go.WideShapes Go.ChangeAt Go.RowKit Go.Sort

theorem near_at (W : World) (ip : Nat) (b : Int) (jp : Nat) (c : Int) (hi : ip < 4294967296) (hj : jp < 4294967296) (t : Bool) (h : decide (NearNet ip b jp c) = t) : ∀ d os, Calls Tryz.prog 28 #[.agg #[.int .u32 ip, .int .i64 b], .agg #[.int .u32 jp, .int .i64 c]] (grow (redrawn W d) os) fun e w'' => e = .returned (.bool t) ∧ ∃ p : Regrown, w'' = grow (redrawn W p.d) p.os :=
  fun d os => Calls.regrown_of (by have := near_any ip b jp c (grow (redrawn W d) os) hi hj; rw [h] at this; exact this)
theorem fixed_at (W : World) (hW : St W) : ∀ d os, Calls Tryz.prog 13 #[] (grow (redrawn W d) os) fun e w'' => e = .returned (.bool true) ∧ ∃ p : Regrown, w'' = grow (redrawn W p.d) p.os :=
  fun d os => Calls.regrown_of (fixed_any _ (hW.next (below_regrown W d os)))
theorem guard_net : Tryz.prog.eqGuardType Tryz.prog.depth 34 = false := by kernel_rfl
theorem fields_net : Tryz.prog.underlying 34 = some (.struct (Tryz.prog.fieldsOf 34)) := by kernel_rfl
theorem held_net : Tryz.prog.stoodInHeld 34 = false := by kernel_rfl
theorem same_net (ip : Nat) (b : Int) (jp : Nat) (c : Int) (W : World) : (binOp .eql 34 (.agg #[.int .u32 ip, .int .i64 b]) (.agg #[.int .u32 jp, .int .i64 c])).run Tryz.prog W = .ok (.bool (decide (ip = jp ∧ b = c))) W := by
  rw [run_eql_struct, run_equalIn_agg _ _ _ _ _ fields_net held_net]
  simp [go_sem, Tryz.underlying34]
  by_cases h1 : ip = jp
  · subst h1
    by_cases h2 : b = c <;> simp [h2]
  · have : ¬ (ip : Int) = (jp : Int) := by omega
    simp [h1, this]
theorem cells_net : Tryz.prog.cellsOf 34 = 2 := by kernel_rfl
theorem cells_two : Tryz.prog.cellsOf 36 = 4 := by kernel_rfl
theorem cells_u32 : Tryz.prog.cellsOf 23 = 1 := by kernel_rfl
theorem cells_i64 : Tryz.prog.cellsOf 3 = 1 := by kernel_rfl
section
variable {H : Type} {enc : TypeId × Value → H} {W : World} {base : Nat} {sp : Nat → Bool} {held : Bool}
/-- a net's reading -/
def netD (ip : Nat) (b : Int) : DataW H := .agg [.lit (.int .u32 (ip : Int)), .lit (.int .i64 b)]
set_option maxRecDepth 100000 in
theorem net_of_trod {fuel : Nat} {cs : List Value} {x : DataW H × List MemPlace} (h : DataW.trod enc Tryz.prog W base sp held fuel 34 cs = some x) :
    ∃ (ip : Nat) (b : Int), cs = [.int .u32 ip, .int .i64 b] ∧ x = (netD ip b, []) ∧ ip < 4294967296 ∧ (Lit.int .u32 (ip : Int)).wf = true ∧ (Lit.int .i64 b).wf = true := by
  obtain ⟨y0, y1, m, hx, hl, hy0, hy1⟩ := trod_struct2 Tryz.underlying34 h
  rw [cells_net] at hl
  match cs, hl with
  | [c0, c1], _ =>
    obtain ⟨a, e0, rfl, wa⟩ := DataW.trod_int Tryz.underlying23 hy0
    obtain ⟨b, e1, rfl, wb⟩ := DataW.trod_int Tryz.underlying3 hy1
    simp [cells_u32, cells_i64] at e0 e1
    subst e0 e1
    have hb := bounds_u32 wa
    obtain ⟨m, rfl⟩ : ∃ m : Nat, a = m := ⟨a.toNat, by omega⟩
    exact ⟨m, b, rfl, hx, by omega, wa, wb⟩
set_option maxRecDepth 100000 in
theorem net_trod (n : Nat) (ip : Nat) (b : Int) (wa : (Lit.int .u32 (ip : Int)).wf = true) (wb : (Lit.int .i64 b).wf = true) :
    DataW.trod enc Tryz.prog W base sp held (n + 2) 34 [.int .u32 ip, .int .i64 b] = some (netD ip b, []) := by
  have f0 : DataW.trod enc Tryz.prog W base sp held (n + 1) 23 [.int .u32 (ip : Int)] = some (.lit (.int .u32 (ip : Int)), []) := trod_int_mk n Tryz.underlying23 wa
  have f1 : DataW.trod enc Tryz.prog W base sp held (n + 1) 3 [.int .i64 b] = some (.lit (.int .i64 b), []) := trod_int_mk n Tryz.underlying3 wb
  have := trod_struct2_mk (enc := enc) (w := W) (base := base) (spare := sp) (held := held) (n := n + 1) (cs := [.int .u32 (ip : Int), .int .i64 b]) Tryz.underlying34 (by simp [cells_net]) (by simpa [cells_u32] using f0) (by simpa [cells_i64] using f1)
  simpa [netD] using this
set_option maxRecDepth 100000 in
theorem open_net {v : Value} {d : DataW H} {p : List MemPlace} {bs : Nat} (hv : Value.okWide Tryz.prog W .any bs 34 v) (h : DataW.Trod enc Tryz.prog W base sp held 34 v d p) :
    ∃ (ip : Nat) (b : Int), v = .agg #[.int .u32 ip, .int .i64 b] ∧ d = netD ip b ∧ p = [] ∧ ip < 4294967296 ∧ (Lit.int .u32 (ip : Int)).wf = true ∧ (Lit.int .i64 b).wf = true := by
  obtain ⟨cs, rfl, _⟩ := okWide_struct Tryz.underlying34 hv
  obtain ⟨fuel, hf⟩ := h
  obtain ⟨ip, b, e, hx, h1, h2, h3⟩ := net_of_trod hf
  simp only [Prod.mk.injEq] at hx
  refine ⟨ip, b, ?_, hx.1, hx.2, h1, h2, h3⟩
  obtain ⟨l⟩ := cs
  simp [Value.cells] at e
  rw [e]
set_option maxRecDepth 100000 in
theorem shut_net (ip : Nat) (b : Int) (wa : (Lit.int .u32 (ip : Int)).wf = true) (wb : (Lit.int .i64 b).wf = true) :
    DataW.Trod enc Tryz.prog W base sp held 34 (.agg #[.int .u32 ip, .int .i64 b]) (netD ip b) [] := ⟨2, net_trod 0 ip b wa wb⟩
set_option maxRecDepth 100000 in
theorem open_two {v : Value} {d : DataW H} {p : List MemPlace} {bs : Nat} (hv : Value.okWide Tryz.prog W .any bs 36 v) (h : DataW.Trod enc Tryz.prog W base sp held 36 v d p) :
    ∃ (ip : Nat) (b : Int) (jp : Nat) (c : Int), v = .agg #[.int .u32 ip, .int .i64 b, .int .u32 jp, .int .i64 c] ∧ d = .agg [netD ip b, netD jp c] ∧ p = [] ∧ ip < 4294967296 ∧ (Lit.int .u32 (ip : Int)).wf = true ∧ (Lit.int .i64 b).wf = true ∧ jp < 4294967296 ∧ (Lit.int .u32 (jp : Int)).wf = true ∧ (Lit.int .i64 c).wf = true := by
  obtain ⟨cs, rfl, hsz⟩ := okWide_struct Tryz.underlying36 hv
  rw [cells_two] at hsz
  obtain ⟨fuel, hf⟩ := h
  obtain ⟨l⟩ := cs
  match l, hsz with
  | [c0, c1, c2, c3], _ =>
    obtain ⟨y0, y1, m, hx, _, hy0, hy1⟩ := trod_struct2 Tryz.underlying36 hf
    obtain ⟨ip, b, e0, rfl, h1, h2, h3⟩ := net_of_trod hy0
    obtain ⟨jp, c, e1, rfl, h4, h5, h6⟩ := net_of_trod hy1
    simp [Value.cells, cells_net] at e0 e1
    simp only [Prod.mk.injEq] at hx
    obtain ⟨rfl, rfl⟩ := e0
    obtain ⟨rfl, rfl⟩ := e1
    exact ⟨ip, b, jp, c, rfl, hx.1, hx.2, h1, h2, h3, h4, h5, h6⟩
set_option maxRecDepth 100000 in
theorem shut_two (ip : Nat) (b : Int) (jp : Nat) (c : Int) (wa : (Lit.int .u32 (ip : Int)).wf = true) (wb : (Lit.int .i64 b).wf = true) (wc : (Lit.int .u32 (jp : Int)).wf = true) (wd : (Lit.int .i64 c).wf = true) :
    DataW.Trod enc Tryz.prog W base sp held 36 (.agg #[.int .u32 ip, .int .i64 b, .int .u32 jp, .int .i64 c]) (.agg [netD ip b, netD jp c]) [] := ⟨3, by
  have := trod_struct2_mk (enc := enc) (w := W) (base := base) (spare := sp) (held := held) (n := 2) (cs := [.int .u32 (ip : Int), .int .i64 b, .int .u32 (jp : Int), .int .i64 c]) (y0 := (netD ip b, [])) (y1 := (netD jp c, [])) Tryz.underlying36 (by simp [cells_two])
    (by simpa [cells_net] using net_trod 0 ip b wa wb) (by simpa [cells_net] using net_trod 0 jp c wc wd)
  simpa [Value.cells] using this⟩
end
end Go.Proofs.YtmpkeakbcojdeaaGreatDoor
