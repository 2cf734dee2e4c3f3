/-
  What every row of this seat shares: a world that meets the list; a message, and a frame, among a row's arguments: what they hold, and that they read as they did; the first bytes of a text.
-/
import Derived.Test.YtchgmbbcfjfhoaaDoorRows
import Derived.Test.YtchgmbbcfjfhoaaDoorCards
import Derived.Test.YtchgmbbcfjfhoaaDoorTie
import Derived.Test.YtchgmbbcfjfhoaaDoorBp6
import Derived.Test.YtchgmbbcfjfhoaaDoorStructs
import Derived.Test.YtchgmbbcfjfhoaaDoorStructs16
import Derived.ChangeMaps5
import Derived.Deep.Strs
import Derived.ChangeSame
import Derived.ChangeVars
import Derived.JoinedOf
import Derived.RowKit
import Derived.RowKitTokens
import Derived.LaidLaws
import Derived.LaidHandle
import Derived.Stop.Joined
import Derived.ProofKit
import Derived.OpenShut
import Derived.SevenTiedAt
namespace Go.Proofs.YtchgmbbcfjfhoaaDoor
open Go.ChangeShapes Go.WideShapes Go.ChangeAt Go.RowKit Go.Deep

theorem own : ownKnob Tryd.prog.godebug = none := by kernel_rfl

theorem laid_met (os : Os) (args : Array Value) : laidMetH Tryd.prog [("errors.errorType", Rows.laid_errors_errorType)]
    (({ World.holding Tryd.prog os ⟨#[], #[], []⟩ with heap := (World.holding Tryd.prog os ⟨#[], #[], []⟩).heap.modify 0 fun
      | .cells _ t frozen => .cells #[.iface 111 (.agg #[.pointer (some ⟨1, 61, none⟩)])] t frozen
      | o => o } : World).forCall (fun _ _ => 0) ⟨#[], args, []⟩).memory :=
  laidMetH_of_parts (laidMet_nil _ _) (by kernel_rfl)
theorem cells_frame : Tryd.prog.cellsOf 37 = 8 := by kernel_rfl
theorem cells_tag : Tryd.prog.cellsOf 35 = 4 := by kernel_rfl
theorem cells_u64 : Tryd.prog.cellsOf 22 = 1 := by kernel_rfl
theorem cells_i64 : Tryd.prog.cellsOf 3 = 1 := by kernel_rfl
theorem cells_bool : Tryd.prog.cellsOf 4 = 1 := by kernel_rfl
theorem cells_str : Tryd.prog.cellsOf 9 = 1 := by kernel_rfl
section
variable {H : Type} {enc : TypeId × Value → H} {W : World} {base : Nat} {sp : Nat → Bool} {held : Bool}
/-- a tag's reading -/
def tagD (has : Bool) (pri : Int) (dei : Bool) (vid : Int) : DataW H := .agg [.lit (.bool has), .lit (.int .i64 pri), .lit (.bool dei), .lit (.int .i64 vid)]
/-- a frame's reading -/
def frameD (d s : Nat) (has : Bool) (pri : Int) (dei : Bool) (vid ty : Int) (b : ByteArray) : DataW H := .agg [.lit (.int .u64 (d : Int)), .lit (.int .u64 (s : Int)), tagD has pri dei vid, .lit (.int .i64 ty), .lit (.string b.data.toList)]
set_option maxRecDepth 100000 in
theorem tag_of_trod {fuel : Nat} {cs : List Value} {x : DataW H × List MemPlace} (h : DataW.trod enc Tryd.prog W base sp held fuel 35 cs = some x) :
    ∃ (has : Bool) (pri : Int) (dei : Bool) (vid : Int), cs = [.bool has, .int .i64 pri, .bool dei, .int .i64 vid] ∧ x = (tagD has pri dei vid, []) ∧ (Lit.int .i64 pri).wf = true ∧ (Lit.int .i64 vid).wf = true := by
  obtain ⟨y0, y1, y2, y3, m, hx, hl, h0, h1, h2, h3⟩ := trod_struct4 Tryd.underlying35 h
  rw [cells_tag] at hl
  match cs, hl with
  | [c0, c1, c2, c3], _ =>
    obtain ⟨a, e0, rfl⟩ := DataW.trod_bool Tryd.underlying4 h0
    obtain ⟨b, e1, rfl, wb⟩ := DataW.trod_int Tryd.underlying3 h1
    obtain ⟨c, e2, rfl⟩ := DataW.trod_bool Tryd.underlying4 h2
    obtain ⟨d, e3, rfl, wd⟩ := DataW.trod_int Tryd.underlying3 h3
    simp [cells_bool, cells_i64] at e0 e1 e2 e3
    subst e0 e1 e2 e3
    exact ⟨a, b, c, d, rfl, hx, wb, wd⟩
theorem bool_mk (n : Nat) (b : Bool) : DataW.trod enc Tryd.prog W base sp held (n + 1) 4 [.bool b] = some (.lit (.bool b), []) := by simp [DataW.trod, Tryd.underlying4]
theorem str_mk (n : Nat) (b : ByteArray) (h : b.size ≤ maxLen) : DataW.trod enc Tryd.prog W base sp held (n + 1) 9 [.string b] = some (.lit (.string b.data.toList), []) := by simp [DataW.trod, Tryd.underlying9, h]
set_option maxRecDepth 100000 in
theorem tag_trod (n : Nat) (has : Bool) (pri : Int) (dei : Bool) (vid : Int) (wb : (Lit.int .i64 pri).wf = true) (wd : (Lit.int .i64 vid).wf = true) :
    DataW.trod enc Tryd.prog W base sp held (n + 2) 35 [.bool has, .int .i64 pri, .bool dei, .int .i64 vid] = some (tagD has pri dei vid, []) := by
  have f0 := bool_mk (enc := enc) (W := W) (base := base) (sp := sp) (held := held) n has
  have f1 : DataW.trod enc Tryd.prog W base sp held (n + 1) 3 [.int .i64 pri] = some (.lit (.int .i64 pri), []) := trod_int_mk n Tryd.underlying3 wb
  have f2 := bool_mk (enc := enc) (W := W) (base := base) (sp := sp) (held := held) n dei
  have f3 : DataW.trod enc Tryd.prog W base sp held (n + 1) 3 [.int .i64 vid] = some (.lit (.int .i64 vid), []) := trod_int_mk n Tryd.underlying3 wd
  have := trod_struct4_mk (enc := enc) (w := W) (base := base) (spare := sp) (held := held) (n := n + 1) (cs := [.bool has, .int .i64 pri, .bool dei, .int .i64 vid]) Tryd.underlying35 (by simp [cells_tag])
    (by simpa [cells_bool] using f0) (by simpa [cells_i64] using f1) (by simpa [cells_bool] using f2) (by simpa [cells_i64] using f3)
  simpa [tagD] using this
set_option maxRecDepth 100000 in
theorem open_tag {v : Value} {d : DataW H} {p : List MemPlace} {b0 : Nat} (hv : Value.okWide Tryd.prog W .any b0 35 v) (h : DataW.Trod enc Tryd.prog W base sp held 35 v d p) :
    ∃ (has : Bool) (pri : Int) (dei : Bool) (vid : Int), v = .agg #[.bool has, .int .i64 pri, .bool dei, .int .i64 vid] ∧ d = tagD has pri dei vid ∧ p = [] ∧ (Lit.int .i64 pri).wf = true ∧ (Lit.int .i64 vid).wf = true := by
  obtain ⟨cs, rfl, _⟩ := okWide_struct Tryd.underlying35 hv
  obtain ⟨fuel, hf⟩ := h
  obtain ⟨has, pri, dei, vid, e, hx, h1, h2⟩ := tag_of_trod hf
  simp only [Prod.mk.injEq] at hx
  refine ⟨has, pri, dei, vid, ?_, hx.1, hx.2, h1, h2⟩
  obtain ⟨l⟩ := cs
  simp [Value.cells] at e
  rw [e]
theorem shut_tag (has : Bool) (pri : Int) (dei : Bool) (vid : Int) (wb : (Lit.int .i64 pri).wf = true) (wd : (Lit.int .i64 vid).wf = true) :
    DataW.Trod enc Tryd.prog W base sp held 35 (.agg #[.bool has, .int .i64 pri, .bool dei, .int .i64 vid]) (tagD has pri dei vid) [] := ⟨2, tag_trod 0 has pri dei vid wb wd⟩
set_option maxRecDepth 100000 in
theorem open_frame {v : Value} {x : DataW H} {p : List MemPlace} {b0 : Nat} (hv : Value.okWide Tryd.prog W .any b0 37 v) (h : DataW.Trod enc Tryd.prog W base sp held 37 v x p) :
    ∃ (d s : Nat) (has : Bool) (pri : Int) (dei : Bool) (vid ty : Int) (b : ByteArray), v = .agg #[.int .u64 d, .int .u64 s, .bool has, .int .i64 pri, .bool dei, .int .i64 vid, .int .i64 ty, .string b] ∧ x = frameD d s has pri dei vid ty b ∧ p = [] ∧
      d < 18446744073709551616 ∧ s < 18446744073709551616 ∧ (Lit.int .u64 (d : Int)).wf = true ∧ (Lit.int .u64 (s : Int)).wf = true ∧ (Lit.int .i64 pri).wf = true ∧ (Lit.int .i64 vid).wf = true ∧ (Lit.int .i64 ty).wf = true ∧ b.size ≤ maxLen := by
  obtain ⟨cs, rfl, hsz⟩ := okWide_struct Tryd.underlying37 hv
  rw [cells_frame] at hsz
  obtain ⟨fuel, hf⟩ := h
  obtain ⟨l⟩ := cs
  match l, hsz with
  | [c0, c1, c2, c3, c4, c5, c6, c7], _ =>
    obtain ⟨y0, y1, y2, y3, y4, m, hx, _, h0, h1, h2, h3, h4⟩ := trod_struct5 Tryd.underlying37 hf
    obtain ⟨a, e0, rfl, wa⟩ := DataW.trod_int Tryd.underlying22 h0
    obtain ⟨b, e1, rfl, wb⟩ := DataW.trod_int Tryd.underlying22 h1
    obtain ⟨has, pri, dei, vid, e2, rfl, wp, wv⟩ := tag_of_trod h2
    obtain ⟨ty, e3, rfl, wt⟩ := DataW.trod_int Tryd.underlying3 h3
    obtain ⟨z, e4, rfl, wz⟩ := DataW.trod_string Tryd.underlying9 h4
    simp [Value.cells, cells_u64, cells_i64, cells_str, cells_tag] at e0 e1 e2 e3 e4
    obtain ⟨rfl, rfl, rfl, rfl⟩ := e2
    subst e0 e1 e3 e4
    have ha := bounds_u64 wa
    have hb := bounds_u64 wb
    obtain ⟨a', rfl⟩ : ∃ m : Nat, a = m := ⟨a.toNat, by omega⟩
    obtain ⟨b', rfl⟩ : ∃ m : Nat, b = m := ⟨b.toNat, by omega⟩
    simp only [Prod.mk.injEq] at hx
    exact ⟨a', b', has, pri, dei, vid, ty, z, rfl, hx.1, hx.2, by omega, by omega, wa, wb, wp, wv, wt, wz⟩
set_option maxRecDepth 100000 in
theorem shut_frame (d s : Nat) (has : Bool) (pri : Int) (dei : Bool) (vid ty : Int) (b : ByteArray) (wa : (Lit.int .u64 (d : Int)).wf = true) (wb : (Lit.int .u64 (s : Int)).wf = true) (wp : (Lit.int .i64 pri).wf = true) (wv : (Lit.int .i64 vid).wf = true) (wt : (Lit.int .i64 ty).wf = true) (wz : b.size ≤ maxLen) :
    DataW.Trod enc Tryd.prog W base sp held 37 (.agg #[.int .u64 d, .int .u64 s, .bool has, .int .i64 pri, .bool dei, .int .i64 vid, .int .i64 ty, .string b]) (frameD d s has pri dei vid ty b) [] := by
  have f0 : DataW.trod enc Tryd.prog W base sp held 2 22 [.int .u64 (d : Int)] = some (.lit (.int .u64 (d : Int)), []) := trod_int_mk 1 Tryd.underlying22 wa
  have f1 : DataW.trod enc Tryd.prog W base sp held 2 22 [.int .u64 (s : Int)] = some (.lit (.int .u64 (s : Int)), []) := trod_int_mk 1 Tryd.underlying22 wb
  have f2 := tag_trod (enc := enc) (W := W) (base := base) (sp := sp) (held := held) 0 has pri dei vid wp wv
  have f3 : DataW.trod enc Tryd.prog W base sp held 2 3 [.int .i64 ty] = some (.lit (.int .i64 ty), []) := trod_int_mk 1 Tryd.underlying3 wt
  have f4 := str_mk (enc := enc) (W := W) (base := base) (sp := sp) (held := held) 1 b wz
  refine ⟨3, ?_⟩
  have := trod_struct5_mk (enc := enc) (w := W) (base := base) (spare := sp) (held := held) (n := 2) (cs := [.int .u64 (d : Int), .int .u64 (s : Int), .bool has, .int .i64 pri, .bool dei, .int .i64 vid, .int .i64 ty, .string b]) Tryd.underlying37 (by simp [cells_frame])
    (by simpa [cells_u64] using f0) (by simpa [cells_u64] using f1) (by simpa [cells_tag] using f2) (by simpa [cells_i64] using f3) (by simpa [cells_str] using f4)
  simpa [Value.cells, frameD] using this
theorem cells_bp : Tryd.prog.cellsOf 24 = 16 := by kernel_rfl
/-- a message's reading -/
def bpD (b : Bp) : DataW H := .agg [.lit (.int .i64 b.kind), .lit (.bool b.change), .lit (.bool b.propose), .lit (.bool b.learn), .lit (.bool b.forward), .lit (.bool b.agree), .lit (.bool b.ack), .lit (.int .i64 b.role), .lit (.int .u64 (b.root : Int)), .lit (.int .i64 b.cost), .lit (.int .u64 (b.bridge : Int)), .lit (.int .i64 b.port), .lit (.int .i64 b.age), .lit (.int .i64 b.maxAge), .lit (.int .i64 b.hello), .lit (.int .i64 b.delay)]
/-- a message's parts read as they are -/
def Bp.wf (b : Bp) : Prop := (Lit.int .i64 b.kind).wf = true ∧ (Lit.int .i64 b.role).wf = true ∧ (Lit.int .u64 (b.root : Int)).wf = true ∧ (Lit.int .i64 b.cost).wf = true ∧ (Lit.int .u64 (b.bridge : Int)).wf = true ∧ (Lit.int .i64 b.port).wf = true ∧ (Lit.int .i64 b.age).wf = true ∧ (Lit.int .i64 b.maxAge).wf = true ∧ (Lit.int .i64 b.hello).wf = true ∧ (Lit.int .i64 b.delay).wf = true
set_option maxRecDepth 100000 in
theorem open_bp {v : Value} {x : DataW H} {p : List MemPlace} {b0 : Nat} (hv : Value.okWide Tryd.prog W .any b0 24 v) (h : DataW.Trod enc Tryd.prog W base sp held 24 v x p) :
    ∃ k : Bp, v = k.val ∧ x = bpD k ∧ p = [] ∧ k.wf ∧ k.fits := by
  obtain ⟨cs, rfl, hsz⟩ := okWide_struct Tryd.underlying24 hv
  rw [cells_bp] at hsz
  obtain ⟨fuel, hf⟩ := h
  obtain ⟨l⟩ := cs
  match l, hsz with
  | [c0, c1, c2, c3, c4, c5, c6, c7, c8, c9, c10, c11, c12, c13, c14, c15], _ =>
    obtain ⟨y0, y1, y2, y3, y4, y5, y6, y7, y8, y9, y10, y11, y12, y13, y14, y15, m, hx, _, h0, h1, h2, h3, h4, h5, h6, h7, h8, h9, h10, h11, h12, h13, h14, h15⟩ := trod_struct16 Tryd.underlying24 hf
    obtain ⟨a0, e0, rfl, w0⟩ := DataW.trod_int Tryd.underlying3 h0
    obtain ⟨a1, e1, rfl⟩ := DataW.trod_bool Tryd.underlying4 h1
    obtain ⟨a2, e2, rfl⟩ := DataW.trod_bool Tryd.underlying4 h2
    obtain ⟨a3, e3, rfl⟩ := DataW.trod_bool Tryd.underlying4 h3
    obtain ⟨a4, e4, rfl⟩ := DataW.trod_bool Tryd.underlying4 h4
    obtain ⟨a5, e5, rfl⟩ := DataW.trod_bool Tryd.underlying4 h5
    obtain ⟨a6, e6, rfl⟩ := DataW.trod_bool Tryd.underlying4 h6
    obtain ⟨a7, e7, rfl, w7⟩ := DataW.trod_int Tryd.underlying3 h7
    obtain ⟨a8, e8, rfl, w8⟩ := DataW.trod_int Tryd.underlying22 h8
    obtain ⟨a9, e9, rfl, w9⟩ := DataW.trod_int Tryd.underlying3 h9
    obtain ⟨a10, e10, rfl, w10⟩ := DataW.trod_int Tryd.underlying22 h10
    obtain ⟨a11, e11, rfl, w11⟩ := DataW.trod_int Tryd.underlying3 h11
    obtain ⟨a12, e12, rfl, w12⟩ := DataW.trod_int Tryd.underlying3 h12
    obtain ⟨a13, e13, rfl, w13⟩ := DataW.trod_int Tryd.underlying3 h13
    obtain ⟨a14, e14, rfl, w14⟩ := DataW.trod_int Tryd.underlying3 h14
    obtain ⟨a15, e15, rfl, w15⟩ := DataW.trod_int Tryd.underlying3 h15
    simp [Value.cells, cells_i64, cells_bool, cells_u64] at e0 e1 e2 e3 e4 e5 e6 e7 e8 e9 e10 e11 e12 e13 e14 e15
    subst e0 e1 e2 e3 e4 e5 e6 e7 e8 e9 e10 e11 e12 e13 e14 e15
    have q8 := bounds_u64 w8
    have q10 := bounds_u64 w10
    obtain ⟨z8, rfl⟩ : ∃ m : Nat, a8 = m := ⟨a8.toNat, by omega⟩
    obtain ⟨z10, rfl⟩ : ∃ m : Nat, a10 = m := ⟨a10.toNat, by omega⟩
    simp only [Prod.mk.injEq] at hx
    exact ⟨⟨a0, a1, a2, a3, a4, a5, a6, a7, z8, a9, z10, a11, a12, a13, a14, a15⟩, rfl, hx.1, hx.2, ⟨w0, w7, w8, w9, w10, w11, w12, w13, w14, w15⟩, by show z8 < _; omega, by show z10 < _; omega⟩
set_option maxRecDepth 100000 in
theorem shut_bp (b : Bp) (h : b.wf) : DataW.Trod enc Tryd.prog W base sp held 24 b.val (bpD b) [] := by
  obtain ⟨w0, w7, w8, w9, w10, w11, w12, w13, w14, w15⟩ := h
  have f0 : DataW.trod enc Tryd.prog W base sp held 1 3 [.int .i64 b.kind] = some (.lit (.int .i64 b.kind), []) := trod_int_mk 0 Tryd.underlying3 w0
  have f1 := bool_mk (enc := enc) (W := W) (base := base) (sp := sp) (held := held) 0 b.change
  have f2 := bool_mk (enc := enc) (W := W) (base := base) (sp := sp) (held := held) 0 b.propose
  have f3 := bool_mk (enc := enc) (W := W) (base := base) (sp := sp) (held := held) 0 b.learn
  have f4 := bool_mk (enc := enc) (W := W) (base := base) (sp := sp) (held := held) 0 b.forward
  have f5 := bool_mk (enc := enc) (W := W) (base := base) (sp := sp) (held := held) 0 b.agree
  have f6 := bool_mk (enc := enc) (W := W) (base := base) (sp := sp) (held := held) 0 b.ack
  have f7 : DataW.trod enc Tryd.prog W base sp held 1 3 [.int .i64 b.role] = some (.lit (.int .i64 b.role), []) := trod_int_mk 0 Tryd.underlying3 w7
  have f8 : DataW.trod enc Tryd.prog W base sp held 1 22 [.int .u64 (b.root : Int)] = some (.lit (.int .u64 (b.root : Int)), []) := trod_int_mk 0 Tryd.underlying22 w8
  have f9 : DataW.trod enc Tryd.prog W base sp held 1 3 [.int .i64 b.cost] = some (.lit (.int .i64 b.cost), []) := trod_int_mk 0 Tryd.underlying3 w9
  have f10 : DataW.trod enc Tryd.prog W base sp held 1 22 [.int .u64 (b.bridge : Int)] = some (.lit (.int .u64 (b.bridge : Int)), []) := trod_int_mk 0 Tryd.underlying22 w10
  have f11 : DataW.trod enc Tryd.prog W base sp held 1 3 [.int .i64 b.port] = some (.lit (.int .i64 b.port), []) := trod_int_mk 0 Tryd.underlying3 w11
  have f12 : DataW.trod enc Tryd.prog W base sp held 1 3 [.int .i64 b.age] = some (.lit (.int .i64 b.age), []) := trod_int_mk 0 Tryd.underlying3 w12
  have f13 : DataW.trod enc Tryd.prog W base sp held 1 3 [.int .i64 b.maxAge] = some (.lit (.int .i64 b.maxAge), []) := trod_int_mk 0 Tryd.underlying3 w13
  have f14 : DataW.trod enc Tryd.prog W base sp held 1 3 [.int .i64 b.hello] = some (.lit (.int .i64 b.hello), []) := trod_int_mk 0 Tryd.underlying3 w14
  have f15 : DataW.trod enc Tryd.prog W base sp held 1 3 [.int .i64 b.delay] = some (.lit (.int .i64 b.delay), []) := trod_int_mk 0 Tryd.underlying3 w15
  refine ⟨2, ?_⟩
  have := trod_struct16_mk (enc := enc) (w := W) (base := base) (spare := sp) (held := held) (n := 1) (cs := [.int .i64 b.kind, .bool b.change, .bool b.propose, .bool b.learn, .bool b.forward, .bool b.agree, .bool b.ack, .int .i64 b.role, .int .u64 (b.root : Int), .int .i64 b.cost, .int .u64 (b.bridge : Int), .int .i64 b.port, .int .i64 b.age, .int .i64 b.maxAge, .int .i64 b.hello, .int .i64 b.delay]) Tryd.underlying24 (by simp [cells_bp])
    (by simpa [cells_i64] using f0) (by simpa [cells_bool] using f1) (by simpa [cells_bool] using f2) (by simpa [cells_bool] using f3) (by simpa [cells_bool] using f4) (by simpa [cells_bool] using f5) (by simpa [cells_bool] using f6) (by simpa [cells_i64] using f7) (by simpa [cells_u64] using f8) (by simpa [cells_i64] using f9) (by simpa [cells_u64] using f10) (by simpa [cells_i64] using f11) (by simpa [cells_i64] using f12) (by simpa [cells_i64] using f13) (by simpa [cells_i64] using f14) (by simpa [cells_i64] using f15)
  simpa [Value.cells, Bp.val, bpD] using this
end
/-- a text's first n bytes, as the walk's own operations give them -/
def FirstN (n : Nat) (x : ByteArray) (m : Nat) (a : List UInt8) : Prop :=
  a.length ≤ n ∧ (∀ (ts : Array TypeId) (t : TypeId) (W : World), (Builtin.min_ ts t #[.int .i64 (x.size : Int), .int .i64 (n : Int)]).run Tryd.prog W = .ok (.int .i64 (m : Int)) W) ∧
    ∀ W : World, (Instr.slice 9 (.string x) none (some (.int .i64 (m : Int))) none).run Tryd.prog W = .ok (.string (bs a)) W
theorem firstN (n : Nat) (x : ByteArray) : ∃ (m : Nat) (a : List UInt8), FirstN n x m a := by
  refine ⟨min x.size n, (x.extract 0 (min x.size n)).data.toList, ?_, ?_, ?_⟩
  · rw [size_toList, ByteArray.size_extract]; omega
  · intro ts t W
    rw [run_min_int2]
    by_cases h : (n : Int) < (x.size : Int)
    · rw [if_pos h, show ((min x.size n : Nat) : Int) = n by omega]
    · rw [if_neg h, show ((min x.size n : Nat) : Int) = (x.size : Int) by omega]
  · intro W
    have e := run_slice_string_h (P := Tryd.prog) W 9 x Tryd.underlying9 .i64 ((min x.size n : Nat) : Int) (by omega) (by omega)
    rw [show (((min x.size n : Nat) : Int)).toNat = min x.size n by omega] at e
    rw [bs_of]
    exact e
end Go.Proofs.YtchgmbbcfjfhoaaDoor
