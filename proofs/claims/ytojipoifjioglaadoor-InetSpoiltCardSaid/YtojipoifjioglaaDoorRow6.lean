/-
  What every row of this seat shares: what the listed variable gives a walk, a world that meets the list; a packet among a row's arguments: what it holds, and that it reads as it did; the first bytes of a text.
-/
import Derived.Test.YtojipoifjioglaaDoorRows
import Derived.Test.YtojipoifjioglaaDoorCards
import Derived.Test.YtojipoifjioglaaDoorTie
import Derived.Test.YtojipoifjioglaaDoorFixed6
import Derived.Test.YtojipoifjioglaaDoorStructs10
import Derived.ChangeMaps5
import Derived.Deep.Strs
import Derived.ChangeSame
import Derived.ChangeVars
import Derived.JoinedOf
import Derived.RowKit
import Derived.RowKitTokens
import Derived.LaidLaws
import Derived.LaidHandle
import Derived.Stop.Joined
import Derived.ProofKit
import Derived.OpenShut
import Derived.SevenTiedAt
namespace Go.Proofs.YtojipoifjioglaaDoor
open Go.ChangeShapes Go.WideShapes Go.ChangeAt Go.RowKit Go.Deep

theorem own : ownKnob Tryd.prog.godebug = none := by kernel_rfl
theorem et : Tryd.prog.globalNamed "errors.errorType" = some 0 := by kernel_rfl
theorem oneRow : ((List.range 133).filter fun t => Tryd.prog.rowNamed t [101, 114, 114, 111, 114]) = [41] := by kernel_rfl
theorem typesSize : Tryd.prog.types.size = 133 := by kernel_rfl

/-- WHAT THE CONDITION GIVES A WALK: the variable's one cell. -/
theorem et_of_laid {W : World} (h : laidMetH Tryd.prog [("errors.errorType", Rows.laid_errors_errorType)] W) : Et W := by
  have h' : laidMet Tryd.prog [] W ∧ handlesMet Tryd.prog [("errors.errorType", Rows.laid_errors_errorType)] W := h
  obtain ⟨name, u, ty, e1, e2, e3, e4, e5⟩ := h'.2 _ (List.mem_singleton.2 rfl)
  have en : name = [101, 114, 114, 111, 114] := (Option.some.inj e1).symm
  subst en
  obtain rfl : 89 = u := Option.some.inj (Eq.trans (Eq.symm (by kernel_rfl)) e2)
  have hm : ty ∈ (List.range 133).filter fun t => Tryd.prog.rowNamed t [101, 114, 114, 111, 114] := List.mem_filter.2 ⟨List.mem_range.2 (by rw [← typesSize]; exact e3), e4⟩
  rw [oneRow] at hm
  obtain rfl := List.mem_singleton.1 hm
  have hh : typeHandle Tryd.prog 41 = .pointer (some ⟨1, 41, none⟩) := by kernel_rfl
  rw [hh] at e5
  unfold Et
  simpa using World.var?_cell et e5 0

theorem laid_met (os : Os) (args : Array Value) : laidMetH Tryd.prog [("errors.errorType", Rows.laid_errors_errorType)]
    (({ World.holding Tryd.prog os ⟨#[], #[], []⟩ with heap := (World.holding Tryd.prog os ⟨#[], #[], []⟩).heap.modify 0 fun
      | .cells _ t frozen => .cells #[.iface 89 (.agg #[.pointer (some ⟨1, 41, none⟩)])] t frozen
      | o => o } : World).forCall (fun _ _ => 0) ⟨#[], args, []⟩).memory :=
  laidMetH_of_parts (laidMet_nil _ _) (by kernel_rfl)
theorem cells_ip : Tryd.prog.cellsOf 24 = 10 := by kernel_rfl
theorem cells_u32 : Tryd.prog.cellsOf 22 = 1 := by kernel_rfl
theorem cells_i64 : Tryd.prog.cellsOf 3 = 1 := by kernel_rfl
theorem cells_bool : Tryd.prog.cellsOf 4 = 1 := by kernel_rfl
theorem cells_str : Tryd.prog.cellsOf 9 = 1 := by kernel_rfl
section
variable {H : Type} {enc : TypeId × Value → H} {W : World} {base : Nat} {sp : Nat → Bool} {held : Bool}
/-- a packet's reading -/
def ipD (p : Pk) : DataW H := .agg [.lit (.int .i64 p.tos), .lit (.int .i64 p.id), .lit (.bool p.whole), .lit (.bool p.more), .lit (.int .i64 p.off), .lit (.int .i64 p.ttl), .lit (.int .i64 p.proto), .lit (.int .u32 (p.src : Int)), .lit (.int .u32 (p.dst : Int)), .lit (.string p.body)]
/-- a packet's parts read as they are -/
def Pk.wf (p : Pk) : Prop := (Lit.int .i64 p.tos).wf = true ∧ (Lit.int .i64 p.id).wf = true ∧ (Lit.int .i64 p.off).wf = true ∧ (Lit.int .i64 p.ttl).wf = true ∧ (Lit.int .i64 p.proto).wf = true ∧ (Lit.int .u32 (p.src : Int)).wf = true ∧ (Lit.int .u32 (p.dst : Int)).wf = true ∧ p.body.length ≤ maxLen
theorem bool_mk (n : Nat) (b : Bool) : DataW.trod enc Tryd.prog W base sp held (n + 1) 4 [.bool b] = some (.lit (.bool b), []) := by simp [DataW.trod, Tryd.underlying4]
theorem str_mk (n : Nat) (b : ByteArray) (h : b.size ≤ maxLen) : DataW.trod enc Tryd.prog W base sp held (n + 1) 9 [.string b] = some (.lit (.string b.data.toList), []) := by simp [DataW.trod, Tryd.underlying9, h]
set_option maxRecDepth 100000 in
theorem open_ip {v : Value} {x : DataW H} {p : List MemPlace} {b0 : Nat} (hv : Value.okWide Tryd.prog W .any b0 24 v) (h : DataW.Trod enc Tryd.prog W base sp held 24 v x p) :
    ∃ k : Pk, v = k.val ∧ x = ipD k ∧ p = [] ∧ k.src < 4294967296 ∧ k.dst < 4294967296 ∧ k.wf := by
  obtain ⟨cs, rfl, hsz⟩ := okWide_struct Tryd.underlying24 hv
  rw [cells_ip] at hsz
  obtain ⟨fuel, hf⟩ := h
  obtain ⟨l⟩ := cs
  match l, hsz with
  | [c0, c1, c2, c3, c4, c5, c6, c7, c8, c9], _ =>
    obtain ⟨y0, y1, y2, y3, y4, y5, y6, y7, y8, y9, m, hx, _, h0, h1, h2, h3, h4, h5, h6, h7, h8, h9⟩ := trod_struct10 Tryd.underlying24 hf
    obtain ⟨a0, e0, rfl, w0⟩ := DataW.trod_int Tryd.underlying3 h0
    obtain ⟨a1, e1, rfl, w1⟩ := DataW.trod_int Tryd.underlying3 h1
    obtain ⟨a2, e2, rfl⟩ := DataW.trod_bool Tryd.underlying4 h2
    obtain ⟨a3, e3, rfl⟩ := DataW.trod_bool Tryd.underlying4 h3
    obtain ⟨a4, e4, rfl, w4⟩ := DataW.trod_int Tryd.underlying3 h4
    obtain ⟨a5, e5, rfl, w5⟩ := DataW.trod_int Tryd.underlying3 h5
    obtain ⟨a6, e6, rfl, w6⟩ := DataW.trod_int Tryd.underlying3 h6
    obtain ⟨a7, e7, rfl, w7⟩ := DataW.trod_int Tryd.underlying22 h7
    obtain ⟨a8, e8, rfl, w8⟩ := DataW.trod_int Tryd.underlying22 h8
    obtain ⟨a9, e9, rfl, w9⟩ := DataW.trod_string Tryd.underlying9 h9
    simp [Value.cells, cells_i64, cells_bool, cells_u32, cells_str] at e0 e1 e2 e3 e4 e5 e6 e7 e8 e9
    subst e0 e1 e2 e3 e4 e5 e6 e7 e8 e9
    have h7' := bounds_u32 w7
    have h8' := bounds_u32 w8
    obtain ⟨s, rfl⟩ : ∃ m : Nat, a7 = m := ⟨a7.toNat, by omega⟩
    obtain ⟨d, rfl⟩ : ∃ m : Nat, a8 = m := ⟨a8.toNat, by omega⟩
    obtain ⟨z, rfl⟩ : ∃ z : List UInt8, a9 = bs z := ⟨a9.data.toList, (bs_of a9).symm⟩
    rw [bs_size] at w9
    simp only [Prod.mk.injEq, bs_toList] at hx
    exact ⟨⟨a0, a1, a2, a3, a4, a5, a6, s, d, z⟩, rfl, hx.1, hx.2, by simp only; omega, by simp only; omega, w0, w1, w4, w5, w6, w7, w8, w9⟩
set_option maxRecDepth 100000 in
theorem shut_ip (p : Pk) (h : p.wf) : DataW.Trod enc Tryd.prog W base sp held 24 p.val (ipD p) [] := by
  obtain ⟨w0, w1, w4, w5, w6, w7, w8, w9⟩ := h
  have f0 : DataW.trod enc Tryd.prog W base sp held 1 3 [.int .i64 p.tos] = some (.lit (.int .i64 p.tos), []) := trod_int_mk 0 Tryd.underlying3 w0
  have f1 : DataW.trod enc Tryd.prog W base sp held 1 3 [.int .i64 p.id] = some (.lit (.int .i64 p.id), []) := trod_int_mk 0 Tryd.underlying3 w1
  have f2 := bool_mk (enc := enc) (W := W) (base := base) (sp := sp) (held := held) 0 p.whole
  have f3 := bool_mk (enc := enc) (W := W) (base := base) (sp := sp) (held := held) 0 p.more
  have f4 : DataW.trod enc Tryd.prog W base sp held 1 3 [.int .i64 p.off] = some (.lit (.int .i64 p.off), []) := trod_int_mk 0 Tryd.underlying3 w4
  have f5 : DataW.trod enc Tryd.prog W base sp held 1 3 [.int .i64 p.ttl] = some (.lit (.int .i64 p.ttl), []) := trod_int_mk 0 Tryd.underlying3 w5
  have f6 : DataW.trod enc Tryd.prog W base sp held 1 3 [.int .i64 p.proto] = some (.lit (.int .i64 p.proto), []) := trod_int_mk 0 Tryd.underlying3 w6
  have f7 : DataW.trod enc Tryd.prog W base sp held 1 22 [.int .u32 (p.src : Int)] = some (.lit (.int .u32 (p.src : Int)), []) := trod_int_mk 0 Tryd.underlying22 w7
  have f8 : DataW.trod enc Tryd.prog W base sp held 1 22 [.int .u32 (p.dst : Int)] = some (.lit (.int .u32 (p.dst : Int)), []) := trod_int_mk 0 Tryd.underlying22 w8
  have f9 := str_mk (enc := enc) (W := W) (base := base) (sp := sp) (held := held) 0 (bs p.body) (by rw [bs_size]; exact w9)
  rw [bs_toList] at f9
  refine ⟨2, ?_⟩
  have := trod_struct10_mk (enc := enc) (w := W) (base := base) (spare := sp) (held := held) (n := 1) (cs := [.int .i64 p.tos, .int .i64 p.id, .bool p.whole, .bool p.more, .int .i64 p.off, .int .i64 p.ttl, .int .i64 p.proto, .int .u32 (p.src : Int), .int .u32 (p.dst : Int), .string (bs p.body)]) Tryd.underlying24 (by simp [cells_ip])
    (by simpa [cells_i64] using f0) (by simpa [cells_i64] using f1) (by simpa [cells_bool] using f2) (by simpa [cells_bool] using f3) (by simpa [cells_i64] using f4) (by simpa [cells_i64] using f5) (by simpa [cells_i64] using f6) (by simpa [cells_u32] using f7) (by simpa [cells_u32] using f8) (by simpa [cells_str] using f9)
  simpa [Value.cells, Pk.val, ipD] using this
end
/-- a text's first n bytes, as the walk's own operations give them -/
def FirstN (n : Nat) (x : ByteArray) (m : Nat) (a : List UInt8) : Prop :=
  a.length ≤ n ∧ (∀ (ts : Array TypeId) (t : TypeId) (W : World), (Builtin.min_ ts t #[.int .i64 (x.size : Int), .int .i64 (n : Int)]).run Tryd.prog W = .ok (.int .i64 (m : Int)) W) ∧
    ∀ W : World, (Instr.slice 9 (.string x) none (some (.int .i64 (m : Int))) none).run Tryd.prog W = .ok (.string (bs a)) W
theorem firstN (n : Nat) (x : ByteArray) : ∃ (m : Nat) (a : List UInt8), FirstN n x m a := by
  refine ⟨min x.size n, (x.extract 0 (min x.size n)).data.toList, ?_, ?_, ?_⟩
  · rw [size_toList, ByteArray.size_extract]; omega
  · intro ts t W
    rw [run_min_int2]
    by_cases h : (n : Int) < (x.size : Int)
    · rw [if_pos h, show ((min x.size n : Nat) : Int) = n by omega]
    · rw [if_neg h, show ((min x.size n : Nat) : Int) = (x.size : Int) by omega]
  · intro W
    have e := run_slice_string_h (P := Tryd.prog) W 9 x Tryd.underlying9 .i64 ((min x.size n : Nat) : Int) (by omega) (by omega)
    rw [show (((min x.size n : Nat) : Int)).toNat = min x.size n by omega] at e
    rw [bs_of]
    exact e
end Go.Proofs.YtojipoifjioglaaDoor
