/-
  What every row of this seat shares: a world that meets the list; a datagram, and two addresses, among a row's arguments: what they hold, and that they read as they did; the first bytes of a text.
-/
import Derived.Test.YtcgilcofcjehmaaDoorRows
import Derived.Test.YtcgilcofcjehmaaDoorCards
import Derived.Test.YtcgilcofcjehmaaDoorTie
import Derived.Test.YtcgilcofcjehmaaDoorFixed7
import Derived.Test.YtcgilcofcjehmaaDoorStructs2
import Derived.Test.YtcgilcofcjehmaaDoorStructs4
import Derived.ChangeMaps5
import Derived.Deep.Strs
import Derived.ChangeSame
import Derived.ChangeVars
import Derived.JoinedOf
import Derived.RowKit
import Derived.RowKitTokens
import Derived.LaidLaws
import Derived.LaidHandle
import Derived.Stop.Joined
import Derived.ProofKit
import Derived.OpenShut
import Derived.SevenTiedAt
namespace Go.Proofs.YtcgilcofcjehmaaDoor
open Go.ChangeShapes Go.WideShapes Go.ChangeAt Go.RowKit Go.Deep

theorem own : ownKnob Tryd.prog.godebug = none := by kernel_rfl

theorem laid_met (os : Os) (args : Array Value) : laidMetH Tryd.prog [("errors.errorType", Rows.laid_errors_errorType)]
    (({ World.holding Tryd.prog os ⟨#[], #[], []⟩ with heap := (World.holding Tryd.prog os ⟨#[], #[], []⟩).heap.modify 0 fun
      | .cells _ t frozen => .cells #[.iface 86 (.agg #[.pointer (some ⟨1, 59, none⟩)])] t frozen
      | o => o } : World).forCall (fun _ _ => 0) ⟨#[], args, []⟩).memory :=
  laidMetH_of_parts (laidMet_nil _ _) (by kernel_rfl)
theorem cells_udp : Tryd.prog.cellsOf 26 = 4 := by kernel_rfl
theorem cells_way : Tryd.prog.cellsOf 24 = 2 := by kernel_rfl
theorem cells_u32 : Tryd.prog.cellsOf 22 = 1 := by kernel_rfl
theorem cells_i64 : Tryd.prog.cellsOf 3 = 1 := by kernel_rfl
theorem cells_bool : Tryd.prog.cellsOf 4 = 1 := by kernel_rfl
theorem cells_str : Tryd.prog.cellsOf 9 = 1 := by kernel_rfl
section
variable {H : Type} {enc : TypeId × Value → H} {W : World} {base : Nat} {sp : Nat → Bool} {held : Bool}
/-- a datagram's reading -/
def udD (u : Ud) : DataW H := .agg [.lit (.int .i64 u.src), .lit (.int .i64 u.dst), .lit (.bool u.noSum), .lit (.string u.body)]
/-- a datagram's parts read as they are -/
def Ud.wf (u : Ud) : Prop := (Lit.int .i64 u.src).wf = true ∧ (Lit.int .i64 u.dst).wf = true ∧ u.body.length ≤ maxLen
/-- two addresses' reading -/
def wayD (s d : Nat) : DataW H := .agg [.lit (.int .u32 (s : Int)), .lit (.int .u32 (d : Int))]
theorem bool_mk (n : Nat) (b : Bool) : DataW.trod enc Tryd.prog W base sp held (n + 1) 4 [.bool b] = some (.lit (.bool b), []) := by simp [DataW.trod, Tryd.underlying4]
theorem str_mk (n : Nat) (b : ByteArray) (h : b.size ≤ maxLen) : DataW.trod enc Tryd.prog W base sp held (n + 1) 9 [.string b] = some (.lit (.string b.data.toList), []) := by simp [DataW.trod, Tryd.underlying9, h]
set_option maxRecDepth 100000 in
theorem open_udp {v : Value} {x : DataW H} {p : List MemPlace} {b0 : Nat} (hv : Value.okWide Tryd.prog W .any b0 26 v) (h : DataW.Trod enc Tryd.prog W base sp held 26 v x p) :
    ∃ k : Ud, v = k.val ∧ x = udD k ∧ p = [] ∧ k.wf := by
  obtain ⟨cs, rfl, hsz⟩ := okWide_struct Tryd.underlying26 hv
  rw [cells_udp] at hsz
  obtain ⟨fuel, hf⟩ := h
  obtain ⟨l⟩ := cs
  match l, hsz with
  | [c0, c1, c2, c3], _ =>
    obtain ⟨y0, y1, y2, y3, m, hx, _, h0, h1, h2, h3⟩ := trod_struct4 Tryd.underlying26 hf
    obtain ⟨a0, e0, rfl, w0⟩ := DataW.trod_int Tryd.underlying3 h0
    obtain ⟨a1, e1, rfl, w1⟩ := DataW.trod_int Tryd.underlying3 h1
    obtain ⟨a2, e2, rfl⟩ := DataW.trod_bool Tryd.underlying4 h2
    obtain ⟨a3, e3, rfl, w3⟩ := DataW.trod_string Tryd.underlying9 h3
    simp [Value.cells, cells_i64, cells_bool, cells_str] at e0 e1 e2 e3
    subst e0 e1 e2 e3
    obtain ⟨z, rfl⟩ : ∃ z : List UInt8, a3 = bs z := ⟨a3.data.toList, (bs_of a3).symm⟩
    rw [bs_size] at w3
    simp only [Prod.mk.injEq, bs_toList] at hx
    exact ⟨⟨a0, a1, a2, z⟩, rfl, hx.1, hx.2, w0, w1, w3⟩
set_option maxRecDepth 100000 in
theorem shut_udp (u : Ud) (h : u.wf) : DataW.Trod enc Tryd.prog W base sp held 26 u.val (udD u) [] := by
  obtain ⟨w0, w1, w3⟩ := h
  have f0 : DataW.trod enc Tryd.prog W base sp held 1 3 [.int .i64 u.src] = some (.lit (.int .i64 u.src), []) := trod_int_mk 0 Tryd.underlying3 w0
  have f1 : DataW.trod enc Tryd.prog W base sp held 1 3 [.int .i64 u.dst] = some (.lit (.int .i64 u.dst), []) := trod_int_mk 0 Tryd.underlying3 w1
  have f2 := bool_mk (enc := enc) (W := W) (base := base) (sp := sp) (held := held) 0 u.noSum
  have f3 := str_mk (enc := enc) (W := W) (base := base) (sp := sp) (held := held) 0 (bs u.body) (by rw [bs_size]; exact w3)
  rw [bs_toList] at f3
  refine ⟨2, ?_⟩
  have := trod_struct4_mk (enc := enc) (w := W) (base := base) (spare := sp) (held := held) (n := 1) (cs := [.int .i64 u.src, .int .i64 u.dst, .bool u.noSum, .string (bs u.body)]) Tryd.underlying26 (by simp [cells_udp])
    (by simpa [cells_i64] using f0) (by simpa [cells_i64] using f1) (by simpa [cells_bool] using f2) (by simpa [cells_str] using f3)
  simpa [Value.cells, Ud.val, udD] using this
set_option maxRecDepth 100000 in
theorem open_way {v : Value} {x : DataW H} {p : List MemPlace} {b0 : Nat} (hv : Value.okWide Tryd.prog W .any b0 24 v) (h : DataW.Trod enc Tryd.prog W base sp held 24 v x p) :
    ∃ s d : Nat, v = .agg #[.int .u32 (s : Int), .int .u32 (d : Int)] ∧ x = wayD s d ∧ p = [] ∧ s < 4294967296 ∧ d < 4294967296 ∧ (Lit.int .u32 (s : Int)).wf = true ∧ (Lit.int .u32 (d : Int)).wf = true := by
  obtain ⟨cs, rfl, hsz⟩ := okWide_struct Tryd.underlying24 hv
  rw [cells_way] at hsz
  obtain ⟨fuel, hf⟩ := h
  obtain ⟨l⟩ := cs
  match l, hsz with
  | [c0, c1], _ =>
    obtain ⟨y0, y1, m, hx, _, h0, h1⟩ := trod_struct2 Tryd.underlying24 hf
    obtain ⟨a0, e0, rfl, w0⟩ := DataW.trod_int Tryd.underlying22 h0
    obtain ⟨a1, e1, rfl, w1⟩ := DataW.trod_int Tryd.underlying22 h1
    simp [Value.cells, cells_u32] at e0 e1
    subst e0 e1
    have h0' := bounds_u32 w0
    have h1' := bounds_u32 w1
    obtain ⟨s, rfl⟩ : ∃ m : Nat, a0 = m := ⟨a0.toNat, by omega⟩
    obtain ⟨d, rfl⟩ : ∃ m : Nat, a1 = m := ⟨a1.toNat, by omega⟩
    simp only [Prod.mk.injEq] at hx
    exact ⟨s, d, rfl, hx.1, hx.2, by omega, by omega, w0, w1⟩
theorem shut_way (s d : Nat) (w0 : (Lit.int .u32 (s : Int)).wf = true) (w1 : (Lit.int .u32 (d : Int)).wf = true) : DataW.Trod enc Tryd.prog W base sp held 24 (.agg #[.int .u32 (s : Int), .int .u32 (d : Int)]) (wayD s d) [] := by
  have f0 : DataW.trod enc Tryd.prog W base sp held 1 22 [.int .u32 (s : Int)] = some (.lit (.int .u32 (s : Int)), []) := trod_int_mk 0 Tryd.underlying22 w0
  have f1 : DataW.trod enc Tryd.prog W base sp held 1 22 [.int .u32 (d : Int)] = some (.lit (.int .u32 (d : Int)), []) := trod_int_mk 0 Tryd.underlying22 w1
  refine ⟨2, ?_⟩
  have := trod_struct2_mk (enc := enc) (w := W) (base := base) (spare := sp) (held := held) (n := 1) (cs := [.int .u32 (s : Int), .int .u32 (d : Int)]) Tryd.underlying24 (by simp [cells_way])
    (by simpa [cells_u32] using f0) (by simpa [cells_u32] using f1)
  simpa [Value.cells, wayD] using this
end
/-- a text's first n bytes, as the walk's own operations give them -/
def FirstN (n : Nat) (x : ByteArray) (m : Nat) (a : List UInt8) : Prop :=
  a.length ≤ n ∧ (∀ (ts : Array TypeId) (t : TypeId) (W : World), (Builtin.min_ ts t #[.int .i64 (x.size : Int), .int .i64 (n : Int)]).run Tryd.prog W = .ok (.int .i64 (m : Int)) W) ∧
    ∀ W : World, (Instr.slice 9 (.string x) none (some (.int .i64 (m : Int))) none).run Tryd.prog W = .ok (.string (bs a)) W
theorem firstN (n : Nat) (x : ByteArray) : ∃ (m : Nat) (a : List UInt8), FirstN n x m a := by
  refine ⟨min x.size n, (x.extract 0 (min x.size n)).data.toList, ?_, ?_, ?_⟩
  · rw [size_toList, ByteArray.size_extract]; omega
  · intro ts t W
    rw [run_min_int2]
    by_cases h : (n : Int) < (x.size : Int)
    · rw [if_pos h, show ((min x.size n : Nat) : Int) = n by omega]
    · rw [if_neg h, show ((min x.size n : Nat) : Int) = (x.size : Int) by omega]
  · intro W
    have e := run_slice_string_h (P := Tryd.prog) W 9 x Tryd.underlying9 .i64 ((min x.size n : Nat) : Int) (by omega) (by omega)
    rw [show (((min x.size n : Nat) : Int)).toNat = min x.size n by omega] at e
    rw [bs_of]
    exact e
end Go.Proofs.YtcgilcofcjehmaaDoor
