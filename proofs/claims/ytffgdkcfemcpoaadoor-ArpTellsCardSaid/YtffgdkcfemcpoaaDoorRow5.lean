/-
  What every row of this seat shares: a world that meets the list; a message, and who asks, among a row's arguments: what they hold, and that they read as they did; the first bytes of a text.
-/
import Derived.Test.YtffgdkcfemcpoaaDoorRows
import Derived.Test.YtffgdkcfemcpoaaDoorCards
import Derived.Test.YtffgdkcfemcpoaaDoorTie
import Derived.Test.YtffgdkcfemcpoaaDoorFixed5
import Derived.Test.YtffgdkcfemcpoaaDoorStructs
import Derived.ChangeSame
import Derived.ChangeVars
import Derived.ChangeMaps5
import Derived.JoinedOf
import Derived.RowKit
import Derived.RowKitTokens
import Derived.LaidLaws
import Derived.LaidHandle
import Derived.Stop.Joined
import Derived.ProofKit
import Derived.OpenShut
import Derived.SevenTiedAt
import Derived.Deep.Strs
namespace Go.Proofs.YtffgdkcfemcpoaaDoor
open Go.ChangeShapes Go.WideShapes Go.ChangeAt Go.RowKit Go.Deep

theorem own : ownKnob Tryd.prog.godebug = none := by kernel_rfl
theorem laid_met (os : Os) (args : Array Value) : laidMetH Tryd.prog [("errors.errorType", Rows.laid_errors_errorType)]
    (({ World.holding Tryd.prog os ⟨#[], #[], []⟩ with heap := (World.holding Tryd.prog os ⟨#[], #[], []⟩).heap.modify 0 fun
      | .cells _ t frozen => .cells #[.iface 104 (.agg #[.pointer (some ⟨1, 56, none⟩)])] t frozen
      | o => o } : World).forCall (fun _ _ => 0) ⟨#[], args, []⟩).memory :=
  laidMetH_of_parts (laidMet_nil _ _) (by kernel_rfl)
theorem cells_arp : Tryd.prog.cellsOf 25 = 5 := by kernel_rfl
theorem cells_who : Tryd.prog.cellsOf 35 = 3 := by kernel_rfl
theorem cells_u64 : Tryd.prog.cellsOf 22 = 1 := by kernel_rfl
theorem cells_u32 : Tryd.prog.cellsOf 23 = 1 := by kernel_rfl
theorem cells_i64 : Tryd.prog.cellsOf 3 = 1 := by kernel_rfl
section
variable {H : Type} {enc : TypeId × Value → H} {W : World} {base : Nat} {sp : Nat → Bool} {held : Bool}
/-- a message's reading -/
def arpD (a : Ar) : DataW H := .agg [.lit (.int .i64 a.op), .lit (.int .u64 (a.smac : Int)), .lit (.int .u32 (a.sip : Int)), .lit (.int .u64 (a.tmac : Int)), .lit (.int .u32 (a.tip : Int))]
/-- a message's numbers read as they are -/
def Ar.wf (a : Ar) : Prop := (Lit.int .i64 a.op).wf = true ∧ (Lit.int .u64 (a.smac : Int)).wf = true ∧ (Lit.int .u32 (a.sip : Int)).wf = true ∧ (Lit.int .u64 (a.tmac : Int)).wf = true ∧ (Lit.int .u32 (a.tip : Int)).wf = true
set_option maxRecDepth 100000 in
theorem open_arp {v : Value} {x : DataW H} {p : List MemPlace} {b0 : Nat} (hv : Value.okWide Tryd.prog W .any b0 25 v) (h : DataW.Trod enc Tryd.prog W base sp held 25 v x p) :
    ∃ a : Ar, v = a.val ∧ x = arpD a ∧ p = [] ∧ a.fits ∧ a.wf := by
  obtain ⟨cs, rfl, hsz⟩ := okWide_struct Tryd.underlying25 hv
  rw [cells_arp] at hsz
  obtain ⟨fuel, hf⟩ := h
  obtain ⟨l⟩ := cs
  match l, hsz with
  | [c0, c1, c2, c3, c4], _ =>
    obtain ⟨y0, y1, y2, y3, y4, m, hx, _, h0, h1, h2, h3, h4⟩ := trod_struct5 Tryd.underlying25 hf
    obtain ⟨a, e0, rfl, wa⟩ := DataW.trod_int Tryd.underlying3 h0
    obtain ⟨b, e1, rfl, wb⟩ := DataW.trod_int Tryd.underlying22 h1
    obtain ⟨c, e2, rfl, wc⟩ := DataW.trod_int Tryd.underlying23 h2
    obtain ⟨d, e3, rfl, wd⟩ := DataW.trod_int Tryd.underlying22 h3
    obtain ⟨e, e4, rfl, we⟩ := DataW.trod_int Tryd.underlying23 h4
    simp [Value.cells, cells_u64, cells_i64, cells_u32] at e0 e1 e2 e3 e4
    subst e0 e1 e2 e3 e4
    have ha := bounds_i64 wa
    have hb := bounds_u64 wb
    have hc := bounds_u32 wc
    have hd := bounds_u64 wd
    have he := bounds_u32 we
    obtain ⟨b', rfl⟩ : ∃ m : Nat, b = m := ⟨b.toNat, by omega⟩
    obtain ⟨c', rfl⟩ : ∃ m : Nat, c = m := ⟨c.toNat, by omega⟩
    obtain ⟨d', rfl⟩ : ∃ m : Nat, d = m := ⟨d.toNat, by omega⟩
    obtain ⟨e', rfl⟩ : ∃ m : Nat, e = m := ⟨e.toNat, by omega⟩
    simp only [Prod.mk.injEq] at hx
    exact ⟨⟨a, b', c', d', e'⟩, rfl, hx.1, hx.2, ⟨by simp only; omega, by simp only; omega, by simp only; omega, by simp only; omega, by simp only; omega⟩, wa, wb, wc, wd, we⟩
set_option maxRecDepth 100000 in
theorem shut_arp (a : Ar) (h : a.wf) : DataW.Trod enc Tryd.prog W base sp held 25 a.val (arpD a) [] := by
  obtain ⟨wa, wb, wc, wd, we⟩ := h
  have f0 : DataW.trod enc Tryd.prog W base sp held 1 3 [.int .i64 a.op] = some (.lit (.int .i64 a.op), []) := trod_int_mk 0 Tryd.underlying3 wa
  have f1 : DataW.trod enc Tryd.prog W base sp held 1 22 [.int .u64 (a.smac : Int)] = some (.lit (.int .u64 (a.smac : Int)), []) := trod_int_mk 0 Tryd.underlying22 wb
  have f2 : DataW.trod enc Tryd.prog W base sp held 1 23 [.int .u32 (a.sip : Int)] = some (.lit (.int .u32 (a.sip : Int)), []) := trod_int_mk 0 Tryd.underlying23 wc
  have f3 : DataW.trod enc Tryd.prog W base sp held 1 22 [.int .u64 (a.tmac : Int)] = some (.lit (.int .u64 (a.tmac : Int)), []) := trod_int_mk 0 Tryd.underlying22 wd
  have f4 : DataW.trod enc Tryd.prog W base sp held 1 23 [.int .u32 (a.tip : Int)] = some (.lit (.int .u32 (a.tip : Int)), []) := trod_int_mk 0 Tryd.underlying23 we
  refine ⟨2, ?_⟩
  have := trod_struct5_mk (enc := enc) (w := W) (base := base) (spare := sp) (held := held) (n := 1) (cs := [.int .i64 a.op, .int .u64 (a.smac : Int), .int .u32 (a.sip : Int), .int .u64 (a.tmac : Int), .int .u32 (a.tip : Int)]) Tryd.underlying25 (by simp [cells_arp])
    (by simpa [cells_i64] using f0) (by simpa [cells_u64] using f1) (by simpa [cells_u32] using f2) (by simpa [cells_u64] using f3) (by simpa [cells_u32] using f4)
  simpa [Value.cells, Ar.val, arpD] using this
/-- who asks: its reading -/
def whoD (m i n : Nat) : DataW H := .agg [.lit (.int .u64 (m : Int)), .lit (.int .u32 (i : Int)), .lit (.int .u32 (n : Int))]
set_option maxRecDepth 100000 in
theorem open_who {v : Value} {x : DataW H} {p : List MemPlace} {b0 : Nat} (hv : Value.okWide Tryd.prog W .any b0 35 v) (h : DataW.Trod enc Tryd.prog W base sp held 35 v x p) :
    ∃ m i n : Nat, v = .agg #[.int .u64 (m : Int), .int .u32 (i : Int), .int .u32 (n : Int)] ∧ x = whoD m i n ∧ p = [] ∧ m < 18446744073709551616 ∧ i < 4294967296 ∧ n < 4294967296 ∧
      (Lit.int .u64 (m : Int)).wf = true ∧ (Lit.int .u32 (i : Int)).wf = true ∧ (Lit.int .u32 (n : Int)).wf = true := by
  obtain ⟨cs, rfl, hsz⟩ := okWide_struct Tryd.underlying35 hv
  rw [cells_who] at hsz
  obtain ⟨fuel, hf⟩ := h
  obtain ⟨l⟩ := cs
  match l, hsz with
  | [c0, c1, c2], _ =>
    obtain ⟨y0, y1, y2, m, hx, _, h0, h1, h2⟩ := trod_struct3 Tryd.underlying35 hf
    obtain ⟨b, e0, rfl, wb⟩ := DataW.trod_int Tryd.underlying22 h0
    obtain ⟨c, e1, rfl, wc⟩ := DataW.trod_int Tryd.underlying23 h1
    obtain ⟨d, e2, rfl, wd⟩ := DataW.trod_int Tryd.underlying23 h2
    simp [Value.cells, cells_u64, cells_u32] at e0 e1 e2
    subst e0 e1 e2
    have hb := bounds_u64 wb
    have hc := bounds_u32 wc
    have hd := bounds_u32 wd
    obtain ⟨b', rfl⟩ : ∃ m : Nat, b = m := ⟨b.toNat, by omega⟩
    obtain ⟨c', rfl⟩ : ∃ m : Nat, c = m := ⟨c.toNat, by omega⟩
    obtain ⟨d', rfl⟩ : ∃ m : Nat, d = m := ⟨d.toNat, by omega⟩
    simp only [Prod.mk.injEq] at hx
    exact ⟨b', c', d', rfl, hx.1, hx.2, by omega, by omega, by omega, wb, wc, wd⟩
set_option maxRecDepth 100000 in
theorem shut_who (m i n : Nat) (wb : (Lit.int .u64 (m : Int)).wf = true) (wc : (Lit.int .u32 (i : Int)).wf = true) (wd : (Lit.int .u32 (n : Int)).wf = true) :
    DataW.Trod enc Tryd.prog W base sp held 35 (.agg #[.int .u64 (m : Int), .int .u32 (i : Int), .int .u32 (n : Int)]) (whoD m i n) [] := by
  have f0 : DataW.trod enc Tryd.prog W base sp held 1 22 [.int .u64 (m : Int)] = some (.lit (.int .u64 (m : Int)), []) := trod_int_mk 0 Tryd.underlying22 wb
  have f1 : DataW.trod enc Tryd.prog W base sp held 1 23 [.int .u32 (i : Int)] = some (.lit (.int .u32 (i : Int)), []) := trod_int_mk 0 Tryd.underlying23 wc
  have f2 : DataW.trod enc Tryd.prog W base sp held 1 23 [.int .u32 (n : Int)] = some (.lit (.int .u32 (n : Int)), []) := trod_int_mk 0 Tryd.underlying23 wd
  refine ⟨2, ?_⟩
  have := trod_struct3_mk (enc := enc) (w := W) (base := base) (spare := sp) (held := held) (n := 1) (cs := [.int .u64 (m : Int), .int .u32 (i : Int), .int .u32 (n : Int)]) Tryd.underlying35 (by simp [cells_who])
    (by simpa [cells_u64] using f0) (by simpa [cells_u32] using f1) (by simpa [cells_u32] using f2)
  simpa [Value.cells, whoD] using this
end
/-- a text's first n bytes, as the walk's own operations give them -/
def FirstN (n : Nat) (x : ByteArray) (m : Nat) (a : List UInt8) : Prop :=
  a.length ≤ n ∧ (∀ (ts : Array TypeId) (t : TypeId) (W : World), (Builtin.min_ ts t #[.int .i64 (x.size : Int), .int .i64 (n : Int)]).run Tryd.prog W = .ok (.int .i64 (m : Int)) W) ∧
    ∀ W : World, (Instr.slice 9 (.string x) none (some (.int .i64 (m : Int))) none).run Tryd.prog W = .ok (.string (bs a)) W
theorem firstN (n : Nat) (x : ByteArray) : ∃ (m : Nat) (a : List UInt8), FirstN n x m a := by
  refine ⟨min x.size n, (x.extract 0 (min x.size n)).data.toList, ?_, ?_, ?_⟩
  · rw [size_toList, ByteArray.size_extract]; omega
  · intro ts t W
    rw [run_min_int2]
    by_cases h : (n : Int) < (x.size : Int)
    · rw [if_pos h, show ((min x.size n : Nat) : Int) = n by omega]
    · rw [if_neg h, show ((min x.size n : Nat) : Int) = (x.size : Int) by omega]
  · intro W
    have e := run_slice_string_h (P := Tryd.prog) W 9 x Tryd.underlying9 .i64 ((min x.size n : Nat) : Int) (by omega) (by omega)
    rw [show (((min x.size n : Nat) : Int)).toNat = min x.size n by omega] at e
    rw [bs_of]
    exact e
end Go.Proofs.YtffgdkcfemcpoaaDoor
