/-
  What every row of this seat shares: a world that meets the list; a size, a call, a row of calls among a row's arguments.
-/
import Derived.Test.YtljhgehlaehgnaaGreatDoorRows
import Derived.Test.YtljhgehlaehgnaaGreatDoorCards
import Derived.Test.YtljhgehlaehgnaaGreatDoorTie
import Derived.Test.YtljhgehlaehgnaaGreatDoorFixed12
import Derived.Test.YtljhgehlaehgnaaGreatDoorStructs
import Derived.ChangeSame
import Derived.ChangeVars
import Derived.ChangeMaps5
import Derived.JoinedOf
import Derived.RowKit
import Derived.RowKitTokens
import Derived.LaidLaws
import Derived.LaidHandle
import Derived.Stop.Joined
import Derived.ProofKit
import Derived.OpenShut
import Derived.SevenTiedAt
import Derived.Deep.Strs
import Derived.Deep.Slices
namespace Go.Proofs.YtljhgehlaehgnaaGreatDoor
open Go.ChangeShapes Go.WideShapes Go.ChangeAt Go.RowKit Go.Deep

theorem own : ownKnob Tryz.prog.godebug = none := by kernel_rfl
theorem laidOut : laidOutB Tryz.prog = true := by kernel_rfl
theorem laid_met (os : Os) (args : Array Value) : laidMetH Tryz.prog [("errors.errorType", Rows.laid_errors_errorType)]
    (({ World.holding Tryz.prog os ⟨#[], #[], []⟩ with heap := (World.holding Tryz.prog os ⟨#[], #[], []⟩).heap.modify 0 fun
      | .cells _ t frozen => .cells #[.iface 171 (.agg #[.pointer (some ⟨1, 142, none⟩)])] t frozen
      | o => o } : World).forCall (fun _ _ => 0) ⟨#[], args, []⟩).memory :=
  laidMetH_of_parts (laidMet_nil _ _) (by kernel_rfl)
theorem cells_u64 : Tryz.prog.cellsOf 32 = 1 := by kernel_rfl
theorem cells_u32 : Tryz.prog.cellsOf 33 = 1 := by kernel_rfl
theorem cells_i64 : Tryz.prog.cellsOf 3 = 1 := by kernel_rfl
theorem cells_lsize : Tryz.prog.cellsOf 23 = 2 := by kernel_rfl
theorem cells_arp : Tryz.prog.cellsOf 35 = 5 := by kernel_rfl
theorem cells_bop : Tryz.prog.cellsOf 37 = 9 := by kernel_rfl
section
variable {H : Type} {enc : TypeId × Value → H} {W : World} {base : Nat} {sp : Nat → Bool} {held : Bool}
/-- a size's reading -/
def sizeD (a b : Int) : DataW H := .agg [.lit (.int .i64 a), .lit (.int .i64 b)]
set_option maxRecDepth 100000 in
theorem open_size {v : Value} {d : DataW H} {p : List MemPlace} {b0 : Nat} (hv : Value.okWide Tryz.prog W .any b0 23 v) (h : DataW.Trod enc Tryz.prog W base sp held 23 v d p) :
    ∃ (a b : Int), v = .agg #[.int .i64 a, .int .i64 b] ∧ d = sizeD a b ∧ p = [] ∧ (Lit.int .i64 a).wf = true ∧ (Lit.int .i64 b).wf = true := by
  obtain ⟨cs, rfl, hsz⟩ := okWide_struct Tryz.underlying23 hv
  rw [cells_lsize] at hsz
  obtain ⟨fuel, hf⟩ := h
  obtain ⟨l⟩ := cs
  match l, hsz with
  | [c0, c1], _ =>
    obtain ⟨y0, y1, m, hx, _, h0, h1⟩ := trod_struct2 Tryz.underlying23 hf
    obtain ⟨a, e0, rfl, wa⟩ := DataW.trod_int Tryz.underlying3 h0
    obtain ⟨b, e1, rfl, wb⟩ := DataW.trod_int Tryz.underlying3 h1
    simp [Value.cells, cells_i64] at e0 e1
    subst e0 e1
    simp only [Prod.mk.injEq] at hx
    exact ⟨a, b, rfl, hx.1, hx.2, wa, wb⟩
set_option maxRecDepth 100000 in
theorem shut_size (a b : Int) (wa : (Lit.int .i64 a).wf = true) (wb : (Lit.int .i64 b).wf = true) : DataW.Trod enc Tryz.prog W base sp held 23 (.agg #[.int .i64 a, .int .i64 b]) (sizeD a b) [] := by
  have f0 : DataW.trod enc Tryz.prog W base sp held 1 3 [.int .i64 a] = some (.lit (.int .i64 a), []) := trod_int_mk 0 Tryz.underlying3 wa
  have f1 : DataW.trod enc Tryz.prog W base sp held 1 3 [.int .i64 b] = some (.lit (.int .i64 b), []) := trod_int_mk 0 Tryz.underlying3 wb
  refine ⟨2, ?_⟩
  have := trod_struct2_mk (enc := enc) (w := W) (base := base) (spare := sp) (held := held) (n := 1) (cs := [.int .i64 a, .int .i64 b]) Tryz.underlying23 (by simp [cells_lsize]) (by simpa [cells_i64] using f0) (by simpa [cells_i64] using f1)
  simpa [Value.cells, sizeD] using this
/-- a message's reading -/
def arpD (a : Ar) : DataW H := .agg [.lit (.int .i64 a.op), .lit (.int .u64 (a.smac : Int)), .lit (.int .u32 (a.sip : Int)), .lit (.int .u64 (a.tmac : Int)), .lit (.int .u32 (a.tip : Int))]
/-- a message's numbers read as they are -/
def Ar.wf (a : Ar) : Prop := (Lit.int .i64 a.op).wf = true ∧ (Lit.int .u64 (a.smac : Int)).wf = true ∧ (Lit.int .u32 (a.sip : Int)).wf = true ∧ (Lit.int .u64 (a.tmac : Int)).wf = true ∧ (Lit.int .u32 (a.tip : Int)).wf = true
/-- its cells -/
def Ar.cs (a : Ar) : List Value := [.int .i64 a.op, .int .u64 (a.smac : Int), .int .u32 (a.sip : Int), .int .u64 (a.tmac : Int), .int .u32 (a.tip : Int)]
set_option maxRecDepth 100000 in
theorem arp_of_trod {fuel : Nat} {cs : List Value} {x : DataW H × List MemPlace} (h : DataW.trod enc Tryz.prog W base sp held fuel 35 cs = some x) :
    ∃ a : Ar, cs = a.cs ∧ x = (arpD a, []) ∧ a.fits ∧ a.wf := by
  obtain ⟨y0, y1, y2, y3, y4, m, hx, hl, h0, h1, h2, h3, h4⟩ := trod_struct5 Tryz.underlying35 h
  rw [cells_arp] at hl
  match cs, hl with
  | [c0, c1, c2, c3, c4], _ =>
    obtain ⟨a, e0, rfl, wa⟩ := DataW.trod_int Tryz.underlying3 h0
    obtain ⟨b, e1, rfl, wb⟩ := DataW.trod_int Tryz.underlying32 h1
    obtain ⟨c, e2, rfl, wc⟩ := DataW.trod_int Tryz.underlying33 h2
    obtain ⟨d, e3, rfl, wd⟩ := DataW.trod_int Tryz.underlying32 h3
    obtain ⟨e, e4, rfl, we⟩ := DataW.trod_int Tryz.underlying33 h4
    simp [cells_u64, cells_i64, cells_u32] at e0 e1 e2 e3 e4
    subst e0 e1 e2 e3 e4
    have ha := bounds_i64 wa
    have hb := bounds_u64 wb
    have hc := bounds_u32 wc
    have hd := bounds_u64 wd
    have he := bounds_u32 we
    obtain ⟨b', rfl⟩ : ∃ m : Nat, b = m := ⟨b.toNat, by omega⟩
    obtain ⟨c', rfl⟩ : ∃ m : Nat, c = m := ⟨c.toNat, by omega⟩
    obtain ⟨d', rfl⟩ : ∃ m : Nat, d = m := ⟨d.toNat, by omega⟩
    obtain ⟨e', rfl⟩ : ∃ m : Nat, e = m := ⟨e.toNat, by omega⟩
    exact ⟨⟨a, b', c', d', e'⟩, rfl, hx, ⟨by simp only; omega, by simp only; omega, by simp only; omega, by simp only; omega, by simp only; omega⟩, wa, wb, wc, wd, we⟩
set_option maxRecDepth 100000 in
theorem arp_trod (n : Nat) (a : Ar) (h : a.wf) : DataW.trod enc Tryz.prog W base sp held (n + 2) 35 a.cs = some (arpD a, []) := by
  obtain ⟨wa, wb, wc, wd, we⟩ := h
  have f0 : DataW.trod enc Tryz.prog W base sp held (n + 1) 3 [.int .i64 a.op] = some (.lit (.int .i64 a.op), []) := trod_int_mk n Tryz.underlying3 wa
  have f1 : DataW.trod enc Tryz.prog W base sp held (n + 1) 32 [.int .u64 (a.smac : Int)] = some (.lit (.int .u64 (a.smac : Int)), []) := trod_int_mk n Tryz.underlying32 wb
  have f2 : DataW.trod enc Tryz.prog W base sp held (n + 1) 33 [.int .u32 (a.sip : Int)] = some (.lit (.int .u32 (a.sip : Int)), []) := trod_int_mk n Tryz.underlying33 wc
  have f3 : DataW.trod enc Tryz.prog W base sp held (n + 1) 32 [.int .u64 (a.tmac : Int)] = some (.lit (.int .u64 (a.tmac : Int)), []) := trod_int_mk n Tryz.underlying32 wd
  have f4 : DataW.trod enc Tryz.prog W base sp held (n + 1) 33 [.int .u32 (a.tip : Int)] = some (.lit (.int .u32 (a.tip : Int)), []) := trod_int_mk n Tryz.underlying33 we
  have := trod_struct5_mk (enc := enc) (w := W) (base := base) (spare := sp) (held := held) (n := n + 1) (cs := [.int .i64 a.op, .int .u64 (a.smac : Int), .int .u32 (a.sip : Int), .int .u64 (a.tmac : Int), .int .u32 (a.tip : Int)]) Tryz.underlying35 (by simp [cells_arp])
    (by simpa [cells_i64] using f0) (by simpa [cells_u64] using f1) (by simpa [cells_u32] using f2) (by simpa [cells_u64] using f3) (by simpa [cells_u32] using f4)
  simpa [Ar.cs, arpD] using this
/-- a call's parts -/
structure Bop where
  kind : Int
  vid : Int
  a : Ar
  ip : Nat
  now : Int
/-- a call's cells -/
def Bop.cs (o : Bop) : List Value := [.int .i64 o.kind, .int .i64 o.vid, .int .i64 o.a.op, .int .u64 (o.a.smac : Int), .int .u32 (o.a.sip : Int), .int .u64 (o.a.tmac : Int), .int .u32 (o.a.tip : Int), .int .u32 (o.ip : Int), .int .i64 o.now]
/-- what its parts can be -/
def Bop.ok (o : Bop) : Prop := o.a.fits ∧ o.ip < 4294967296 ∧ (-9223372036854775808 ≤ o.now ∧ o.now ≤ 9223372036854775807)
/-- they can be read -/
def Bop.wf (o : Bop) : Prop := (Lit.int .i64 o.kind).wf = true ∧ (Lit.int .i64 o.vid).wf = true ∧ o.a.wf ∧ (Lit.int .u32 (o.ip : Int)).wf = true ∧ (Lit.int .i64 o.now).wf = true
/-- a call, as it reads -/
def opD (o : Bop) : DataW H := .agg [.lit (.int .i64 o.kind), .lit (.int .i64 o.vid), arpD o.a, .lit (.int .u32 (o.ip : Int)), .lit (.int .i64 o.now)]
set_option maxRecDepth 100000 in
theorem op_of_trod {fuel : Nat} {cs : List Value} {x : DataW H × List MemPlace} (h : DataW.trod enc Tryz.prog W base sp held fuel 37 cs = some x) :
    ∃ o : Bop, cs = o.cs ∧ x = (opD o, []) ∧ o.ok ∧ o.wf := by
  obtain ⟨y0, y1, y2, y3, y4, m, hx, hl, h0, h1, h2, h3, h4⟩ := trod_struct5 Tryz.underlying37 h
  rw [cells_bop] at hl
  match cs, hl with
  | [c0, c1, c2, c3, c4, c5, c6, c7, c8], _ =>
    obtain ⟨a0, e0, rfl, w0⟩ := DataW.trod_int Tryz.underlying3 h0
    obtain ⟨a1, e1, rfl, w1⟩ := DataW.trod_int Tryz.underlying3 h1
    obtain ⟨a, e2, rfl, hf, hw⟩ := arp_of_trod h2
    obtain ⟨a3, e3, rfl, w3⟩ := DataW.trod_int Tryz.underlying33 h3
    obtain ⟨a4, e4, rfl, w4⟩ := DataW.trod_int Tryz.underlying3 h4
    simp [cells_i64, cells_u32, cells_arp, Ar.cs] at e0 e1 e2 e3 e4
    obtain ⟨e5, e6, e7, e8, e9⟩ := e2
    subst e0 e1 e3 e4 e5 e6 e7 e8 e9
    have hb := bounds_u32 w3
    have hn := bounds_i64 w4
    obtain ⟨b', rfl⟩ : ∃ m : Nat, a3 = m := ⟨a3.toNat, by omega⟩
    exact ⟨⟨a0, a1, a, b', a4⟩, rfl, hx, ⟨hf, by simp only; omega, by simp only; omega⟩, w0, w1, hw, w3, w4⟩
set_option maxRecDepth 100000 in
theorem open_op {v : Value} {x : DataW H} {p : List MemPlace} {b0 : Nat} (hv : Value.okWide Tryz.prog W .any b0 37 v) (h : DataW.Trod enc Tryz.prog W base sp held 37 v x p) :
    ∃ o : Bop, v = .agg #[.int .i64 o.kind, .int .i64 o.vid, .int .i64 o.a.op, .int .u64 (o.a.smac : Int), .int .u32 (o.a.sip : Int), .int .u64 (o.a.tmac : Int), .int .u32 (o.a.tip : Int), .int .u32 (o.ip : Int), .int .i64 o.now] ∧ x = opD o ∧ p = [] ∧ o.ok ∧ o.wf := by
  obtain ⟨cs, rfl, _⟩ := okWide_struct Tryz.underlying37 hv
  obtain ⟨fuel, hf⟩ := h
  obtain ⟨o, e, hx, hk, hw⟩ := op_of_trod hf
  simp only [Prod.mk.injEq] at hx
  refine ⟨o, ?_, hx.1, hx.2, hk, hw⟩
  obtain ⟨l⟩ := cs
  simp [Value.cells] at e
  rw [e]
  rfl
set_option maxRecDepth 100000 in
theorem shut_op (o : Bop) (h : o.wf) : DataW.Trod enc Tryz.prog W base sp held 37 (.agg #[.int .i64 o.kind, .int .i64 o.vid, .int .i64 o.a.op, .int .u64 (o.a.smac : Int), .int .u32 (o.a.sip : Int), .int .u64 (o.a.tmac : Int), .int .u32 (o.a.tip : Int), .int .u32 (o.ip : Int), .int .i64 o.now]) (opD o) [] := by
  obtain ⟨w0, w1, w2, w3, w4⟩ := h
  have f : ∀ n (x : Int), (Lit.int .i64 x).wf = true → DataW.trod enc Tryz.prog W base sp held (n + 1) 3 [.int .i64 x] = some (.lit (.int .i64 x), []) := fun n x hx => trod_int_mk n Tryz.underlying3 hx
  have g2 : DataW.trod enc Tryz.prog W base sp held 2 33 [.int .u32 (o.ip : Int)] = some (.lit (.int .u32 (o.ip : Int)), []) := trod_int_mk 1 Tryz.underlying33 w3
  have t := arp_trod (enc := enc) (W := W) (base := base) (sp := sp) (held := held) 0 o.a w2
  refine ⟨3, ?_⟩
  have := trod_struct5_mk (enc := enc) (w := W) (base := base) (spare := sp) (held := held) (n := 2) (cs := [.int .i64 o.kind, .int .i64 o.vid, .int .i64 o.a.op, .int .u64 (o.a.smac : Int), .int .u32 (o.a.sip : Int), .int .u64 (o.a.tmac : Int), .int .u32 (o.a.tip : Int), .int .u32 (o.ip : Int), .int .i64 o.now]) Tryz.underlying37 (by simp [cells_bop])
    (by simpa [cells_i64] using f 1 o.kind w0) (by simpa [cells_i64] using f 1 o.vid w1) (by simpa [cells_i64, cells_arp, Ar.cs] using t) (by simpa [cells_i64, cells_arp, cells_u32] using g2) (by simpa [cells_i64, cells_arp, cells_u32] using f 1 o.now w4)
  simpa [Value.cells, opD] using this
/-- a row of calls, in memory -/
def OpsAt (W : World) (b o n : Nat) (S : Nat → Bop) : Prop :=
  ∀ i, i < n → (∀ t u, (S i).cs[t]? = some u → W.cell? ⟨b, o + i * 9 + t, none⟩ = some u) ∧ (S i).ok
/-- no call, or a row of calls -/
def OpsIn (W : World) (ao : Option Addr) (n cap : Nat) (S : Nat → Bop) : Prop :=
  n ≤ cap ∧ cap ≤ maxLen ∧ (n = 0 ∨ ∃ b o, ao = some ⟨b, o, none⟩ ∧ b < W.heap.size ∧ OpsAt W b o n S)
set_option maxRecDepth 100000 in
theorem op_cells {n : Nat} {a : Addr} {cs' : List Value} {d : DataW H × List MemPlace} (h1 : W.cells? base a 9 = some cs') (h2 : DataW.trod enc Tryz.prog W base sp held n 37 cs' = some d) :
    ∃ q : Bop, (∀ t u, q.cs[t]? = some u → W.cell? (a.add t) = some u) ∧ q.ok := by
  obtain ⟨_, hlen, hcell⟩ := World.cells?_some h1
  obtain ⟨q, rfl, _, hk, _⟩ := op_of_trod h2
  refine ⟨q, fun t u hu => ?_, hk⟩
  have ht : t < q.cs.length := (List.getElem?_eq_some_iff.1 hu).1
  have := hcell t (by rw [← hlen]; exact ht)
  rw [this, List.getElem?_eq_getElem ht] at *
  exact hu
set_option maxRecDepth 100000 in
theorem open_ops {v : Value} {d : DataW H} {p : List MemPlace} {b0 : Nat} (hv : Value.okWide Tryz.prog W .any b0 24 v) (h : DataW.Trod enc Tryz.prog W base (fun _ => true) held 24 v d p) (hlt : ∀ x ∈ p, x.block < W.heap.size) :
    ∃ (ao : Option Addr) (n cap : Nat) (S : Nat → Bop), v = .slice ao n cap ∧ OpsIn W ao n cap S := by
  obtain ⟨ao, n, cap, rfl⟩ := okWide_slice Tryz.underlying24 hv
  obtain ⟨fuel, hf⟩ := h
  rcases open_slice Tryz.underlying24 hf with ⟨hcs, hx⟩ | ⟨a, len', cap', m, k, D, Pl, hcs, _, hl, hm, hmm, hx, hel⟩
  · simp [Value.cells] at hcs
    obtain ⟨rfl, rfl, rfl⟩ := hcs
    exact ⟨none, 0, 0, fun _ => ⟨0, 0, .none, 0, 0⟩, rfl, Nat.le_refl _, by unfold maxLen; omega, .inl rfl⟩
  · simp [Value.cells] at hcs
    obtain ⟨rfl, rfl, rfl⟩ := hcs
    simp only [if_true] at hmm
    subst hmm
    rw [cells_bop] at hel hx
    haveI : Inhabited Bop := ⟨⟨0, 0, .none, 0, 0⟩⟩
    obtain ⟨S, hS⟩ := choose_lt (n := n) (fun i hi => by
      obtain ⟨cs', h1, h2⟩ := hel i (by omega)
      exact op_cells h1 h2)
    refine ⟨some a, n, m, S, rfl, hl, hm, ?_⟩
    by_cases hn : n = 0
    · exact .inl hn
    · right
      obtain ⟨b, o, spot⟩ := a
      have hspot : spot = none := by
        have := (hS 0 (by omega)).1 0 _ rfl
        simpa [Addr.add] using World.cell?_spot this
      subst hspot
      simp only [Prod.mk.injEq] at hx
      refine ⟨b, o, rfl, ?_, fun i hi => ?_⟩
      · have hp : (MemPlace.cell b o) ∈ p := by
          rw [hx.2]
          exact List.mem_append_left _ (MemPlace.mem_row.2 ⟨0, by omega, by simp⟩)
        exact hlt _ hp
      · obtain ⟨hc, hk⟩ := hS i hi
        refine ⟨fun t u hu => ?_, hk⟩
        have := hc t u hu
        rw [add_plain, add_plain] at this
        exact this
theorem stay {v : Value} {d : DataW H} {p : List MemPlace} {W' : World} (h : DataW.Trod enc Tryz.prog W 0 (fun _ => true) true 24 v d p) (hlt : ∀ x ∈ p, x.block < W.heap.size) (hb : Below W.heap.size W W') :
    DataW.Trod enc Tryz.prog W' 0 (fun b => decide (b < W.heap.size)) true 24 v d p := Below.trod laidOut (by kernel_rfl) (of_decide_eq_true (by kernel_rfl)) h hb hlt
end
end Go.Proofs.YtljhgehlaehgnaaGreatDoor
