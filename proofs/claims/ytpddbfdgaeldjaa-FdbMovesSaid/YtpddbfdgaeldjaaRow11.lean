/-
  What every row of this seat shares: how a table is kept, a call, a row of calls among a row's arguments.
-/
import Derived.Test.YtpddbfdgaeldjaaRows
import Derived.Test.YtpddbfdgaeldjaaStructs
import Derived.ProofKit
import Derived.Deep.Strs
import Derived.Deep.Slices
import Derived.RowKitTokens
namespace Go.Proofs.Ytpddbfdgaeldjaa
open Go.ChangeShapes Go.WideShapes Go.ChangeAt Go.RowKit Go.Deep

theorem own : ownKnob Try.prog.godebug = none := by kernel_rfl
theorem laidOut : laidOutB Try.prog = true := by kernel_rfl
theorem cells_u64 : Try.prog.cellsOf 39 = 1 := by kernel_rfl
theorem cells_u32 : Try.prog.cellsOf 40 = 1 := by kernel_rfl
theorem cells_i64 : Try.prog.cellsOf 3 = 1 := by kernel_rfl
theorem cells_keep : Try.prog.cellsOf 23 = 4 := by kernel_rfl
theorem cells_tgt : Try.prog.cellsOf 42 = 2 := by kernel_rfl
theorem cells_fop : Try.prog.cellsOf 44 = 6 := by kernel_rfl
theorem bnd_u64 {n : Int} (h : (Lit.int .u64 n).wf = true) : 0 ≤ n ∧ n < 18446744073709551616 := by
  simp [Lit.wf] at h
  have e1 : IntKind.u64.min = 0 := by decide
  have e2 : IntKind.u64.max = 18446744073709551615 := by decide
  omega
theorem bnd_u32 {n : Int} (h : (Lit.int .u32 n).wf = true) : 0 ≤ n ∧ n < 4294967296 := by
  simp [Lit.wf] at h
  have e1 : IntKind.u32.min = 0 := by decide
  have e2 : IntKind.u32.max = 4294967295 := by decide
  omega
section
variable {H : Type} {enc : TypeId × Value → H} {W : World} {base : Nat} {sp : Nat → Bool} {held : Bool}
/-- how a table is kept, as it reads -/
def keepD (a b c d : Int) : DataW H := .agg [.lit (.int .i64 a), .lit (.int .i64 b), .lit (.int .i64 c), .lit (.int .i64 d)]
set_option maxRecDepth 100000 in
theorem open_keep {v : Value} {x : DataW H} {p : List MemPlace} {b0 : Nat} (hv : Value.okWide Try.prog W .any b0 23 v) (h : DataW.Trod enc Try.prog W base sp held 23 v x p) :
    ∃ (a b c d : Int), v = .agg #[.int .i64 a, .int .i64 b, .int .i64 c, .int .i64 d] ∧ x = keepD a b c d ∧ p = [] ∧ (Lit.int .i64 a).wf = true ∧ (Lit.int .i64 b).wf = true ∧ (Lit.int .i64 c).wf = true ∧ (Lit.int .i64 d).wf = true := by
  obtain ⟨cs, rfl, hsz⟩ := okWide_struct Try.underlying23 hv
  rw [cells_keep] at hsz
  obtain ⟨fuel, hf⟩ := h
  obtain ⟨l⟩ := cs
  match l, hsz with
  | [c0, c1, c2, c3], _ =>
    obtain ⟨y0, y1, y2, y3, m, hx, _, h0, h1, h2, h3⟩ := trod_struct4 Try.underlying23 hf
    obtain ⟨a, e0, rfl, wa⟩ := DataW.trod_int Try.underlying3 h0
    obtain ⟨b, e1, rfl, wb⟩ := DataW.trod_int Try.underlying3 h1
    obtain ⟨c, e2, rfl, wc⟩ := DataW.trod_int Try.underlying3 h2
    obtain ⟨d, e3, rfl, wd⟩ := DataW.trod_int Try.underlying3 h3
    simp [Value.cells, cells_i64] at e0 e1 e2 e3
    subst e0 e1 e2 e3
    simp only [Prod.mk.injEq] at hx
    exact ⟨a, b, c, d, rfl, hx.1, hx.2, wa, wb, wc, wd⟩
set_option maxRecDepth 100000 in
theorem shut_keep (a b c d : Int) (wa : (Lit.int .i64 a).wf = true) (wb : (Lit.int .i64 b).wf = true) (wc : (Lit.int .i64 c).wf = true) (wd : (Lit.int .i64 d).wf = true) : DataW.Trod enc Try.prog W base sp held 23 (.agg #[.int .i64 a, .int .i64 b, .int .i64 c, .int .i64 d]) (keepD a b c d) [] := by
  have f : ∀ x : Int, (Lit.int .i64 x).wf = true → DataW.trod enc Try.prog W base sp held 1 3 [.int .i64 x] = some (.lit (.int .i64 x), []) := fun x hx => trod_int_mk 0 Try.underlying3 hx
  refine ⟨2, ?_⟩
  have := trod_struct4_mk (enc := enc) (w := W) (base := base) (spare := sp) (held := held) (n := 1) (cs := [.int .i64 a, .int .i64 b, .int .i64 c, .int .i64 d]) Try.underlying23 (by simp [cells_keep]) (by simpa [cells_i64] using f a wa) (by simpa [cells_i64] using f b wb) (by simpa [cells_i64] using f c wc) (by simpa [cells_i64] using f d wd)
  simpa [Value.cells, keepD] using this
/-- a call's parts -/
structure Op6 where
  kind : Int
  vid : Int
  mac : Int
  tk : Int
  tn : Int
  now : Int
/-- a call's cells -/
def Op6.cs (o : Op6) : List Value := [.int .i64 o.kind, .int .i64 o.vid, .int .u64 o.mac, .int .i64 o.tk, .int .u32 o.tn, .int .i64 o.now]
/-- what its parts can be -/
def Op6.ok (o : Op6) : Prop := (0 ≤ o.mac ∧ o.mac < 18446744073709551616) ∧ 0 ≤ o.tn ∧ o.tn < 4294967296
/-- they can be read -/
def Op6.wf (o : Op6) : Prop := (Lit.int .i64 o.kind).wf = true ∧ (Lit.int .i64 o.vid).wf = true ∧ (Lit.int .u64 o.mac).wf = true ∧ (Lit.int .i64 o.tk).wf = true ∧ (Lit.int .u32 o.tn).wf = true ∧ (Lit.int .i64 o.now).wf = true
/-- a call, as it reads -/
def opD (o : Op6) : DataW H := .agg [.lit (.int .i64 o.kind), .lit (.int .i64 o.vid), .lit (.int .u64 o.mac), .agg [.lit (.int .i64 o.tk), .lit (.int .u32 o.tn)], .lit (.int .i64 o.now)]
theorem Op6.wf.ok {o : Op6} (h : o.wf) : o.ok := ⟨bnd_u64 h.2.2.1, bnd_u32 h.2.2.2.2.1⟩
set_option maxRecDepth 100000 in
theorem tgt_of_trod {fuel : Nat} {cs : List Value} {x : DataW H × List MemPlace} (h : DataW.trod enc Try.prog W base sp held fuel 42 cs = some x) :
    ∃ (k n : Int), cs = [.int .i64 k, .int .u32 n] ∧ x = (.agg [.lit (.int .i64 k), .lit (.int .u32 n)], []) ∧ (Lit.int .i64 k).wf = true ∧ (Lit.int .u32 n).wf = true := by
  obtain ⟨y0, y1, m, hx, hl, h0, h1⟩ := trod_struct2 Try.underlying42 h
  rw [cells_tgt] at hl
  match cs, hl with
  | [c0, c1], _ =>
    obtain ⟨a, e0, rfl, wa⟩ := DataW.trod_int Try.underlying3 h0
    obtain ⟨b, e1, rfl, wb⟩ := DataW.trod_int Try.underlying40 h1
    simp [cells_i64, cells_u32] at e0 e1
    subst e0 e1
    exact ⟨a, b, rfl, hx, wa, wb⟩
set_option maxRecDepth 100000 in
theorem op_of_trod {fuel : Nat} {cs : List Value} {x : DataW H × List MemPlace} (h : DataW.trod enc Try.prog W base sp held fuel 44 cs = some x) :
    ∃ o : Op6, cs = o.cs ∧ x = (opD o, []) ∧ o.wf := by
  obtain ⟨y0, y1, y2, y3, y4, m, hx, hl, h0, h1, h2, h3, h4⟩ := trod_struct5 Try.underlying44 h
  rw [cells_fop] at hl
  match cs, hl with
  | [c0, c1, c2, c3, c4, c5], _ =>
    obtain ⟨a0, e0, rfl, w0⟩ := DataW.trod_int Try.underlying3 h0
    obtain ⟨a1, e1, rfl, w1⟩ := DataW.trod_int Try.underlying3 h1
    obtain ⟨a2, e2, rfl, w2⟩ := DataW.trod_int Try.underlying39 h2
    obtain ⟨k, n, e3, rfl, wk, wn⟩ := tgt_of_trod h3
    obtain ⟨a4, e4, rfl, w4⟩ := DataW.trod_int Try.underlying3 h4
    simp [cells_i64, cells_u64, cells_tgt] at e0 e1 e2 e3 e4
    obtain ⟨e3, e5⟩ := e3
    subst e0 e1 e2 e3 e4 e5
    exact ⟨⟨a0, a1, a2, k, n, a4⟩, rfl, hx, w0, w1, w2, wk, wn, w4⟩
set_option maxRecDepth 100000 in
theorem open_op {v : Value} {x : DataW H} {p : List MemPlace} {b0 : Nat} (hv : Value.okWide Try.prog W .any b0 44 v) (h : DataW.Trod enc Try.prog W base sp held 44 v x p) :
    ∃ o : Op6, v = .agg #[.int .i64 o.kind, .int .i64 o.vid, .int .u64 o.mac, .int .i64 o.tk, .int .u32 o.tn, .int .i64 o.now] ∧ x = opD o ∧ p = [] ∧ o.wf := by
  obtain ⟨cs, rfl, _⟩ := okWide_struct Try.underlying44 hv
  obtain ⟨fuel, hf⟩ := h
  obtain ⟨o, e, hx, hw⟩ := op_of_trod hf
  simp only [Prod.mk.injEq] at hx
  refine ⟨o, ?_, hx.1, hx.2, hw⟩
  obtain ⟨l⟩ := cs
  simp [Value.cells] at e
  rw [e]
  rfl
set_option maxRecDepth 100000 in
theorem shut_op (o : Op6) (h : o.wf) : DataW.Trod enc Try.prog W base sp held 44 (.agg #[.int .i64 o.kind, .int .i64 o.vid, .int .u64 o.mac, .int .i64 o.tk, .int .u32 o.tn, .int .i64 o.now]) (opD o) [] := by
  obtain ⟨w0, w1, w2, w3, w4, w5⟩ := h
  have f : ∀ n (x : Int), (Lit.int .i64 x).wf = true → DataW.trod enc Try.prog W base sp held (n + 1) 3 [.int .i64 x] = some (.lit (.int .i64 x), []) := fun n x hx => trod_int_mk n Try.underlying3 hx
  have g : DataW.trod enc Try.prog W base sp held 2 39 [.int .u64 o.mac] = some (.lit (.int .u64 o.mac), []) := trod_int_mk 1 Try.underlying39 w2
  have g2 : DataW.trod enc Try.prog W base sp held 1 40 [.int .u32 o.tn] = some (.lit (.int .u32 o.tn), []) := trod_int_mk 0 Try.underlying40 w4
  have t : DataW.trod enc Try.prog W base sp held 2 42 [.int .i64 o.tk, .int .u32 o.tn] = some (.agg [.lit (.int .i64 o.tk), .lit (.int .u32 o.tn)], []) := by
    have := trod_struct2_mk (enc := enc) (w := W) (base := base) (spare := sp) (held := held) (n := 1) (cs := [.int .i64 o.tk, .int .u32 o.tn]) Try.underlying42 (by simp [cells_tgt]) (by simpa [cells_i64] using f 0 o.tk w3) (by simpa [cells_u32] using g2)
    simpa using this
  refine ⟨3, ?_⟩
  have := trod_struct5_mk (enc := enc) (w := W) (base := base) (spare := sp) (held := held) (n := 2) (cs := [.int .i64 o.kind, .int .i64 o.vid, .int .u64 o.mac, .int .i64 o.tk, .int .u32 o.tn, .int .i64 o.now]) Try.underlying44 (by simp [cells_fop]) (by simpa [cells_i64] using f 1 o.kind w0) (by simpa [cells_i64] using f 1 o.vid w1) (by simpa [cells_u64] using g) (by simpa [cells_tgt] using t) (by simpa [cells_i64] using f 1 o.now w5)
  simpa [Value.cells, opD] using this
/-- a row of calls, in memory -/
def OpsAt (W : World) (b o n : Nat) (S : Nat → Op6) : Prop :=
  ∀ i, i < n → (∀ t u, (S i).cs[t]? = some u → W.cell? ⟨b, o + i * 6 + t, none⟩ = some u) ∧ (S i).ok
/-- no call, or a row of calls -/
def OpsIn (W : World) (ao : Option Addr) (n cap : Nat) (S : Nat → Op6) : Prop :=
  n ≤ cap ∧ cap ≤ maxLen ∧ (n = 0 ∨ ∃ b o, ao = some ⟨b, o, none⟩ ∧ b < W.heap.size ∧ OpsAt W b o n S)
set_option maxRecDepth 100000 in
theorem op_cells {n : Nat} {a : Addr} {cs' : List Value} {d : DataW H × List MemPlace} (h1 : W.cells? base a 6 = some cs') (h2 : DataW.trod enc Try.prog W base sp held n 44 cs' = some d) :
    ∃ q : Op6, (∀ t u, q.cs[t]? = some u → W.cell? (a.add t) = some u) ∧ q.ok := by
  obtain ⟨_, hlen, hcell⟩ := World.cells?_some h1
  obtain ⟨q, rfl, _, hw⟩ := op_of_trod h2
  refine ⟨q, fun t u hu => ?_, hw.ok⟩
  have ht : t < q.cs.length := (List.getElem?_eq_some_iff.1 hu).1
  have := hcell t (by rw [← hlen]; exact ht)
  rw [this, List.getElem?_eq_getElem ht] at *
  exact hu
set_option maxRecDepth 100000 in
theorem open_ops {v : Value} {d : DataW H} {p : List MemPlace} {b0 : Nat} (hv : Value.okWide Try.prog W .any b0 35 v) (h : DataW.Trod enc Try.prog W base (fun _ => true) held 35 v d p) (hlt : ∀ x ∈ p, x.block < W.heap.size) :
    ∃ (ao : Option Addr) (n cap : Nat) (S : Nat → Op6), v = .slice ao n cap ∧ OpsIn W ao n cap S := by
  obtain ⟨ao, n, cap, rfl⟩ := okWide_slice Try.underlying35 hv
  obtain ⟨fuel, hf⟩ := h
  rcases open_slice Try.underlying35 hf with ⟨hcs, hx⟩ | ⟨a, len', cap', m, k, D, Pl, hcs, _, hl, hm, hmm, hx, hel⟩
  · simp [Value.cells] at hcs
    obtain ⟨rfl, rfl, rfl⟩ := hcs
    exact ⟨none, 0, 0, fun _ => ⟨0, 0, 0, 0, 0, 0⟩, rfl, Nat.le_refl _, by unfold maxLen; omega, .inl rfl⟩
  · simp [Value.cells] at hcs
    obtain ⟨rfl, rfl, rfl⟩ := hcs
    simp only [if_true] at hmm
    subst hmm
    rw [cells_fop] at hel hx
    haveI : Inhabited Op6 := ⟨⟨0, 0, 0, 0, 0, 0⟩⟩
    obtain ⟨S, hS⟩ := choose_lt (n := n) (fun i hi => by
      obtain ⟨cs', h1, h2⟩ := hel i (by omega)
      exact op_cells h1 h2)
    refine ⟨some a, n, m, S, rfl, hl, hm, ?_⟩
    by_cases hn : n = 0
    · exact .inl hn
    · right
      obtain ⟨b, o, spot⟩ := a
      have hspot : spot = none := by
        have := (hS 0 (by omega)).1 0 _ rfl
        simpa [Addr.add] using World.cell?_spot this
      subst hspot
      simp only [Prod.mk.injEq] at hx
      refine ⟨b, o, rfl, ?_, fun i hi => ?_⟩
      · have hp : (MemPlace.cell b o) ∈ p := by
          rw [hx.2]
          exact List.mem_append_left _ (MemPlace.mem_row.2 ⟨0, by omega, by simp⟩)
        exact hlt _ hp
      · obtain ⟨hc, hk⟩ := hS i hi
        refine ⟨fun t u hu => ?_, hk⟩
        have := hc t u hu
        rw [add_plain, add_plain] at this
        exact this
theorem stay {v : Value} {d : DataW H} {p : List MemPlace} {W' : World} (h : DataW.Trod enc Try.prog W 0 (fun _ => true) true 35 v d p) (hlt : ∀ x ∈ p, x.block < W.heap.size) (hb : Below W.heap.size W W') :
    DataW.Trod enc Try.prog W' 0 (fun b => decide (b < W.heap.size)) true 35 v d p := Below.trod laidOut (by kernel_rfl) (of_decide_eq_true (by kernel_rfl)) h hb hlt
end
end Go.Proofs.Ytpddbfdgaeldjaa
