/-
  What every row of this seat shares: a vector, a row of vectors among a row's arguments.
-/
import Derived.Test.YtagfaaciakbnbaaRows
import Derived.Test.YtagfaaciakbnbaaVc4
import Derived.Test.YtagfaaciakbnbaaStructs
import Derived.ProofKit
import Derived.Deep.Strs
import Derived.Deep.Slices
import Derived.RowKitTokens
namespace Go.Proofs.Ytagfaaciakbnbaa
open Go.ChangeShapes Go.WideShapes Go.ChangeAt Go.RowKit Go.Deep

theorem own : ownKnob Try.prog.godebug = none := by kernel_rfl
theorem laidOut : laidOutB Try.prog = true := by kernel_rfl
theorem cells_u64 : Try.prog.cellsOf 22 = 1 := by kernel_rfl
theorem cells_i64 : Try.prog.cellsOf 3 = 1 := by kernel_rfl
theorem cells_bool : Try.prog.cellsOf 4 = 1 := by kernel_rfl
theorem cells_vec : Try.prog.cellsOf 25 = 5 := by kernel_rfl
theorem bnd_u64 {n : Int} (h : (Lit.int .u64 n).wf = true) : 0 ≤ n ∧ n < 18446744073709551616 := by
  simp [Lit.wf] at h
  have e1 : IntKind.u64.min = 0 := by decide
  have e2 : IntKind.u64.max = 18446744073709551615 := by decide
  omega
theorem bnd_i64 {n : Int} (h : (Lit.int .i64 n).wf = true) : I64 n := by
  simp [Lit.wf] at h
  have e1 : IntKind.i64.min = -9223372036854775808 := by decide
  have e2 : IntKind.i64.max = 9223372036854775807 := by decide
  omega
section
variable {H : Type} {enc : TypeId × Value → H} {W : World} {base : Nat} {sp : Nat → Bool} {held : Bool}
theorem bool_mk (n : Nat) (b : Bool) : DataW.trod enc Try.prog W base sp held (n + 1) 4 [.bool b] = some (.lit (.bool b), []) := by simp [DataW.trod, Try.underlying4]
/-- a vector's reading -/
def vecD (v : Vc) : DataW H := .agg [.lit (.int .u64 (v.root : Int)), .lit (.int .i64 v.cost), .lit (.int .u64 (v.bridge : Int)), .lit (.int .i64 v.port), .lit (.int .i64 v.on)]
/-- its numbers read as they are -/
def Vc.wf (v : Vc) : Prop := (Lit.int .u64 (v.root : Int)).wf = true ∧ (Lit.int .i64 v.cost).wf = true ∧ (Lit.int .u64 (v.bridge : Int)).wf = true ∧ (Lit.int .i64 v.port).wf = true ∧ (Lit.int .i64 v.on).wf = true
set_option maxRecDepth 100000 in
theorem vec_of_trod {fuel : Nat} {cs : List Value} {x : DataW H × List MemPlace} (h : DataW.trod enc Try.prog W base sp held fuel 25 cs = some x) :
    ∃ v : Vc, cs = v.cs ∧ x = (vecD v, []) ∧ v.fits ∧ v.wf := by
  obtain ⟨y0, y1, y2, y3, y4, m, hx, hl, h0, h1, h2, h3, h4⟩ := trod_struct5 Try.underlying25 h
  rw [cells_vec] at hl
  match cs, hl with
  | [c0, c1, c2, c3, c4], _ =>
    obtain ⟨a0, e0, rfl, w0⟩ := DataW.trod_int Try.underlying22 h0
    obtain ⟨a1, e1, rfl, w1⟩ := DataW.trod_int Try.underlying3 h1
    obtain ⟨a2, e2, rfl, w2⟩ := DataW.trod_int Try.underlying22 h2
    obtain ⟨a3, e3, rfl, w3⟩ := DataW.trod_int Try.underlying3 h3
    obtain ⟨a4, e4, rfl, w4⟩ := DataW.trod_int Try.underlying3 h4
    simp [cells_i64, cells_u64] at e0 e1 e2 e3 e4
    subst e0 e1 e2 e3 e4
    have q0 := bnd_u64 w0
    have q2 := bnd_u64 w2
    obtain ⟨z0, rfl⟩ : ∃ m : Nat, a0 = m := ⟨a0.toNat, by omega⟩
    obtain ⟨z2, rfl⟩ : ∃ m : Nat, a2 = m := ⟨a2.toNat, by omega⟩
    exact ⟨⟨z0, a1, z2, a3, a4⟩, rfl, hx, ⟨by show z0 < _; omega, by show z2 < _; omega, bnd_i64 w1, bnd_i64 w3, bnd_i64 w4⟩, w0, w1, w2, w3, w4⟩
set_option maxRecDepth 100000 in
theorem open_vec {v : Value} {x : DataW H} {p : List MemPlace} {b0 : Nat} (hv : Value.okWide Try.prog W .any b0 25 v) (h : DataW.Trod enc Try.prog W base sp held 25 v x p) :
    ∃ k : Vc, v = k.val ∧ x = vecD k ∧ p = [] ∧ k.wf ∧ k.fits := by
  obtain ⟨cs, rfl, _⟩ := okWide_struct Try.underlying25 hv
  obtain ⟨fuel, hf⟩ := h
  obtain ⟨k, e, hx, hk, hw⟩ := vec_of_trod hf
  simp only [Prod.mk.injEq] at hx
  refine ⟨k, ?_, hx.1, hx.2, hw, hk⟩
  obtain ⟨l⟩ := cs
  simp [Value.cells] at e
  rw [e]
  rfl
set_option maxRecDepth 100000 in
theorem shut_vec (v : Vc) (h : v.wf) : DataW.Trod enc Try.prog W base sp held 25 v.val (vecD v) [] := by
  obtain ⟨w0, w1, w2, w3, w4⟩ := h
  have f0 : DataW.trod enc Try.prog W base sp held 1 22 [.int .u64 (v.root : Int)] = some (.lit (.int .u64 (v.root : Int)), []) := trod_int_mk 0 Try.underlying22 w0
  have f1 : DataW.trod enc Try.prog W base sp held 1 3 [.int .i64 v.cost] = some (.lit (.int .i64 v.cost), []) := trod_int_mk 0 Try.underlying3 w1
  have f2 : DataW.trod enc Try.prog W base sp held 1 22 [.int .u64 (v.bridge : Int)] = some (.lit (.int .u64 (v.bridge : Int)), []) := trod_int_mk 0 Try.underlying22 w2
  have f3 : DataW.trod enc Try.prog W base sp held 1 3 [.int .i64 v.port] = some (.lit (.int .i64 v.port), []) := trod_int_mk 0 Try.underlying3 w3
  have f4 : DataW.trod enc Try.prog W base sp held 1 3 [.int .i64 v.on] = some (.lit (.int .i64 v.on), []) := trod_int_mk 0 Try.underlying3 w4
  refine ⟨2, ?_⟩
  have := trod_struct5_mk (enc := enc) (w := W) (base := base) (spare := sp) (held := held) (n := 1) (cs := v.cs) Try.underlying25 (by simp [cells_vec, Vc.cs])
    (by simpa [Vc.cs, cells_u64] using f0) (by simpa [Vc.cs, cells_i64] using f1) (by simpa [Vc.cs, cells_u64] using f2) (by simpa [Vc.cs, cells_i64] using f3) (by simpa [Vc.cs, cells_i64] using f4)
  simpa [Value.cells, Vc.val, Vc.cs, vecD] using this
set_option maxRecDepth 100000 in
theorem vec_cells {n : Nat} {a : Addr} {cs' : List Value} {d : DataW H × List MemPlace} (h1 : W.cells? base a 5 = some cs') (h2 : DataW.trod enc Try.prog W base sp held n 25 cs' = some d) :
    ∃ q : Vc, (∀ t u, q.cs[t]? = some u → W.cell? (a.add t) = some u) ∧ q.fits := by
  obtain ⟨_, hlen, hcell⟩ := World.cells?_some h1
  obtain ⟨q, rfl, _, hk, _⟩ := vec_of_trod h2
  refine ⟨q, fun t u hu => ?_, hk⟩
  have ht : t < q.cs.length := (List.getElem?_eq_some_iff.1 hu).1
  have := hcell t (by rw [← hlen]; exact ht)
  rw [this, List.getElem?_eq_getElem ht] at *
  exact hu
set_option maxRecDepth 100000 in
theorem open_vecs {v : Value} {d : DataW H} {p : List MemPlace} {b0 : Nat} (hv : Value.okWide Try.prog W .any b0 42 v) (h : DataW.Trod enc Try.prog W base (fun _ => true) held 42 v d p) :
    ∃ (ao : Option Addr) (n cap : Nat) (S : Nat → Vc), v = .slice ao n cap ∧ VcsIn W ao n cap S ∧ (ao = none → cap = 0) := by
  obtain ⟨ao, n, cap, rfl⟩ := okWide_slice Try.underlying42 hv
  obtain ⟨fuel, hf⟩ := h
  rcases open_slice Try.underlying42 hf with ⟨hcs, hx⟩ | ⟨a, len', cap', m, k, D, Pl, hcs, _, hl, hm, hmm, hx, hel⟩
  · simp [Value.cells] at hcs
    obtain ⟨rfl, rfl, rfl⟩ := hcs
    exact ⟨none, 0, 0, fun _ => ⟨0, 0, 0, 0, 0⟩, rfl, ⟨Nat.le_refl _, by unfold maxLen; omega, .inl rfl⟩, fun _ => rfl⟩
  · simp [Value.cells] at hcs
    obtain ⟨rfl, rfl, rfl⟩ := hcs
    simp only [if_true] at hmm
    subst hmm
    rw [cells_vec] at hel hx
    haveI : Inhabited Vc := ⟨⟨0, 0, 0, 0, 0⟩⟩
    obtain ⟨S, hS⟩ := choose_lt (n := n) (fun i hi => by
      obtain ⟨cs', h1, h2⟩ := hel i (by omega)
      exact vec_cells h1 h2)
    refine ⟨some a, n, m, S, rfl, ⟨hl, hm, ?_⟩, fun q => by cases q⟩
    by_cases hn : n = 0
    · exact .inl hn
    · right
      obtain ⟨b, o, spot⟩ := a
      have hspot : spot = none := by
        have := (hS 0 (by omega)).1 0 _ rfl
        simpa [Addr.add] using World.cell?_spot this
      subst hspot
      refine ⟨b, o, rfl, fun i hi => ?_⟩
      obtain ⟨hc, hk⟩ := hS i hi
      have g : ∀ t u, (S i).cs[t]? = some u → W.cell? ⟨b, o + i * 5 + t, none⟩ = some u := fun t u hu => by
        have := hc t u hu
        rw [add_plain, add_plain] at this
        exact this
      exact ⟨⟨g 0 _ rfl, g 1 _ rfl, g 2 _ rfl, g 3 _ rfl, g 4 _ rfl⟩, hk⟩
theorem stay {v : Value} {d : DataW H} {p : List MemPlace} {W' : World} (h : DataW.Trod enc Try.prog W 0 (fun _ => true) true 42 v d p) (hlt : ∀ x ∈ p, x.block < W.heap.size) (hb : Below W.heap.size W W') :
    DataW.Trod enc Try.prog W' 0 (fun b => decide (b < W.heap.size)) true 42 v d p := Below.trod laidOut (by kernel_rfl) (of_decide_eq_true (by kernel_rfl)) h hb hlt
end
end Go.Proofs.Ytagfaaciakbnbaa
