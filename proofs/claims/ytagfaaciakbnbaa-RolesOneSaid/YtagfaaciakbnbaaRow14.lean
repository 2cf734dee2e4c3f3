/-
  What every row of this seat shares beside a row of vectors: a row of views among a row's arguments; the first sixteen of them.
-/
import Derived.Test.YtagfaaciakbnbaaRow13
import Derived.Test.YtagfaaciakbnbaaFixed14
namespace Go.Proofs.Ytagfaaciakbnbaa
open Go.ChangeShapes Go.WideShapes Go.ChangeAt Go.RowKit Go.Deep Go.Sort

theorem cells_view : Try.prog.cellsOf 34 = 8 := by kernel_rfl
section
variable {H : Type} {enc : TypeId × Value → H} {W : World} {base : Nat} {sp : Nat → Bool} {held : Bool}
set_option maxRecDepth 100000 in
theorem view_of_trod {fuel : Nat} {cs : List Value} {x : DataW H × List MemPlace} (h : DataW.trod enc Try.prog W base sp held fuel 34 cs = some x) :
    ∃ v : Vw, cs = v.cs ∧ v.fits := by
  obtain ⟨y0, y1, y2, y3, m, hx, hl, h0, h1, h2, h3⟩ := trod_struct4 Try.underlying34 h
  rw [cells_view] at hl
  match cs, hl with
  | [c0, c1, c2, c3, c4, c5, c6, c7], _ =>
    obtain ⟨a0, e0, rfl⟩ := DataW.trod_bool Try.underlying4 h0
    obtain ⟨a1, e1, rfl, w1⟩ := DataW.trod_int Try.underlying3 h1
    obtain ⟨a2, e2, rfl⟩ := DataW.trod_bool Try.underlying4 h2
    obtain ⟨v, e3, _, hv, _⟩ := vec_of_trod h3
    simp [cells_i64, cells_bool, cells_vec, Vc.cs] at e0 e1 e2 e3
    obtain ⟨rfl, rfl, rfl, rfl, rfl⟩ := e3
    subst e0 e1 e2
    exact ⟨⟨a0, a1, a2, v⟩, rfl, bnd_i64 w1, hv⟩
set_option maxRecDepth 100000 in
theorem view_cells {n : Nat} {a : Addr} {cs' : List Value} {d : DataW H × List MemPlace} (h1 : W.cells? base a 8 = some cs') (h2 : DataW.trod enc Try.prog W base sp held n 34 cs' = some d) :
    ∃ q : Vw, (∀ t u, q.cs[t]? = some u → W.cell? (a.add t) = some u) ∧ q.fits := by
  obtain ⟨_, hlen, hcell⟩ := World.cells?_some h1
  obtain ⟨q, rfl, hk⟩ := view_of_trod h2
  refine ⟨q, fun t u hu => ?_, hk⟩
  have ht : t < q.cs.length := (List.getElem?_eq_some_iff.1 hu).1
  have := hcell t (by rw [← hlen]; exact ht)
  rw [this, List.getElem?_eq_getElem ht] at *
  exact hu
set_option maxRecDepth 100000 in
theorem open_views {v : Value} {d : DataW H} {p : List MemPlace} {b0 : Nat} (hv : Value.okWide Try.prog W .any b0 23 v) (h : DataW.Trod enc Try.prog W base (fun _ => true) held 23 v d p) :
    ∃ (ao : Option Addr) (n cap : Nat) (S : Nat → Vw), v = .slice ao n cap ∧ VwsIn W ao n cap S ∧ (ao = none → cap = 0) := by
  obtain ⟨ao, n, cap, rfl⟩ := okWide_slice Try.underlying23 hv
  obtain ⟨fuel, hf⟩ := h
  rcases open_slice Try.underlying23 hf with ⟨hcs, hx⟩ | ⟨a, len', cap', m, k, D, Pl, hcs, _, hl, hm, hmm, hx, hel⟩
  · simp [Value.cells] at hcs
    obtain ⟨rfl, rfl, rfl⟩ := hcs
    exact ⟨none, 0, 0, twoS, rfl, ⟨Nat.le_refl _, by unfold maxLen; omega, .inl rfl⟩, fun _ => rfl⟩
  · simp [Value.cells] at hcs
    obtain ⟨rfl, rfl, rfl⟩ := hcs
    simp only [if_true] at hmm
    subst hmm
    rw [cells_view] at hel hx
    haveI : Inhabited Vw := ⟨twoS 0⟩
    obtain ⟨S, hS⟩ := choose_lt (n := n) (fun i hi => by
      obtain ⟨cs', h1, h2⟩ := hel i (by omega)
      exact view_cells h1 h2)
    refine ⟨some a, n, m, S, rfl, ⟨hl, hm, ?_⟩, fun q => by cases q⟩
    by_cases hn : n = 0
    · exact .inl hn
    · right
      obtain ⟨b, o, spot⟩ := a
      have hspot : spot = none := by
        have := (hS 0 (by omega)).1 0 _ rfl
        simpa [Addr.add] using World.cell?_spot this
      subst hspot
      refine ⟨b, o, rfl, fun i hi => ?_⟩
      obtain ⟨hc, hk⟩ := hS i hi
      have g : ∀ t u, (S i).cs[t]? = some u → W.cell? ⟨b, o + i * 8 + t, none⟩ = some u := fun t u hu => by
        have := hc t u hu
        rw [add_plain, add_plain] at this
        exact this
      exact ⟨⟨g 0 _ rfl, g 1 _ rfl, g 2 _ rfl, g 3 _ rfl, g 4 _ rfl, g 5 _ rfl, g 6 _ rfl, g 7 _ rfl⟩, hk⟩
theorem stay_views {v : Value} {d : DataW H} {p : List MemPlace} {W' : World} (h : DataW.Trod enc Try.prog W 0 (fun _ => true) true 23 v d p) (hlt : ∀ x ∈ p, x.block < W.heap.size) (hb : Below W.heap.size W W') :
    DataW.Trod enc Try.prog W' 0 (fun b => decide (b < W.heap.size)) true 23 v d p := Below.trod laidOut (by kernel_rfl) (of_decide_eq_true (by kernel_rfl)) h hb hlt
end
theorem under_views : Try.prog.underlying 23 = some (.slice (Try.prog.elem 23)) := by kernel_rfl
theorem size_views : ∃ i, Try.prog.info? (Try.prog.elem 23) = some i := Option.isSome_iff_exists.1 (by kernel_rfl)
/-- the first sixteen, as the walk's own operations give them -/
theorem first16 {ao : Option Addr} {n cap : Nat} {S : Nat → Vw} {w : World} (h : VwsIn w ao n cap S) :
    ∃ (m : Nat) (ax : Option Addr), m ≤ 16 ∧ m ≤ n ∧ (∀ (ts : Array TypeId) (t : TypeId) (W : World), (Builtin.min_ ts t #[.int .i64 (n : Int), .int .i64 16]).run Try.prog W = .ok (.int .i64 (m : Int)) W) ∧
      (∀ W : World, (Instr.slice 23 (.slice ao n cap) none (some (.int .i64 (m : Int))) none).run Try.prog W = .ok (.slice ax m cap) W) ∧ VwsIn w ax m cap S ∧ (ax = none → ao = none) := by
  obtain ⟨i, hi⟩ := size_views
  have hsl : ∀ (m : Nat) (W : World), m ≤ cap → (Instr.slice 23 (.slice ao n cap) none (some (.int .i64 (m : Int))) none).run Try.prog W = .ok (sliced ao 0 m cap (Try.prog.cellsOf (Try.prog.elem 23))) W := fun m W hm => by
    rw [run_slice_h W 23 ao n cap under_views .i64 (m : Int) (by omega) (by omega), run_sizeOf W hi]
    simp [Result.andThen]
  have hnc := h.1
  obtain ⟨m, hm⟩ : ∃ m, min n 16 = m := ⟨_, rfl⟩
  refine ⟨m, if cap = 0 then ao else ao.map (·.add 0), by omega, by omega, fun ts t W => ?_, fun W => ?_, ?_, fun q => ?_⟩
  · rw [run_min_int2]
    congr 2
    split <;> omega
  · rw [hsl m W (by omega)]
    simp [sliced]
  · by_cases h0 : m = 0
    · exact ⟨by omega, h.2.1, .inl h0⟩
    · obtain ⟨b, o, rfl, hS⟩ := h.2.2.resolve_left (by omega)
      refine ⟨by omega, h.2.1, .inr ⟨b, o, ?_, fun i hi => hS i (by omega)⟩⟩
      rw [if_neg (by omega)]
      simp [Addr.add_lit]
  · split at q
    · exact q
    · simpa using q
end Go.Proofs.Ytagfaaciakbnbaa
