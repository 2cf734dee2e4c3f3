/-
  A row of calls among a row's arguments: what its cells hold, and that it reads as it did.
-/
import Derived.Test.YtppfhbcfmekdoaaRow10
import Derived.Test.YtppfhbcfmekdoaaStructs
import Derived.Deep.Slices
namespace Go.Proofs.Ytppfhbcfmekdoaa
open Go.ChangeShapes Go.WideShapes Go.ChangeAt Go.RowKit Go.Deep

theorem cells_op : Try.prog.cellsOf 31 = 4 := by kernel_rfl
/-- a row of calls, in memory: of each which, a key, a value, a time -/
def OpsAt (W : World) (b o n : Nat) (S : Nat → Int × Int × Int × Int) : Prop :=
  ∀ i, i < n → W.cell? ⟨b, o + i * 4, none⟩ = some (.int .i64 (S i).1) ∧ W.cell? ⟨b, o + i * 4 + 1, none⟩ = some (.int .u64 (S i).2.1) ∧ W.cell? ⟨b, o + i * 4 + 2, none⟩ = some (.int .u64 (S i).2.2.1) ∧ W.cell? ⟨b, o + i * 4 + 3, none⟩ = some (.int .i64 (S i).2.2.2) ∧
    (0 ≤ (S i).2.1 ∧ (S i).2.1 < 18446744073709551616) ∧ (0 ≤ (S i).2.2.1 ∧ (S i).2.2.1 < 18446744073709551616)
/-- no call, or a row of calls -/
def OpsIn (W : World) (ao : Option Addr) (n cap : Nat) (S : Nat → Int × Int × Int × Int) : Prop :=
  n ≤ cap ∧ cap ≤ maxLen ∧ (n = 0 ∨ ∃ b o, ao = some ⟨b, o, none⟩ ∧ b < W.heap.size ∧ OpsAt W b o n S)
section
variable {H : Type} {enc : TypeId × Value → H} {W : World} {base : Nat} {sp : Nat → Bool} {held : Bool}
set_option maxRecDepth 100000 in
theorem op_cells {n : Nat} {a : Addr} {cs' : List Value} {d : DataW H × List MemPlace} (h1 : W.cells? base a 4 = some cs') (h2 : DataW.trod enc Try.prog W base sp held n 31 cs' = some d) :
    ∃ q : Int × Int × Int × Int, (W.cell? (a.add 0) = some (.int .i64 q.1) ∧ W.cell? (a.add 1) = some (.int .u64 q.2.1) ∧ W.cell? (a.add 2) = some (.int .u64 q.2.2.1) ∧ W.cell? (a.add 3) = some (.int .i64 q.2.2.2)) ∧
      (0 ≤ q.2.1 ∧ q.2.1 < 18446744073709551616) ∧ (0 ≤ q.2.2.1 ∧ q.2.2.1 < 18446744073709551616) := by
  obtain ⟨_, hlen, hcell⟩ := World.cells?_some h1
  obtain ⟨y0, y1, y2, y3, m, _, _, g0, g1, g2, g3⟩ := trod_struct4 Try.underlying31 h2
  match cs', hlen with
  | [v0, v1, v2, v3], _ =>
    obtain ⟨a0, e0, _, w0⟩ := DataW.trod_int Try.underlying3 g0
    obtain ⟨a1, e1, _, w1⟩ := DataW.trod_int Try.underlying29 g1
    obtain ⟨a2, e2, _, w2⟩ := DataW.trod_int Try.underlying29 g2
    obtain ⟨a3, e3, _, w3⟩ := DataW.trod_int Try.underlying3 g3
    simp [cells_i64, cells_u64] at e0 e1 e2 e3
    subst e0 e1 e2 e3
    exact ⟨(a0, a1, a2, a3), ⟨by simpa using hcell 0 (by omega), by simpa using hcell 1 (by omega), by simpa using hcell 2 (by omega), by simpa using hcell 3 (by omega)⟩, bnd_u64 w1, bnd_u64 w2⟩
set_option maxRecDepth 100000 in
theorem open_ops {v : Value} {d : DataW H} {p : List MemPlace} {b0 : Nat} (hv : Value.okWide Try.prog W .any b0 24 v) (h : DataW.Trod enc Try.prog W base (fun _ => true) held 24 v d p) (hlt : ∀ x ∈ p, x.block < W.heap.size) :
    ∃ (ao : Option Addr) (n cap : Nat) (S : Nat → Int × Int × Int × Int), v = .slice ao n cap ∧ OpsIn W ao n cap S := by
  obtain ⟨ao, n, cap, rfl⟩ := okWide_slice Try.underlying24 hv
  obtain ⟨fuel, hf⟩ := h
  rcases open_slice Try.underlying24 hf with ⟨hcs, hx⟩ | ⟨a, len', cap', m, k, D, Pl, hcs, _, hl, hm, hmm, hx, hel⟩
  · simp [Value.cells] at hcs
    obtain ⟨rfl, rfl, rfl⟩ := hcs
    exact ⟨none, 0, 0, fun _ => (0, 0, 0, 0), rfl, Nat.le_refl _, by unfold maxLen; omega, .inl rfl⟩
  · simp [Value.cells] at hcs
    obtain ⟨rfl, rfl, rfl⟩ := hcs
    simp only [if_true] at hmm
    subst hmm
    rw [cells_op] at hel hx
    obtain ⟨S, hS⟩ := choose_lt (n := n) (fun i hi => by
      obtain ⟨cs', h1, h2⟩ := hel i (by omega)
      exact op_cells h1 h2)
    refine ⟨some a, n, m, S, rfl, hl, hm, ?_⟩
    by_cases hn : n = 0
    · exact .inl hn
    · right
      obtain ⟨b, o, spot⟩ := a
      have hspot : spot = none := by
        have := (hS 0 (by omega)).1.1
        simpa [Addr.add] using World.cell?_spot this
      subst hspot
      simp only [Prod.mk.injEq] at hx
      refine ⟨b, o, rfl, ?_, fun i hi => ?_⟩
      · have hp : (MemPlace.cell b o) ∈ p := by
          rw [hx.2]
          exact List.mem_append_left _ (MemPlace.mem_row.2 ⟨0, by omega, by simp⟩)
        exact hlt _ hp
      · obtain ⟨⟨c0, c1, c2, c3⟩, k1, k2⟩ := hS i hi
        rw [add_plain, add_plain] at c0 c1 c2 c3
        exact ⟨c0, c1, c2, c3, k1, k2⟩
theorem stay {v : Value} {d : DataW H} {p : List MemPlace} {W' : World} (h : DataW.Trod enc Try.prog W 0 (fun _ => true) true 24 v d p) (hlt : ∀ x ∈ p, x.block < W.heap.size) (hb : Below W.heap.size W W') :
    DataW.Trod enc Try.prog W' 0 (fun b => decide (b < W.heap.size)) true 24 v d p := Below.trod laidOut (by kernel_rfl) (of_decide_eq_true (by kernel_rfl)) h hb hlt
end
end Go.Proofs.Ytppfhbcfmekdoaa
