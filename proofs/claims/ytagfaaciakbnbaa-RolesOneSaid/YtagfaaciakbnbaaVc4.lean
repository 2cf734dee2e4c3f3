/-
  The contracts of vectors.Plus and of vectors.Best; vectors in a row.
-/
import Derived.Test.YtagfaaciakbnbaaVc3
namespace Go.Proofs.Ytagfaaciakbnbaa
open Go.RowKit Go.Sort

theorem vplus_any (v : Vc) (x : Int) (w : World) : Calls Try.prog 30 #[v.val, .int .i64 x] w fun e w' => e = .returned (v.plus x).val ∧ Below w.heap.size w w' := by
  refine plus_at v.root v.cost v.bridge v.port v.on x (v.far x) v.right (inB x) w (hide fun W => vright_any v W) (hide fun W => vwithin_any x W) ?_
  have hf : v.far x = if v.right = true ∧ inB x = true then min (v.cost + x) 4294967296 else 4294967296 := rfl
  cases hr : v.right with
  | false => exact .inr ⟨.inl rfl, by rw [hf, hr]; simp⟩
  | true =>
    cases hi : inB x with
    | false => exact .inr ⟨.inr ⟨rfl, rfl⟩, by rw [hf, hi]; simp⟩
    | true =>
      have h1 := right_iff.1 hr
      have h2 := inB_iff.1 hi
      rw [if_pos ⟨hr, hi⟩] at hf
      refine .inl ⟨rfl, rfl, v.cost + x, by unfold wrap64; omega, ?_⟩
      omega
/-- a vector's cells in memory -/
def VcAt (W : World) (b o : Nat) (v : Vc) : Prop :=
  W.cell? ⟨b, o, none⟩ = some (.int .u64 (v.root : Int)) ∧ W.cell? ⟨b, o + 1, none⟩ = some (.int .i64 v.cost) ∧ W.cell? ⟨b, o + 2, none⟩ = some (.int .u64 (v.bridge : Int)) ∧ W.cell? ⟨b, o + 3, none⟩ = some (.int .i64 v.port) ∧ W.cell? ⟨b, o + 4, none⟩ = some (.int .i64 v.on)
theorem VcAt.below {W W' : World} {b o : Nat} {v : Vc} (h : VcAt W b o v) (k : Below W.heap.size W W') : VcAt W' b o v := by
  obtain ⟨h0, h1, h2, h3, h4⟩ := h
  have hb := block_lt_of_cell h0
  exact ⟨(k.cell (p := ⟨b, o, none⟩) hb).trans h0, (k.cell (p := ⟨b, o + 1, none⟩) hb).trans h1, (k.cell (p := ⟨b, o + 2, none⟩) hb).trans h2, (k.cell (p := ⟨b, o + 3, none⟩) hb).trans h3, (k.cell (p := ⟨b, o + 4, none⟩) hb).trans h4⟩
/-- the cells in every world that has grown -/
theorem VcAt.regrown {W : World} {b o : Nat} {v : Vc} (h : VcAt W b o v) (d : Nat) (os : Array Obj) : VcAt (grow (redrawn W d) os) b o v := h.below (below_regrown W d os)
/-- vectors in a row, from a place on -/
def VcsIn (W : World) (ao : Option Addr) (n cap : Nat) (S : Nat → Vc) : Prop :=
  n ≤ cap ∧ cap ≤ maxLen ∧ (n = 0 ∨ ∃ b o, ao = some ⟨b, o, none⟩ ∧ ∀ i, i < n → VcAt W b (o + i * 5) (S i) ∧ (S i).fits)
theorem VcsIn.below {W W' : World} {ao : Option Addr} {n cap : Nat} {S : Nat → Vc} (h : VcsIn W ao n cap S) (k : Below W.heap.size W W') : VcsIn W' ao n cap S := by
  obtain ⟨h1, h2, h3⟩ := h
  refine ⟨h1, h2, ?_⟩
  rcases h3 with h3 | ⟨b, o, rfl, h3⟩
  · exact .inl h3
  · exact .inr ⟨b, o, rfl, fun i hi => ⟨(h3 i hi).1.below k, (h3 i hi).2⟩⟩
theorem VcsIn.take {W : World} {ao : Option Addr} {n cap : Nat} {S : Nat → Vc} (h : VcsIn W ao n cap S) {m : Nat} (hm : m ≤ n) : VcsIn W ao m cap S := by
  obtain ⟨h1, h2, h3⟩ := h
  refine ⟨by omega, h2, ?_⟩
  rcases h3 with h3 | ⟨b, o, rfl, h3⟩
  · exact .inl (by omega)
  · exact .inr ⟨b, o, rfl, fun i hi => h3 i (by omega)⟩
theorem VcsIn.fits {W : World} {ao : Option Addr} {n cap : Nat} {S : Nat → Vc} (h : VcsIn W ao n cap S) (i : Nat) (hi : i < n) : (S i).fits := by
  obtain ⟨h1, h2, h3⟩ := h
  rcases h3 with h3 | ⟨b, o, rfl, h3⟩
  · omega
  · exact (h3 i hi).2
theorem bestF_rng (S : Nat → Vc) (n : Nat) : -1 ≤ bestF S n ∧ bestF S n < n := by
  induction n with
  | zero => simp [bestF]
  | succ n ih =>
    rw [bestF]
    split <;> omega
end Go.Proofs.Ytagfaaciakbnbaa
