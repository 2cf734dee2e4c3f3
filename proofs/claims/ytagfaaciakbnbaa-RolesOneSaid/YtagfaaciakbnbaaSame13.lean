/-
  Two vectors held against each other by == and !=.
-/
import Derived.Test.YtagfaaciakbnbaaVc4
namespace Go.Proofs.Ytagfaaciakbnbaa
open Go.RowKit Go.Sort

theorem fields_vec : Try.prog.underlying 25 = some (.struct (Try.prog.fieldsOf 25)) := by kernel_rfl
theorem held_vec : Try.prog.stoodInHeld 25 = false := by kernel_rfl
theorem eql_vec_at (r c d p o r2 c2 d2 p2 o2 : Int) (z : Bool) (hz : decide (r = r2 ∧ c = c2 ∧ d = d2 ∧ p = p2 ∧ o = o2) = z) (W : World) :
    (binOp .eql 25 (.agg #[.int .u64 r, .int .i64 c, .int .u64 d, .int .i64 p, .int .i64 o]) (.agg #[.int .u64 r2, .int .i64 c2, .int .u64 d2, .int .i64 p2, .int .i64 o2])).run Try.prog W = .ok (.bool z) W := by
  subst hz
  rw [run_eql_struct, run_equalIn_agg _ _ _ _ _ fields_vec held_vec]
  by_cases h : r = r2 ∧ c = c2 ∧ d = d2 ∧ p = p2 ∧ o = o2
  · rw [decide_eq_true h]
    obtain ⟨rfl, rfl, rfl, rfl, rfl⟩ := h
    simp [go_sem, Try.underlying25]
  · rw [decide_eq_false h]
    simp [go_sem, Try.underlying25]
    intro h0 h1 h2 h3 h4
    exact h ⟨h0, h1, h2, h3, h4⟩
theorem neq_vec_same (r c d p o : Int) (W : World) :
    (binOp .neq 25 (.agg #[.int .u64 r, .int .i64 c, .int .u64 d, .int .i64 p, .int .i64 o]) (.agg #[.int .u64 r, .int .i64 c, .int .u64 d, .int .i64 p, .int .i64 o])).run Try.prog W = .ok (.bool false) W := by
  rw [run_neq_struct, run_equalIn_agg _ _ _ _ _ fields_vec held_vec]
  simp [go_sem, Try.underlying25]
theorem eql_vec (a b : Vc) (z : Bool) (hz : z = true ↔ a = b) (W : World) : (binOp .eql 25 a.val b.val).run Try.prog W = .ok (.bool z) W := by
  refine eql_vec_at a.root a.cost a.bridge a.port a.on b.root b.cost b.bridge b.port b.on z ?_ W
  rw [Bool.eq_iff_iff, decide_eq_true_iff, hz]
  refine ⟨fun h => ?_, fun h => ?_⟩
  · obtain ⟨r, c, d, p, o⟩ := a
    obtain ⟨r2, c2, d2, p2, o2⟩ := b
    simp only at h
    obtain ⟨h0, rfl, h2, rfl, rfl⟩ := h
    obtain rfl := Int.ofNat.inj h0
    obtain rfl := Int.ofNat.inj h2
    rfl
  · subst h; exact ⟨rfl, rfl, rfl, rfl, rfl⟩
end Go.Proofs.Ytagfaaciakbnbaa
