/-
  The first forty of a row of vectors; the lowest 31 bits of a number.
-/
import Derived.Test.YtagfaaciakbnbaaSame13
import Derived.Laws.Bits128
namespace Go.Proofs.Ytagfaaciakbnbaa
open Go.RowKit Go.Sort

theorem i64_and_31bits (n : Int) : bits .and .i64 n 2147483647 = n % 2147483648 := by
  have h : (BitVec.ofInt 64 2147483647).toNat = 2 ^ 31 - 1 := by decide
  have key : (BitVec.ofInt 64 n &&& BitVec.ofInt 64 2147483647).toNat = (n % ((2 ^ 64 : Nat) : Int)).toNat % 2 ^ 31 := by
    rw [BitVec.toNat_and, BitVec.toNat_ofInt, h, Nat.and_two_pow_sub_one_eq_mod]
  show IntKind.i64.wrap ((BitVec.ofInt 64 n &&& BitVec.ofInt 64 2147483647).toNat : Nat) = n % 2147483648
  rw [key, IntKind.wrap_i64]
  omega
theorem under_vecs : Try.prog.underlying 42 = some (.slice (Try.prog.elem 42)) := by kernel_rfl
theorem size_vecs : ∃ i, Try.prog.info? (Try.prog.elem 42) = some i := Option.isSome_iff_exists.1 (by kernel_rfl)
/-- the first forty, as the walk's own operations give them -/
theorem first40 {ao : Option Addr} {n cap : Nat} {S : Nat → Vc} {w : World} (h : VcsIn w ao n cap S) :
    ∃ (m : Nat) (ax : Option Addr), m ≤ 40 ∧ m ≤ n ∧ (∀ (ts : Array TypeId) (t : TypeId) (W : World), (Builtin.min_ ts t #[.int .i64 (n : Int), .int .i64 40]).run Try.prog W = .ok (.int .i64 (m : Int)) W) ∧
      (∀ W : World, (Instr.slice 42 (.slice ao n cap) none (some (.int .i64 (m : Int))) none).run Try.prog W = .ok (.slice ax m cap) W) ∧ VcsIn w ax m cap S ∧ (ax = none → ao = none) := by
  obtain ⟨i, hi⟩ := size_vecs
  have hsl : ∀ (m : Nat) (W : World), m ≤ cap → (Instr.slice 42 (.slice ao n cap) none (some (.int .i64 (m : Int))) none).run Try.prog W = .ok (sliced ao 0 m cap (Try.prog.cellsOf (Try.prog.elem 42))) W := fun m W hm => by
    rw [run_slice_h W 42 ao n cap under_vecs .i64 (m : Int) (by omega) (by omega), run_sizeOf W hi]
    simp [Result.andThen]
  have hnc := h.1
  obtain ⟨m, hm⟩ : ∃ m, min n 40 = m := ⟨_, rfl⟩
  refine ⟨m, if cap = 0 then ao else ao.map (·.add 0), by omega, by omega, fun ts t W => ?_, fun W => ?_, ?_, fun q => ?_⟩
  · rw [run_min_int2]
    congr 2
    split <;> omega
  · rw [hsl m W (by omega)]
    simp [sliced]
  · by_cases h0 : m = 0
    · exact ⟨by omega, h.2.1, .inl h0⟩
    · obtain ⟨b, o, rfl, hS⟩ := h.2.2.resolve_left (by omega)
      refine ⟨by omega, h.2.1, .inr ⟨b, o, ?_, fun i hi => hS i (by omega)⟩⟩
      rw [if_neg (by omega)]
      simp [Addr.add_lit]
  · split at q
    · exact q
    · simpa using q
end Go.Proofs.Ytagfaaciakbnbaa
