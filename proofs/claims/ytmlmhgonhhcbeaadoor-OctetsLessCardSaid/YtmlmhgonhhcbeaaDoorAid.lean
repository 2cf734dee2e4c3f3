/-
  Small facts that the laws' walks share: a number's lowest bits, a part at the end.
-/
import Derived.Test.YtmlmhgonhhcbeaaDoorFixed
namespace Go.Proofs.YtmlmhgonhhcbeaaDoor
open Go.RowKit

theorem and_mask (x : Int) (m : Nat) (hm : m < 9223372036854775808) : ∃ r : Nat, bits BinOp.and IntKind.i64 x (m : Int) = (r : Int) ∧ r ≤ m := by
  refine ⟨(BitVec.ofInt 64 x &&& BitVec.ofInt 64 (m : Int)).toNat, ?_, ?_⟩
  · have h : (BitVec.ofInt 64 x &&& BitVec.ofInt 64 (m : Int)).toNat ≤ m := by
      rw [BitVec.toNat_and, BitVec.ofInt_natCast, BitVec.toNat_ofNat]
      exact Nat.le_trans Nat.and_le_right (Nat.mod_le _ _)
    show IntKind.i64.wrap ((BitVec.ofInt 64 x &&& BitVec.ofInt 64 (m : Int)).toNat : Int) = _
    rw [IntKind.wrap_i64]
    omega
  · rw [BitVec.toNat_and, BitVec.ofInt_natCast, BitVec.toNat_ofNat]
    exact Nat.le_trans Nat.and_le_right (Nat.mod_le _ _)
/-- p is what a law's first row makes of s: all of it, or its first thousand bytes; in the words in which a walk asks it -/
def Shortened (s p : ByteArray) : Prop :=
  s = p ∧ s.size ≤ 1000 ∧ min (s.size : Int) 1000 = (s.size : Int) ∧ s.extract 0 s.size = s ∨ s.extract 0 1000 = p ∧ 1000 < s.size ∧ min (s.size : Int) 1000 = 1000
theorem extract_all (s : ByteArray) : s.extract 0 s.size = s := by
  apply ByteArray.ext
  rw [ByteArray.data_extract]
  exact Array.extract_size
theorem shortened (s : ByteArray) : ∃ p : ByteArray, p.size ≤ 1000 ∧ Shortened s p := by
  by_cases h : s.size ≤ 1000
  · exact ⟨s, h, Or.inl ⟨rfl, h, by omega, extract_all s⟩⟩
  · exact ⟨s.extract 0 1000, by rw [ByteArray.size_extract]; omega, Or.inr ⟨rfl, by omega, by omega⟩⟩
theorem extract_none (p : ByteArray) (a : Nat) : p.extract a (a + 0) = ByteArray.empty := by
  apply ByteArray.ext
  apply Array.eq_empty_of_size_eq_zero
  have : (p.extract a (a + 0)).size = 0 := by rw [ByteArray.size_extract]; omega
  exact this
theorem cut_end (p : ByteArray) (w : World) (hp : p.size ≤ 1000) :
    Calls Tryd.prog 17 #[.string p, .int .i64 p.size, .int .i64 0] w fun e w' => e = .returned (.tuple #[.string ByteArray.empty, .int .i64 0]) ∧ Below w.heap.size w w' := by
  have h := cut_ok p p.size 0 w (by omega) (by omega)
  rw [extract_none] at h
  exact h
end Go.Proofs.YtmlmhgonhhcbeaaDoor
