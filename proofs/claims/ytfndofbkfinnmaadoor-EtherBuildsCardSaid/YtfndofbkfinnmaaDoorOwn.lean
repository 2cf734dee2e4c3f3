/-
  A row of bytes that the call itself made, as a string; the bytes of a number, one by one. No function of the program is called here.
-/
import Derived.Test.YtfndofbkfinnmaaDoorLeaf2
import Derived.Lib.BufferRead
namespace Go.Proofs.YtfndofbkfinnmaaDoor
open Go.RowKit

theorem run_own_string {w : World} {base : Nat} {v : Value} (l : List UInt8) (h : w.ownsRow base 5 1 v l.length (Lib.byteCells l)) :
    (convert 60 9 v).run Tryd.prog w = .ok (.string (bs l)) w := by
  rcases h.2 with ⟨rfl, h0⟩ | ⟨g, cap, cur, rfl, _, hg, _, _, _, htake⟩
  · have hl : l = [] := List.eq_nil_of_length_eq_zero h0
    subst hl
    exact Lib.run_convert_nil_bytes w 60 9 5 0 Tryd.underlying60 Tryd.underlying5 Tryd.underlying9
  · have hc := Lib.bytes_of_row (l := l) hg (by simpa using htake)
    exact run_convert_bytes_back w 60 9 5 ⟨g, 0, none⟩ cap l Tryd.underlying60 Tryd.underlying5 Tryd.underlying9 hc

theorem be_cons (v k : Nat) : be v (k + 1) = UInt8.ofNat (v / 256 ^ k % 256) :: be v k := by
  induction k generalizing v with
  | zero => simp [be]
  | succ k ih =>
    have e : v / 256 / 256 ^ k = v / 256 ^ (k + 1) := by rw [Nat.div_div_eq_div_mul, Nat.pow_succ, Nat.mul_comm]
    rw [be, ih, e]
    rfl

/-- what Put's row holds after k rounds -/
def putCells (v n k : Nat) : List Value := List.replicate (n - k) (.int .u8 0) ++ Lib.byteCells (be v k)
theorem putCells_start (v n : Nat) : putCells v n 0 = List.replicate n (.int .u8 0) := by simp [putCells, be, Lib.byteCells]
theorem putCells_end (v n : Nat) : putCells v n n = Lib.byteCells (be v n) := by simp [putCells]
theorem putCells_length (v n k : Nat) (h : k ≤ n) : (putCells v n k).length = n := by simp [putCells, Lib.byteCells_length, be_length]; omega
theorem putCells_step (v n k : Nat) (h : k < n) : (putCells v n k).set (n - 1 - k) (.int .u8 ((v / 256 ^ k % 256 : Nat) : Int)) = putCells v n (k + 1) := by
  have e : n - k = (n - 1 - k) + 1 := by omega
  have e2 : n - (k + 1) = n - 1 - k := by omega
  unfold putCells
  rw [e, e2, List.replicate_succ', List.append_assoc, List.set_append_right _ _ (by simp), List.length_replicate, Nat.sub_self, be_cons]
  simp [Lib.byteCells]
end Go.Proofs.YtfndofbkfinnmaaDoor
