/-
  Parts of a text, in the words in which a walk asks them; sums of two parts.
-/
import Derived.Test.YtaacmohlmdkigaaDoorCells3
namespace Go.Proofs.YtaacmohlmdkigaaDoor
open Go.RowKit

theorem slice_to (l : List UInt8) (k : Nat) (hk : k ≤ l.length) (W : World) : (Instr.slice 9 (.string (bs l)) none (some (.int .i64 (k : Int))) none).run Tryd.prog W = .ok (.string (bs (l.take k))) W := by
  have hs := bs_size l
  have e := run_slice_string_h (P := Tryd.prog) W 9 (bs l) Tryd.underlying9 .i64 (k : Int) (by omega) (by omega)
  have e2 : (bs l).extract 0 (k : Int).toNat = bs (l.take k) := by
    rw [← bs_of ((bs l).extract 0 (k : Int).toNat), extract_toList, bs_toList, List.drop_zero, show (k : Int).toNat - 0 = k by omega]
  rw [e2] at e
  exact e
theorem slice_from (l : List UInt8) (x : Int) (k : Nat) (hx : x = k) (hk : k ≤ l.length) (W : World) : (Instr.slice 9 (.string (bs l)) (some (.int .i64 x)) none none).run Tryd.prog W = .ok (.string (bs (l.drop k))) W := by
  subst hx
  have hs := bs_size l
  have e := run_slice_string_l (P := Tryd.prog) W 9 (bs l) Tryd.underlying9 .i64 (k : Int) (by omega) (by omega)
  have e2 : (bs l).extract (k : Int).toNat (bs l).size = bs (l.drop k) := by
    rw [← bs_of ((bs l).extract (k : Int).toNat (bs l).size), extract_toList, bs_toList, show (k : Int).toNat = k by omega, hs, List.take_of_length_le (by rw [List.length_drop]; omega)]
  rw [e2] at e
  exact e
/-- a number's lowest sixteen bits, by another number -/
theorem and_word (x : Int) : ∃ m : Nat, bits BinOp.and IntKind.i64 x 65535 = (m : Int) ∧ m < 65536 := ⟨(x % 65536).toNat, by rw [low16]; omega, by omega⟩
theorem even_of (d : Nat) (h : d ≤ 600) : bits BinOp.andNot IntKind.i64 (d : Int) 1 = ((d / 2 * 2 : Nat) : Int) := by
  have key : ∀ d : Fin 601, bits BinOp.andNot IntKind.i64 ((d.val : Nat) : Int) 1 = ((d.val / 2 * 2 : Nat) : Int) := by decide +kernel
  exact key ⟨d, by omega⟩
/-- the sum of two parts, folded -/
theorem fold_two (u v : List UInt8) (hu : u.length % 2 = 0) : fold (tot (u ++ v)) = if 65535 < fold (tot u) + fold (tot v) then fold (tot u) + fold (tot v) - 65535 else fold (tot u) + fold (tot v) := by
  rw [tot_append _ _ hu, ← fold_add]
  have h1 := fold_le (tot u)
  have h2 := fold_le (tot v)
  generalize fold (tot u) = a at *
  generalize fold (tot v) = b at *
  split
  · exact fold_is _ _ (by omega) (by omega) (by omega) (by omega)
  · exact fold_small _ (by omega)
theorem ck_fold (l : List UInt8) : (65535 : Int) - ((ck l : Nat) : Int) = ((fold (tot l) : Nat) : Int) := by
  have := fold_le (tot l)
  unfold ck
  omega
end Go.Proofs.YtaacmohlmdkigaaDoor
