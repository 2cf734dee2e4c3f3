/-
  A store into a row of views of one's own; a port drawn from a number.
-/
import Derived.Test.YtagfaaciakbnbaaList14
import Derived.Test.YtagfaaciakbnbaaVwPlain2
import Derived.Laws.Bits128
namespace Go.Proofs.Ytagfaaciakbnbaa
open Go.RowKit Go.Sort

theorem vwL_set {S S' : Nat → Vw} {n i t : Nat} {u : Value} (hi : i < n) (ht : t < 8) (h : ∀ j, j ≠ i → S' j = S j) (hc : (S' i).cs = (S i).cs.set t u) : (vwL S n).set (i * 8 + t) u = vwL S' n := by
  apply List.ext_getElem?
  intro k
  by_cases hk : k < n * 8
  · have e : k = k / 8 * 8 + k % 8 := by omega
    have hj : k / 8 < n := by omega
    have hs : k % 8 < 8 := by omega
    rw [List.getElem?_set, vwL_len]
    by_cases hki : i * 8 + t = k
    · rw [if_pos hki, if_pos (by omega), ← hki, vwL_at S' hi ht, hc, List.getElem?_set, if_pos rfl, if_pos (by rw [vws_len]; exact ht)]
    · rw [if_neg hki]
      generalize k / 8 = j at *
      generalize k % 8 = s at *
      subst e
      rw [vwL_at S hj hs, vwL_at S' hj hs]
      by_cases hji : j = i
      · subst hji
        rw [hc, List.getElem?_set, if_neg (by omega)]
      · rw [h j hji]
  · rw [List.getElem?_eq_none (by rw [List.length_set, vwL_len]; omega), List.getElem?_eq_none (by rw [vwL_len]; omega)]
theorem upd_self (S : Nat → Vw) (k : Nat) : upd S k (S k) = S := by
  funext j
  by_cases h : j = k
  · subst h; rw [upd_same]
  · rw [upd_other S _ h]
/-- a cell stored -/
theorem VwOwn.set {B : Nat} {W : World} {g n c k t : Nat} {S : Nat → Vw} {x x' : Vw} {u : Value} (h : VwOwn B W g n c (upd S k x)) (hk : k < n) (ht : t < 8) (hx : x'.cs = x.cs.set t u) : VwOwn B (W.setCell ⟨g, k * 8 + t, none⟩ u) g n c (upd S k x') := by
  have := (World.ownsRow.stored h (k * 8 + t) u).1
  rw [vwL_set (S' := upd S k x') hk ht (fun j hj => by rw [upd_other _ _ hj, upd_other _ _ hj]) (by rw [upd_same, upd_same]; exact hx)] at this
  exact this
theorem VwOwn.self {B : Nat} {W : World} {g n c : Nat} {S : Nat → Vw} (h : VwOwn B W g n c S) (k : Nat) : VwOwn B W g n c (upd S k (S k)) := by rw [upd_self]; exact h
/-- a cell's value -/
theorem VwOwn.cell {B : Nat} {W : World} {g n c : Nat} {S : Nat → Vw} (h : VwOwn B W g n c S) {k t : Nat} (hk : k < n) (ht : t < 8) : W.cell? ⟨g, k * 8 + t, none⟩ = (S k).cs[t]? := by
  rw [World.ownsRow.cellAt h (k * 8 + t) (by omega), vwL_at S hk ht]
theorem VwOwn.frozen {B : Nat} {W : World} {g n c : Nat} {S : Nat → Vw} (h : VwOwn B W g n c S) (j : Nat) : W.frozen? ⟨g, j, none⟩ = false := World.ownsRow.frozenAt h j
theorem i64_and_16bits (n : Int) : bits .and .i64 n 65535 = n % 65536 := by
  have h : (BitVec.ofInt 64 65535).toNat = 2 ^ 16 - 1 := by decide
  have key : (BitVec.ofInt 64 n &&& BitVec.ofInt 64 65535).toNat = (n % ((2 ^ 64 : Nat) : Int)).toNat % 2 ^ 16 := by
    rw [BitVec.toNat_and, BitVec.toNat_ofInt, h, Nat.and_two_pow_sub_one_eq_mod]
  show IntKind.i64.wrap ((BitVec.ofInt 64 n &&& BitVec.ofInt 64 65535).toNat : Nat) = n % 65536
  rw [key, IntKind.wrap_i64]
  omega
/-- the port that a number draws -/
theorem draw_port (n : Int) {m : Nat} (hm : 0 < m) : ∃ k : Nat, k < m ∧ Int.tmod (n % 65536) (m : Int) = (k : Int) := by
  have h0 : 0 ≤ n % 65536 := by omega
  refine ⟨((n % 65536) % (m : Int)).toNat, ?_, ?_⟩
  · have h1 := Int.emod_lt_of_pos (n % 65536) (show (0 : Int) < m by omega)
    have h2 := Int.emod_nonneg (n % 65536) (show (m : Int) ≠ 0 by omega)
    omega
  · have h2 := Int.emod_nonneg (n % 65536) (show (m : Int) ≠ 0 by omega)
    rw [Int.tmod_eq_emod_of_nonneg h0]
    omega
end Go.Proofs.Ytagfaaciakbnbaa
