/-
  Plain facts on sums of words and what they are folded to: no program is named here.
-/
import Derived.Below
namespace Go.Proofs.YtcgilcofcjehmaaDoor

/-- the sum of the words of bytes -/
def tot : List UInt8 → Nat
  | [] => 0
  | [a] => 256 * a.toNat
  | a :: b :: r => 256 * a.toNat + b.toNat + tot r
/-- a number, folded -/
def fold (n : Nat) : Nat := if n = 0 then 0 else (n - 1) % 65535 + 1
theorem fold_zero : fold 0 = 0 := rfl
theorem fold_pos (n : Nat) (h : n ≠ 0) : 1 ≤ fold n ∧ fold n ≤ 65535 ∧ fold n % 65535 = n % 65535 := by
  rw [fold, if_neg h]; omega
theorem fold_le (n : Nat) : fold n ≤ 65535 := by
  by_cases h : n = 0
  · rw [h]; decide
  · exact (fold_pos n h).2.1
theorem fold_small (n : Nat) (h : n ≤ 65535) : fold n = n := by
  by_cases h0 : n = 0
  · rw [h0]; rfl
  · rw [fold, if_neg h0]; omega
theorem fold_is (n x : Nat) (h : n ≠ 0) (h1 : 1 ≤ x) (h2 : x ≤ 65535) (h3 : x % 65535 = n % 65535) : fold n = x := by
  rw [fold, if_neg h]; omega
theorem fold_zero_iff (n : Nat) : fold n = 0 ↔ n = 0 := by
  constructor
  · intro h
    by_cases h0 : n = 0
    · exact h0
    · have := fold_pos n h0; omega
  · intro h; rw [h]; rfl
theorem fold_add (a b : Nat) : fold (fold a + fold b) = fold (a + b) := by
  by_cases ha : a = 0
  · subst ha
    rw [fold_zero, Nat.zero_add, Nat.zero_add, fold_small _ (fold_le b)]
  · by_cases hb : b = 0
    · subst hb
      rw [fold_zero, Nat.add_zero, Nat.add_zero, fold_small _ (fold_le a)]
    · have h1 := fold_pos a ha
      have h2 := fold_pos b hb
      have h3 := fold_pos (a + b) (by omega)
      exact fold_is _ _ (by omega) h3.1 h3.2.1 (by omega)
/-- one round of what the chapter calls folding -/
theorem fold_step (n : Nat) : fold (n % 65536 + n / 65536) = fold n := by
  by_cases h : n = 0
  · subst h; rfl
  · have h1 := fold_pos n h
    exact fold_is _ _ (by omega) h1.1 h1.2.1 (by omega)
/-- bytes whose sum is sealed -/
theorem fold_seal (n : Nat) : fold (n + (65535 - fold n)) = 65535 := by
  by_cases h : n = 0
  · subst h; rfl
  · have h1 := fold_pos n h
    exact fold_is _ _ (by omega) (by omega) (by omega) (by omega)
theorem tot_append : ∀ (a b : List UInt8), a.length % 2 = 0 → tot (a ++ b) = tot a + tot b
  | [], b, _ => by simp [tot]
  | [_], _, h => by simp at h
  | x :: y :: r, b, h => by
    have ih := tot_append r b (by simp at h ⊢; omega)
    show 256 * x.toNat + y.toNat + tot (r ++ b) = 256 * x.toNat + y.toNat + tot r + tot b
    rw [ih]; omega
theorem tot_snoc (l : List UInt8) (c : UInt8) : tot (l ++ [c]) = tot l + (if l.length % 2 = 0 then 256 * c.toNat else c.toNat) := by
  match l with
  | [] => simp [tot]
  | [a] => simp [tot]
  | x :: y :: r =>
    have ih := tot_snoc r c
    show 256 * x.toNat + y.toNat + tot (r ++ [c]) = 256 * x.toNat + y.toNat + tot r + _
    rw [ih, show (x :: y :: r).length % 2 = r.length % 2 by simp; omega]
    omega
theorem tot_le : ∀ l : List UInt8, tot l ≤ 65535 * l.length
  | [] => by simp [tot]
  | [a] => by have := a.toNat_lt; simp [tot]; omega
  | x :: y :: r => by
    have ih := tot_le r
    have := x.toNat_lt
    have := y.toNat_lt
    show 256 * x.toNat + y.toNat + tot r ≤ 65535 * (r.length + 1 + 1)
    omega
/-- one byte that is another one -/
theorem tot_set : ∀ (l : List UInt8) (k : Nat) (c : UInt8) (h : k < l.length), tot (l.set k c) + (if k % 2 = 0 then 256 * (l[k]).toNat else (l[k]).toNat) = tot l + (if k % 2 = 0 then 256 * c.toNat else c.toNat)
  | [a], 0, c, _ => by simp [tot]; omega
  | x :: y :: r, 0, c, _ => by
    show 256 * c.toNat + y.toNat + tot r + 256 * x.toNat = 256 * x.toNat + y.toNat + tot r + 256 * c.toNat
    omega
  | x :: y :: r, 1, c, _ => by
    show 256 * x.toNat + c.toNat + tot r + y.toNat = 256 * x.toNat + y.toNat + tot r + c.toNat
    omega
  | x :: y :: r, k + 2, c, h => by
    have ih := tot_set r k c (by simpa using h)
    have e : (k + 2) % 2 = k % 2 := by omega
    show 256 * x.toNat + y.toNat + tot (r.set k c) + (if (k + 2) % 2 = 0 then 256 * (r[k]'(by simpa using h)).toNat else (r[k]'(by simpa using h)).toNat) = 256 * x.toNat + y.toNat + tot r + _
    rw [e]
    omega
/-- zeros count for nothing -/
theorem tot_zeros : ∀ n : Nat, tot (List.replicate n 0) = 0
  | 0 => rfl
  | 1 => rfl
  | n + 2 => by
    have ih := tot_zeros n
    show 256 * 0 + 0 + tot (List.replicate n 0) = 0
    rw [ih]
end Go.Proofs.YtcgilcofcjehmaaDoor
