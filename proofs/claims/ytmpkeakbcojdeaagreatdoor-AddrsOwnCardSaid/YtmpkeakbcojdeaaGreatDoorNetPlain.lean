/-
  Plain facts on nets: the first bits of an address, the rest of them: no program is named here.
-/
import Derived.Below
import Derived.Laws.BitsAllLaws
namespace Go.Proofs.YtmpkeakbcojdeaaGreatDoor
open Go.RowKit

/-- all but the k lowest of 32 bits -/
def mask (k : Nat) : Nat := 4294967296 - 2 ^ k
theorem pow_le32 (k : Nat) (hk : k ≤ 32) : 1 ≤ 2 ^ k ∧ 2 ^ k ≤ 4294967296 := ⟨Nat.one_le_two_pow, by
  have := Nat.pow_le_pow_right (n := 2) (by omega) hk
  simpa using this⟩
theorem mask_lt (k : Nat) : mask k < 4294967296 := by
  have : 1 ≤ 2 ^ k := Nat.one_le_two_pow
  unfold mask; omega
theorem ones_shift : ∀ k : Fin 33, 4294967295 * 2 ^ k.val % 4294967296 = mask k.val := by decide +kernel
theorem mask_shift (n : Nat) (h : n ≤ 32) : (4294967295 * 2 ^ (32 - n) % 4294967296 : Int) = ((mask (32 - n) : Nat) : Int) := by
  have := ones_shift ⟨32 - n, by omega⟩
  simp only at this
  rw [← this]
  simp
/-- the k lowest bits -/
theorem low_bits (a k : Nat) (ha : a < 4294967296) (hk : k ≤ 32) : bits .andNot .u32 (a : Int) ((mask k : Nat) : Int) = ((a % 2 ^ k : Nat) : Int) := by
  have h := pow_le32 k hk
  rw [u32_andNot_nat a _ ha (mask_lt k), show 4294967295 - mask k = 2 ^ k - 1 by unfold mask; omega, Nat.and_two_pow_sub_one_eq_mod]
theorem mask_bits (k : Nat) (hk : k ≤ 32) (i : Nat) : (mask k).testBit i = (decide (k ≤ i) && decide (i < 32)) := by
  have h := pow_le32 k hk
  have e : mask k = (2 ^ (32 - k) - 1) * 2 ^ k := by
    have : 2 ^ (32 - k) * 2 ^ k = 4294967296 := by rw [← Nat.pow_add, show 32 - k + k = 32 by omega]
    unfold mask
    rw [Nat.sub_mul, this]; omega
  rw [e, Nat.testBit_mul_two_pow, Nat.testBit_two_pow_sub_one]
  by_cases h1 : k ≤ i
  · simp [h1]; omega
  · simp [h1]
/-- all but these -/
theorem high_bits (a k : Nat) (ha : a < 4294967296) (hk : k ≤ 32) : bits .and .u32 (a : Int) ((mask k : Nat) : Int) = ((a / 2 ^ k * 2 ^ k : Nat) : Int) := by
  rw [u32_and_nat a _ ha (mask_lt k)]
  congr 1
  apply Nat.eq_of_testBit_eq
  intro i
  rw [Nat.testBit_and, mask_bits k hk, Nat.testBit_mul_two_pow, Nat.testBit_div_two_pow]
  by_cases h1 : k ≤ i
  · rw [show i - k + k = i by omega]
    by_cases h2 : i < 32
    · simp [h1, h2]
    · have : a.testBit i = false := Nat.testBit_lt_two_pow (Nat.lt_of_lt_of_le ha (by
        have := Nat.pow_le_pow_right (n := 2) (by omega) (show 32 ≤ i by omega)
        simpa using this))
      simp [this]
  · simp [h1]
theorem or_rest (a k : Nat) (ha : a < 4294967296) (hk : k ≤ 32) (h : a % 2 ^ k = 0) : bits .or .u32 (a : Int) ((2 ^ k - 1 : Nat) : Int) = ((a + (2 ^ k - 1) : Nat) : Int) := by
  have h1 := pow_le32 k hk
  rw [u32_or_nat a _ ha (by omega), nat_join k a (2 ^ k - 1) h (by omega)]

theorem not_mask (k : Nat) (hk : k ≤ 32) : bits .xor .u32 IntKind.u32.max ((mask k : Nat) : Int) = ((2 ^ k - 1 : Nat) : Int) := by
  have e : IntKind.u32.max = ((4294967295 : Nat) : Int) := by decide
  rw [e, u32_xor_nat _ _ (by omega) (mask_lt k)]
  congr 1
  apply Nat.eq_of_testBit_eq
  intro i
  rw [Nat.testBit_xor, show (4294967295 : Nat) = 2 ^ 32 - 1 by decide, Nat.testBit_two_pow_sub_one, mask_bits k hk, Nat.testBit_two_pow_sub_one]
  by_cases h1 : k ≤ i
  · by_cases h2 : i < 32
    · simp [h1, h2]
    · simp [h1, h2]
  · simp [h1, show i < 32 by omega]
    omega

/-- a net may be -/
abbrev IsNet (ip : Nat) (b : Int) : Prop := 0 ≤ b ∧ b ≤ 32 ∧ ip % 2 ^ (32 - b.toNat) = 0
/-- how many addresses it has -/
def wide (b : Int) : Nat := 2 ^ (32 - b.toNat)
theorem wide_pos (b : Int) : 1 ≤ wide b := Nat.one_le_two_pow
theorem wide_le (b : Int) : wide b ≤ 4294967296 := (pow_le32 _ (by omega)).2
/-- an address is in it -/
abbrev InNet (ip : Nat) (b : Int) (a : Nat) : Prop := IsNet ip b ∧ ip ≤ a ∧ a < ip + wide b
/-- its greatest address -/
def lastOf (ip : Nat) (b : Int) : Nat := if IsNet ip b then ip + (wide b - 1) else 0
/-- one is in another one -/
abbrev NearNet (ip : Nat) (b : Int) (jp : Nat) (c : Int) : Prop := IsNet ip b ∧ IsNet jp c ∧ jp ≤ ip ∧ ip + wide b ≤ jp + wide c
theorem in_div (ip k a : Nat) (h : ip % 2 ^ k = 0) : a / 2 ^ k * 2 ^ k = ip ↔ ip ≤ a ∧ a < ip + 2 ^ k := by
  have hp : 0 < 2 ^ k := Nat.two_pow_pos k
  have h1 := Nat.div_add_mod a (2 ^ k)
  have h2 := Nat.mod_lt a hp
  have h3 := Nat.div_add_mod ip (2 ^ k)
  rw [h, Nat.add_zero] at h3
  rw [Nat.mul_comm] at h1 h3
  generalize 2 ^ k = m at *
  constructor
  · intro e; rw [e] at h1; omega
  · intro ⟨e1, e2⟩
    have e3 : ip / m ≤ a / m := Nat.div_le_div_right e1
    have e4 : a / m < ip / m + 1 := by
      rw [Nat.div_lt_iff_lt_mul hp, Nat.add_mul, h3]; omega
    rw [show a / m = ip / m by omega]; exact h3
theorem net_bound (ip : Nat) (b : Int) (hi : ip < 4294967296) (h : IsNet ip b) : ip + wide b ≤ 4294967296 := by
  obtain ⟨h0, h1, h2⟩ := h
  have hk : 32 - b.toNat ≤ 32 := by omega
  have e : 2 ^ (32 - (32 - b.toNat)) * 2 ^ (32 - b.toNat) = 4294967296 := by rw [← Nat.pow_add, show 32 - (32 - b.toNat) + (32 - b.toNat) = 32 by omega]
  have hp : 0 < 2 ^ (32 - b.toNat) := Nat.two_pow_pos _
  unfold wide
  have h3 := Nat.div_add_mod ip (2 ^ (32 - b.toNat))
  rw [h2, Nat.add_zero, Nat.mul_comm] at h3
  generalize 2 ^ (32 - b.toNat) = m at *
  generalize 2 ^ (32 - (32 - b.toNat)) = q at *
  have h4 : ip / m < q := by rw [Nat.div_lt_iff_lt_mul hp, e]; exact hi
  have h5 : (ip / m + 1) * m ≤ q * m := Nat.mul_le_mul_right m h4
  rw [Nat.add_mul, h3, e] at h5
  omega
theorem last_lt (ip : Nat) (b : Int) (hi : ip < 4294967296) : lastOf ip b < 4294967296 := by
  unfold lastOf
  split
  · have := net_bound ip b hi (by assumption)
    have := wide_pos b
    omega
  · omega
theorem near_iff (ip : Nat) (b : Int) (jp : Nat) (c : Int) : (IsNet ip b ∧ InNet jp c ip ∧ InNet jp c (lastOf ip b)) ↔ NearNet ip b jp c := by
  have hw := wide_pos b
  constructor
  · rintro ⟨h1, ⟨h2, h3, h4⟩, ⟨_, h5, h6⟩⟩
    rw [lastOf, if_pos h1] at h5 h6
    exact ⟨h1, h2, h3, by omega⟩
  · rintro ⟨h1, h2, h3, h4⟩
    refine ⟨h1, ⟨h2, h3, by omega⟩, ⟨h2, ?_, ?_⟩⟩
    · rw [lastOf, if_pos h1]; omega
    · rw [lastOf, if_pos h1]; omega
end Go.Proofs.YtmpkeakbcojdeaaGreatDoor
