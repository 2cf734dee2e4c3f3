/-
  Plain facts on vectors: how two stand, what is farther, which one is the best: no program is named here.
-/
import Derived.Test.YtagfaaciakbnbaaAgPlain
namespace Go.Proofs.Ytagfaaciakbnbaa

/-- a vector, in plain numbers -/
structure Vc where
  root : Nat
  cost : Int
  bridge : Nat
  port : Int
  on : Int
/-- a vector as the program has it -/
def Vc.val (v : Vc) : Value := .agg #[.int .u64 (v.root : Int), .int .i64 v.cost, .int .u64 (v.bridge : Int), .int .i64 v.port, .int .i64 v.on]
/-- its cells -/
def Vc.cs (v : Vc) : List Value := [.int .u64 (v.root : Int), .int .i64 v.cost, .int .u64 (v.bridge : Int), .int .i64 v.port, .int .i64 v.on]
/-- a number of 64 bits -/
abbrev I64 (n : Int) : Prop := -9223372036854775808 ≤ n ∧ n ≤ 9223372036854775807
/-- its numbers are of their types -/
def Vc.fits (v : Vc) : Prop := v.root < 18446744073709551616 ∧ v.bridge < 18446744073709551616 ∧ I64 v.cost ∧ I64 v.port ∧ I64 v.on
/-- a number that may be a part -/
def inB (n : Int) : Bool := decide (0 ≤ n ∧ n ≤ 4294967296)
/-- may a vector be -/
def Vc.right (v : Vc) : Bool := inB v.cost && inB v.port && inB v.on
/-- the cost of one that is so much farther -/
def Vc.far (v : Vc) (c : Int) : Int := if v.right = true ∧ inB c = true then min (v.cost + c) 4294967296 else 4294967296
/-- one that is so much farther -/
def Vc.plus (v : Vc) (c : Int) : Vc := ⟨v.root, v.far c, v.bridge, v.port, v.on⟩
/-- the word that rises with a number -/
def rise (n : Int) : Nat := (n + 9223372036854775808).toNat
/-- a vector's parts -/
def Vc.part (v : Vc) : Nat → Nat
  | 0 => v.root
  | 1 => rise v.cost
  | 2 => v.bridge
  | 3 => rise v.port
  | _ => rise v.on
/-- how two vectors stand: at the first part in which they differ -/
def Vc.cmp (a b : Vc) : Int :=
  if cmpI a.root b.root ≠ 0 then cmpI a.root b.root else if cmpI a.cost b.cost ≠ 0 then cmpI a.cost b.cost else
  if cmpI a.bridge b.bridge ≠ 0 then cmpI a.bridge b.bridge else if cmpI a.port b.port ≠ 0 then cmpI a.port b.port else cmpI a.on b.on
/-- a vector, as one number -/
def Vc.key (v : Vc) : Int := ((((v.root : Int) * 18446744073709551616 + (v.cost + 9223372036854775808)) * 18446744073709551616 + (v.bridge : Int)) * 18446744073709551616 + (v.port + 9223372036854775808)) * 18446744073709551616 + (v.on + 9223372036854775808)
theorem cmpI_lex {x y a b : Int} (ha : 0 ≤ a ∧ a < 18446744073709551616) (hb : 0 ≤ b ∧ b < 18446744073709551616) :
    cmpI (x * 18446744073709551616 + a) (y * 18446744073709551616 + b) = if cmpI x y ≠ 0 then cmpI x y else cmpI a b := by
  have hz : cmpI x y = 0 ↔ x = y := by
    unfold cmpI
    split
    · omega
    · split <;> omega
  by_cases h : x = y
  · subst h
    rw [if_neg (by rw [hz.2 rfl]; simp)]
    unfold cmpI
    by_cases h1 : a < b
    · rw [if_pos h1, if_pos (by omega)]
    · rw [if_neg h1, if_neg (by omega)]
      by_cases h2 : b < a
      · rw [if_pos h2, if_pos (by omega)]
      · rw [if_neg h2, if_neg (by omega)]
  · rw [if_pos (fun q => h (hz.1 q))]
    unfold cmpI
    by_cases h1 : x < y
    · rw [if_pos h1, if_pos (by omega)]
    · rw [if_neg h1, if_neg (by omega), if_pos (by omega), if_pos (by omega)]
theorem cmpI_add (a b c : Int) : cmpI (a + c) (b + c) = cmpI a b := by
  unfold cmpI
  by_cases h1 : a < b
  · rw [if_pos h1, if_pos (by omega)]
  · rw [if_neg h1, if_neg (by omega)]
    by_cases h2 : b < a
    · rw [if_pos h2, if_pos (by omega)]
    · rw [if_neg h2, if_neg (by omega)]
theorem cmp_key {a b : Vc} (ha : a.fits) (hb : b.fits) : a.cmp b = cmpI a.key b.key := by
  obtain ⟨a1, a2, a3, a4, a5⟩ := ha
  obtain ⟨b1, b2, b3, b4, b5⟩ := hb
  unfold Vc.key Vc.cmp
  rw [cmpI_lex (by omega) (by omega), cmpI_lex (by omega) (by omega), cmpI_lex (by omega) (by omega), cmpI_lex (by omega) (by omega)]
  simp only [cmpI_add]
  repeat' split
  all_goals first
    | rfl
    | simp_all
theorem key_inj {a b : Vc} (ha : a.fits) (hb : b.fits) (h : a.key = b.key) : a = b := by
  obtain ⟨a1, a2, a3, a4, a5⟩ := ha
  obtain ⟨b1, b2, b3, b4, b5⟩ := hb
  obtain ⟨r, c, d, p, o⟩ := a
  obtain ⟨r', c', d', p', o'⟩ := b
  unfold Vc.key at h
  simp only at *
  have e1 : (((r : Int) * 18446744073709551616 + (c + 9223372036854775808)) * 18446744073709551616 + (d : Int)) * 18446744073709551616 + (p + 9223372036854775808) = (((r' : Int) * 18446744073709551616 + (c' + 9223372036854775808)) * 18446744073709551616 + (d' : Int)) * 18446744073709551616 + (p' + 9223372036854775808) := by omega
  have e2 : ((r : Int) * 18446744073709551616 + (c + 9223372036854775808)) * 18446744073709551616 + (d : Int) = ((r' : Int) * 18446744073709551616 + (c' + 9223372036854775808)) * 18446744073709551616 + (d' : Int) := by omega
  have e3 : (r : Int) * 18446744073709551616 + (c + 9223372036854775808) = (r' : Int) * 18446744073709551616 + (c' + 9223372036854775808) := by omega
  have q1 : r = r' := by omega
  have q2 : c = c' := by omega
  have q3 : d = d' := by omega
  have q4 : p = p' := by omega
  have q5 : o = o' := by omega
  rw [q1, q2, q3, q4, q5]
theorem cmpI_neg (a b : Int) : cmpI a b = - cmpI b a := by
  unfold cmpI
  repeat' split
  all_goals omega
theorem cmpI_cases (a b : Int) : (cmpI a b = -1 ∧ a < b) ∨ (cmpI a b = 0 ∧ a = b) ∨ (cmpI a b = 1 ∧ b < a) := by
  unfold cmpI
  repeat' split
  all_goals omega
theorem cmp_cases {a b : Vc} (ha : a.fits) (hb : b.fits) : (a.cmp b = -1 ∧ a.key < b.key) ∨ (a.cmp b = 0 ∧ a.key = b.key) ∨ (a.cmp b = 1 ∧ b.key < a.key) := by
  rw [cmp_key ha hb]; exact cmpI_cases _ _
theorem cmp_one {a b : Vc} (ha : a.fits) (hb : b.fits) : a.cmp b = 0 ↔ a = b := by
  have := cmp_cases ha hb
  constructor
  · intro h
    exact key_inj ha hb (by omega)
  · rintro rfl
    omega
theorem inB_iff {n : Int} : inB n = true ↔ 0 ≤ n ∧ n ≤ 4294967296 := by unfold inB; simp
theorem right_iff {v : Vc} : v.right = true ↔ (0 ≤ v.cost ∧ v.cost ≤ 4294967296) ∧ (0 ≤ v.port ∧ v.port ≤ 4294967296) ∧ 0 ≤ v.on ∧ v.on ≤ 4294967296 := by
  unfold Vc.right; simp [inB_iff, and_assoc]
theorem far_in (v : Vc) (c : Int) : 0 ≤ v.far c ∧ v.far c ≤ 4294967296 := by
  unfold Vc.far
  split
  · rename_i h
    have h1 := right_iff.1 h.1
    have h2 := inB_iff.1 h.2
    omega
  · omega
theorem plus_fits {v : Vc} (h : v.fits) (c : Int) : (v.plus c).fits := by
  obtain ⟨h1, h2, h3, h4, h5⟩ := h
  have := far_in v c
  exact ⟨h1, h2, ⟨by show _ ≤ v.far c; omega, by show v.far c ≤ _; omega⟩, h4, h5⟩
/-- what is farther: its cost, and that it may be -/
theorem far_right {v : Vc} {c : Int} (h : v.right = true) (hc : 0 ≤ c ∧ c ≤ 4294967296) : v.far c = min (v.cost + c) 4294967296 ∧ (v.plus c).right = true := by
  have h1 := right_iff.1 h
  have e : v.far c = min (v.cost + c) 4294967296 := by
    unfold Vc.far
    rw [if_pos ⟨h, inB_iff.2 hc⟩]
  have := far_in v c
  refine ⟨e, right_iff.2 ⟨?_, h1.2.1, h1.2.2⟩⟩
  exact this
theorem plus_plus {v : Vc} {c d : Int} (h : v.right = true) (hc : 0 ≤ c ∧ c ≤ 2147483648) (hd : 0 ≤ d ∧ d ≤ 2147483648) : (v.plus c).plus d = v.plus (c + d) := by
  obtain ⟨e1, r1⟩ := far_right h (c := c) (by omega)
  obtain ⟨e2, _⟩ := far_right r1 (c := d) (by omega)
  obtain ⟨e3, _⟩ := far_right h (c := c + d) (by omega)
  have h1 := right_iff.1 h
  have e4 : (v.plus c).far d = v.far (c + d) := by
    rw [e2, e3]
    show min (v.far c + d) _ = _
    rw [e1]
    omega
  show Vc.mk v.root ((v.plus c).far d) v.bridge v.port v.on = Vc.mk v.root (v.far (c + d)) v.bridge v.port v.on
  rw [e4]
/-- what is farther is not better -/
theorem plus_less {v : Vc} {c : Int} (hv : v.fits) (h : v.right = true) (hc : 0 ≤ c ∧ c ≤ 4294967296) : 0 ≤ (v.plus c).cmp v := by
  obtain ⟨e1, r1⟩ := far_right h hc
  have h1 := right_iff.1 h
  have := cmp_cases (plus_fits hv c) hv
  have hk : v.key ≤ (v.plus c).key := by
    unfold Vc.key Vc.plus
    rw [e1]
    simp only
    omega
  omega
theorem cmp_root {a b : Vc} (h : a.root ≠ b.root) : a.cmp b < 0 ↔ a.root < b.root := by
  unfold Vc.cmp
  have := cmpI_cases (a.root : Int) b.root
  rw [if_pos (by omega)]
  omega
theorem cmp_cost {a b : Vc} (h : a.root = b.root) (h2 : a.cost ≠ b.cost) : a.cmp b < 0 ↔ a.cost < b.cost := by
  unfold Vc.cmp
  have h1 := cmpI_cases (a.root : Int) b.root
  have := cmpI_cases a.cost b.cost
  rw [if_neg (by omega), if_pos (by omega)]
  omega
theorem cmp_bridge {a b : Vc} (h : a.root = b.root) (h2 : a.cost = b.cost) (h3 : a.bridge ≠ b.bridge) : a.cmp b < 0 ↔ a.bridge < b.bridge := by
  unfold Vc.cmp
  have h1 := cmpI_cases (a.root : Int) b.root
  have h4 := cmpI_cases a.cost b.cost
  have := cmpI_cases (a.bridge : Int) b.bridge
  rw [if_neg (by omega), if_neg (by omega), if_pos (by omega)]
  omega
/-- the number of the best one so far -/
def bestF (S : Nat → Vc) : Nat → Int
  | 0 => -1
  | n + 1 => if bestF S n < 0 ∨ (S n).cmp (S (bestF S n).toNat) < 0 then (n : Int) else bestF S n
theorem best_is {S : Nat → Vc} {n : Nat} (h : ∀ i, i < n → (S i).fits) (hn : 0 < n) :
    ∃ k : Nat, bestF S n = (k : Int) ∧ k < n ∧ (∀ i, i < n → (S k).key ≤ (S i).key) ∧ ∀ i, i < k → (S k).key < (S i).key := by
  induction n with
  | zero => omega
  | succ n ih =>
    by_cases h0 : n = 0
    · subst h0
      refine ⟨0, by simp [bestF], by omega, ?_, ?_⟩
      · intro i hi
        obtain rfl : i = 0 := by omega
        exact Int.le_refl _
      · intro i hi; omega
    · obtain ⟨k, e, hk, h1, h2⟩ := ih (fun i hi => h i (by omega)) (by omega)
      have hc := cmp_cases (h n (by omega)) (h k (by omega))
      rw [bestF, e]
      simp only [Int.toNat_natCast]
      by_cases hb : (S n).cmp (S k) < 0
      · rw [if_pos (.inr hb)]
        refine ⟨n, rfl, by omega, ?_, ?_⟩
        · intro i hi
          by_cases hin : i = n
          · subst hin; exact Int.le_refl _
          · have := h1 i (by omega); omega
        · intro i hi
          have := h1 i (by omega); omega
      · rw [if_neg (by omega)]
        refine ⟨k, rfl, by omega, ?_, h2⟩
        intro i hi
        by_cases hin : i = n
        · subst hin; omega
        · exact h1 i (by omega)
theorem rise_lt {n : Int} (h : I64 n) : rise n < 18446744073709551616 := by unfold rise; omega
theorem part_lt {v : Vc} (h : v.fits) (i : Nat) : v.part i < 18446744073709551616 := by
  obtain ⟨h1, h2, h3, h4, h5⟩ := h
  unfold Vc.part
  split
  · exact h1
  · exact rise_lt h3
  · exact h2
  · exact rise_lt h4
  · exact rise_lt h5
theorem cmpI_rise {a b : Int} (ha : I64 a) (hb : I64 b) : cmpI (rise a) (rise b) = cmpI a b := by
  have e1 : (rise a : Int) = a + 9223372036854775808 := by unfold rise; omega
  have e2 : (rise b : Int) = b + 9223372036854775808 := by unfold rise; omega
  rw [e1, e2, cmpI_add]
/-- how two stand, by the first part in which they differ -/
theorem cmp_part {a b : Vc} (ha : a.fits) (hb : b.fits) {k : Nat} (hk : k < 5) (h : ∀ i, i < k → a.part i = b.part i) (hn : a.part k ≠ b.part k) :
    a.cmp b = if a.part k < b.part k then -1 else 1 := by
  obtain ⟨a1, a2, a3, a4, a5⟩ := ha
  obtain ⟨b1, b2, b3, b4, b5⟩ := hb
  have r3 := cmpI_rise a3 b3
  have r4 := cmpI_rise a4 b4
  have r5 := cmpI_rise a5 b5
  have c0 := cmpI_cases (a.root : Int) b.root
  have c1 := cmpI_cases (rise a.cost : Int) (rise b.cost)
  have c2 := cmpI_cases (a.bridge : Int) b.bridge
  have c3 := cmpI_cases (rise a.port : Int) (rise b.port)
  have c4 := cmpI_cases (rise a.on : Int) (rise b.on)
  rw [r3] at c1
  rw [r4] at c3
  rw [r5] at c4
  unfold Vc.cmp
  match k, hk with
  | 0, _ =>
    simp only [Vc.part] at hn ⊢
    rw [if_pos (by omega)]
    split <;> omega
  | 1, _ =>
    have q0 := h 0 (by omega)
    simp only [Vc.part] at hn q0 ⊢
    rw [if_neg (by omega), if_pos (by omega)]
    split <;> omega
  | 2, _ =>
    have q0 := h 0 (by omega)
    have q1 := h 1 (by omega)
    simp only [Vc.part] at hn q0 q1 ⊢
    rw [if_neg (by omega), if_neg (by omega), if_pos (by omega)]
    split <;> omega
  | 3, _ =>
    have q0 := h 0 (by omega)
    have q1 := h 1 (by omega)
    have q2 := h 2 (by omega)
    simp only [Vc.part] at hn q0 q1 q2 ⊢
    rw [if_neg (by omega), if_neg (by omega), if_neg (by omega), if_pos (by omega)]
    split <;> omega
  | 4, _ =>
    have q0 := h 0 (by omega)
    have q1 := h 1 (by omega)
    have q2 := h 2 (by omega)
    have q3 := h 3 (by omega)
    simp only [Vc.part] at hn q0 q1 q2 q3 ⊢
    rw [if_neg (by omega), if_neg (by omega), if_neg (by omega), if_neg (by omega)]
    split <;> omega
/-- they are one just if all parts are -/
theorem part_one {a b : Vc} (ha : a.fits) (hb : b.fits) : a = b ↔ ∀ i, i < 5 → a.part i = b.part i := by
  constructor
  · rintro rfl i _; rfl
  · intro h
    obtain ⟨a1, a2, a3, a4, a5⟩ := ha
    obtain ⟨b1, b2, b3, b4, b5⟩ := hb
    have q0 := h 0 (by omega)
    have q1 := h 1 (by omega)
    have q2 := h 2 (by omega)
    have q3 := h 3 (by omega)
    have q4 := h 4 (by omega)
    obtain ⟨r, c, d, p, o⟩ := a
    obtain ⟨r', c', d', p', o'⟩ := b
    simp only [Vc.part, rise] at *
    have e1 : c = c' := by omega
    have e2 : p = p' := by omega
    have e3 : o = o' := by omega
    rw [q0, q2, e1, e2, e3]
/-- the first part in which two differ -/
theorem part_first {a b : Vc} (ha : a.fits) (hb : b.fits) (h : a ≠ b) : ∃ k, k < 5 ∧ (∀ i, i < k → a.part i = b.part i) ∧ a.part k ≠ b.part k := by
  by_cases h0 : a.part 0 = b.part 0
  · by_cases h1 : a.part 1 = b.part 1
    · by_cases h2 : a.part 2 = b.part 2
      · by_cases h3 : a.part 3 = b.part 3
        · by_cases h4 : a.part 4 = b.part 4
          · refine absurd ((part_one ha hb).2 fun i hi => ?_) h
            match i, hi with
            | 0, _ => exact h0
            | 1, _ => exact h1
            | 2, _ => exact h2
            | 3, _ => exact h3
            | 4, _ => exact h4
          · refine ⟨4, by omega, fun i hi => ?_, h4⟩
            match i, hi with
            | 0, _ => exact h0
            | 1, _ => exact h1
            | 2, _ => exact h2
            | 3, _ => exact h3
        · refine ⟨3, by omega, fun i hi => ?_, h3⟩
          match i, hi with
          | 0, _ => exact h0
          | 1, _ => exact h1
          | 2, _ => exact h2
      · refine ⟨2, by omega, fun i hi => ?_, h2⟩
        match i, hi with
        | 0, _ => exact h0
        | 1, _ => exact h1
    · refine ⟨1, by omega, fun i hi => ?_, h1⟩
      match i, hi with
      | 0, _ => exact h0
  · exact ⟨0, by omega, fun i hi => by omega, h0⟩
end Go.Proofs.Ytagfaaciakbnbaa
