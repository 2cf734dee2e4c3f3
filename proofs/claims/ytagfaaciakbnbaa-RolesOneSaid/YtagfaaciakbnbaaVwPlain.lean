/-
  Plain facts on what is known of ports: which way a port offers, which way is the best one, what a port is: no program is named here.
-/
import Derived.Test.YtagfaaciakbnbaaVcPlain
namespace Go.Proofs.Ytagfaaciakbnbaa

/-- what is known of a port, in plain numbers -/
structure Vw where
  up : Bool
  cost : Int
  told : Bool
  v : Vc
/-- as the program has it -/
def Vw.val (x : Vw) : Value := .agg #[.bool x.up, .int .i64 x.cost, .bool x.told, .int .u64 (x.v.root : Int), .int .i64 x.v.cost, .int .u64 (x.v.bridge : Int), .int .i64 x.v.port, .int .i64 x.v.on]
/-- its cells -/
def Vw.cs (x : Vw) : List Value := [.bool x.up, .int .i64 x.cost, .bool x.told, .int .u64 (x.v.root : Int), .int .i64 x.v.cost, .int .u64 (x.v.bridge : Int), .int .i64 x.v.port, .int .i64 x.v.on]
/-- its numbers are of their types -/
def Vw.fits (x : Vw) : Prop := I64 x.cost ∧ x.v.fits
/-- a vector as it stands at a port -/
def Vc.at (v : Vc) (n : Int) : Vc := ⟨v.root, v.cost, v.bridge, v.port, n⟩
/-- what a bridge says of itself -/
def ownVc (b : Nat) : Vc := ⟨b, 0, b, 0, 0⟩
/-- does a port offer a way -/
def offers (b : Nat) (x : Vw) : Bool := x.up && (x.told && !decide (x.v.bridge = b))
/-- the way that a port offers -/
def wayVc (x : Vw) (n : Int) : Vc := (x.v.plus x.cost).at n
/-- the best way of the first ports -/
def rootVc (b : Nat) (S : Nat → Vw) : Nat → Vc
  | 0 => ownVc b
  | n + 1 => if offers b (S n) = true ∧ (wayVc (S n) ((n : Int) + 1)).cmp (rootVc b S n) < 0 then wayVc (S n) ((n : Int) + 1) else rootVc b S n
/-- what a port says -/
def saysVc (b : Nat) (r : Vc) (n : Int) : Vc := ⟨r.root, r.cost, b, n, n⟩
/-- what a port is -/
def roleOf (x : Vw) (is : Bool) (s : Vc) : Int :=
  if x.up = false then 0 else if is = true then 4 else if x.told = false ∨ 0 ≤ (x.v.at s.on).cmp s then 3 else if x.v.bridge = s.bridge then 1 else 2
/-- what the ports are -/
def roleF (b : Nat) (S : Nat → Vw) (n i : Nat) : Int :=
  roleOf (S i) (decide ((i : Int) + 1 = (rootVc b S n).on)) (saysVc b (rootVc b S n) ((i : Int) + 1))
theorem at_fits {v : Vc} (h : v.fits) {n : Int} (hn : I64 n) : (v.at n).fits := ⟨h.1, h.2.1, h.2.2.1, h.2.2.2.1, hn⟩
theorem own_fits {b : Nat} (h : b < 18446744073709551616) : (ownVc b).fits := ⟨h, h, by unfold I64 ownVc; simp, by unfold I64 ownVc; simp, by unfold I64 ownVc; simp⟩
theorem way_fits {x : Vw} (h : x.fits) {n : Int} (hn : I64 n) : (wayVc x n).fits := at_fits (plus_fits h.2 _) hn
theorem says_fits {b : Nat} {r : Vc} (hr : r.fits) (hb : b < 18446744073709551616) {n : Int} (hn : I64 n) : (saysVc b r n).fits := ⟨hr.1, hb, hr.2.2.1, hn, hn⟩
theorem i64_nat {n : Nat} (h : n < 9223372036854775807) : I64 ((n : Int) + 1) := by unfold I64; omega
/-- the best way is one's own, or a port's -/
theorem root_is (b : Nat) (S : Nat → Vw) (n : Nat) : rootVc b S n = ownVc b ∨ ∃ i, i < n ∧ offers b (S i) = true ∧ rootVc b S n = wayVc (S i) ((i : Int) + 1) := by
  induction n with
  | zero => exact .inl rfl
  | succ n ih =>
    rw [rootVc]
    split
    · next h => exact .inr ⟨n, by omega, h.1, rfl⟩
    · rcases ih with h | ⟨i, hi, ho, h⟩
      · exact .inl h
      · exact .inr ⟨i, by omega, ho, h⟩
theorem root_fits {b : Nat} {S : Nat → Vw} {n : Nat} (hb : b < 18446744073709551616) (hS : ∀ i, i < n → (S i).fits) (hn : n ≤ 9223372036854775807) : (rootVc b S n).fits := by
  rcases root_is b S n with h | ⟨i, hi, _, h⟩
  · rw [h]; exact own_fits hb
  · rw [h]; exact way_fits (hS i hi) (i64_nat (by omega))
/-- and none is better -/
theorem root_least {b : Nat} {S : Nat → Vw} {n : Nat} (hb : b < 18446744073709551616) (hS : ∀ i, i < n → (S i).fits) (hn : n ≤ 9223372036854775807) :
    (rootVc b S n).key ≤ (ownVc b).key ∧ ∀ i, i < n → offers b (S i) = true → (rootVc b S n).key ≤ (wayVc (S i) ((i : Int) + 1)).key := by
  induction n with
  | zero => exact ⟨Int.le_refl _, fun i hi => by omega⟩
  | succ n ih =>
    obtain ⟨h1, h2⟩ := ih (fun i hi => hS i (by omega)) (by omega)
    have hc := cmp_cases (way_fits (hS n (by omega)) (n := (n : Int) + 1) (i64_nat (by omega))) (root_fits hb (fun i hi => hS i (Nat.lt_succ_of_lt hi)) (by omega))
    rw [rootVc]
    split
    · next h =>
      refine ⟨by omega, fun i hi ho => ?_⟩
      by_cases e : i = n
      · subst e; exact Int.le_refl _
      · have := h2 i (by omega) ho; omega
    · next h =>
      refine ⟨h1, fun i hi ho => ?_⟩
      by_cases e : i = n
      · subst e
        have : ¬ (wayVc (S i) ((i : Int) + 1)).cmp (rootVc b S i) < 0 := fun q => h ⟨ho, q⟩
        omega
      · exact h2 i (by omega) ho
theorem root_on (b : Nat) (S : Nat → Vw) (n : Nat) : 0 ≤ (rootVc b S n).on ∧ (rootVc b S n).on ≤ n := by
  rcases root_is b S n with h | ⟨i, hi, _, h⟩
  · rw [h]; unfold ownVc; simp only; omega
  · rw [h]; unfold wayVc Vc.at; simp only; omega
/-- the ways that are offered, one's own ahead of them -/
def waysVc (b : Nat) (S : Nat → Vw) : Nat → List Vc
  | 0 => [ownVc b]
  | n + 1 => if offers b (S n) = true then waysVc b S n ++ [wayVc (S n) ((n : Int) + 1)] else waysVc b S n
theorem ways_len (b : Nat) (S : Nat → Vw) (n : Nat) : 1 ≤ (waysVc b S n).length ∧ (waysVc b S n).length ≤ n + 1 := by
  induction n with
  | zero => simp [waysVc]
  | succ n ih =>
    rw [waysVc]
    split
    · rw [List.length_append]; simp; omega
    · omega
theorem ways_fit {b : Nat} {S : Nat → Vw} {n : Nat} (hb : b < 18446744073709551616) (hS : ∀ i, i < n → (S i).fits) (hn : n ≤ 9223372036854775807) : ∀ v ∈ waysVc b S n, v.fits := by
  induction n with
  | zero =>
    intro v hv
    obtain rfl : v = ownVc b := by simpa [waysVc] using hv
    exact own_fits hb
  | succ n ih =>
    intro v hv
    rw [waysVc] at hv
    split at hv
    · rcases List.mem_append.1 hv with h | h
      · exact ih (fun i hi => hS i (by omega)) (by omega) v h
      · obtain rfl : v = wayVc (S n) ((n : Int) + 1) := by simpa using h
        exact way_fits (hS n (by omega)) (i64_nat (by omega))
    · exact ih (fun i hi => hS i (by omega)) (by omega) v hv
theorem root_mem (b : Nat) (S : Nat → Vw) (n : Nat) : rootVc b S n ∈ waysVc b S n := by
  induction n with
  | zero => simp [waysVc, rootVc]
  | succ n ih =>
    rw [waysVc, rootVc]
    by_cases ho : offers b (S n) = true
    · rw [if_pos ho]
      split
      · simp
      · exact List.mem_append.2 (.inl ih)
    · rw [if_neg ho, if_neg (fun q => ho q.1)]
      exact ih
theorem ways_least {b : Nat} {S : Nat → Vw} {n : Nat} (hb : b < 18446744073709551616) (hS : ∀ i, i < n → (S i).fits) (hn : n ≤ 9223372036854775807) : ∀ v ∈ waysVc b S n, (rootVc b S n).key ≤ v.key := by
  have hl := root_least hb hS hn
  have all : ∀ m, m ≤ n → ∀ v ∈ waysVc b S m, v = ownVc b ∨ ∃ i, i < n ∧ offers b (S i) = true ∧ v = wayVc (S i) ((i : Int) + 1) := by
    intro m
    induction m with
    | zero => intro _ v hv; exact .inl (by simpa [waysVc] using hv)
    | succ m ih =>
      intro hm v hv
      rw [waysVc] at hv
      split at hv
      · next ho =>
        rcases List.mem_append.1 hv with h | h
        · exact ih (by omega) v h
        · exact .inr ⟨m, by omega, ho, by simpa using h⟩
      · exact ih (by omega) v hv
  intro v hv
  rcases all n (Nat.le_refl _) v hv with rfl | ⟨i, hi, ho, rfl⟩
  · exact hl.1
  · exact hl.2 i hi ho
/-- the best one of the ways is the best way -/
theorem best_ways {b : Nat} {S : Nat → Vw} {n : Nat} (hb : b < 18446744073709551616) (hS : ∀ i, i < n → (S i).fits) (hn : n ≤ 9223372036854775807) :
    ∃ k : Nat, ∃ hk : k < (waysVc b S n).length, bestF (fun i => (waysVc b S n)[i]?.getD (ownVc b)) (waysVc b S n).length = (k : Int) ∧ (waysVc b S n)[k] = rootVc b S n := by
  have hl := ways_len b S n
  have hf := ways_fit hb hS hn
  have get : ∀ i, (h : i < (waysVc b S n).length) → (waysVc b S n)[i]?.getD (ownVc b) = (waysVc b S n)[i] := fun i h => by rw [List.getElem?_eq_getElem h]; rfl
  obtain ⟨k, he, hk, hle, _⟩ := best_is (S := fun i => (waysVc b S n)[i]?.getD (ownVc b)) (n := (waysVc b S n).length) (fun i hi => by
    show ((waysVc b S n)[i]?.getD (ownVc b)).fits
    rw [get i hi]; exact hf _ (List.getElem_mem _)) (by omega)
  refine ⟨k, hk, he, ?_⟩
  obtain ⟨j, hj, hr⟩ := List.mem_iff_getElem.1 (root_mem b S n)
  have h1 := hle j hj
  simp only [get k hk, get j hj, hr] at h1
  have h2 := ways_least hb hS hn _ (List.getElem_mem hk)
  exact key_inj (hf _ (List.getElem_mem _)) (root_fits hb hS hn) (by omega)
end Go.Proofs.Ytagfaaciakbnbaa
