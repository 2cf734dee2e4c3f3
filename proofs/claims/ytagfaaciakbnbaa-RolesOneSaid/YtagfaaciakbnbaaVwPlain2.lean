/-
  Plain facts on what ports are when one of them is changed, and on the one root port: no program is named here.
-/
import Derived.Test.YtagfaaciakbnbaaVwPlain
namespace Go.Proofs.Ytagfaaciakbnbaa

/-- all as it was, but for one -/
def upd (S : Nat → Vw) (k : Nat) (x : Vw) : Nat → Vw := fun j => if j = k then x else S j
theorem upd_same (S : Nat → Vw) (k : Nat) (x : Vw) : upd S k x k = x := by simp [upd]
theorem upd_other (S : Nat → Vw) {k j : Nat} (x : Vw) (h : j ≠ k) : upd S k x j = S j := by simp [upd, h]
theorem upd_upd (S : Nat → Vw) (k : Nat) (x y : Vw) : upd (upd S k x) k y = upd S k y := by
  funext j
  unfold upd
  split <;> rfl
theorem upd_fits {S : Nat → Vw} {n k : Nat} {x : Vw} (hS : ∀ i, i < n → (S i).fits) (hx : x.fits) : ∀ i, i < n → (upd S k x i).fits := fun i hi => by
  by_cases h : i = k
  · subst h; rw [upd_same]; exact hx
  · rw [upd_other S x h]; exact hS i hi
/-- a port that is down -/
def Vw.down (x : Vw) : Vw := ⟨false, x.cost, x.told, x.v⟩
/-- a port that is up, and hears nothing -/
def Vw.deaf (x : Vw) : Vw := ⟨true, x.cost, false, x.v⟩
theorem down_fits {x : Vw} (h : x.fits) : x.down.fits := h
theorem deaf_fits {x : Vw} (h : x.fits) : x.deaf.fits := h
theorem down_off (b : Nat) (x : Vw) : offers b x.down = false := by simp [offers, Vw.down]
theorem deaf_off (b : Nat) (x : Vw) : offers b x.deaf = false := by simp [offers, Vw.deaf]
theorem way_on (x : Vw) (n : Int) : (wayVc x n).on = n := rfl
/-- one that offers no way is not the root's -/
theorem root_not {b : Nat} {S : Nat → Vw} {n k : Nat} (h : offers b (S k) = false) : (k : Int) + 1 ≠ (rootVc b S n).on := by
  rcases root_is b S n with e | ⟨i, _, ho, e⟩
  · rw [e]; show (k : Int) + 1 ≠ 0; omega
  · rw [e, way_on]
    intro q
    obtain rfl : k = i := by omega
    rw [h] at ho
    cases ho
/-- without a way that was not the best one the best one is the same -/
theorem root_without {b : Nat} {S : Nat → Vw} {n k : Nat} {x : Vw} (hb : b < 18446744073709551616) (hS : ∀ i, i < n → (S i).fits) (hn : n ≤ 9223372036854775807) (hx : x.fits) (ho : offers b x = false) (h : (k : Int) + 1 ≠ (rootVc b S n).on) :
    rootVc b (upd S k x) n = rootVc b S n := by
  have hS' := upd_fits (k := k) hS hx
  have l1 := root_least hb hS hn
  have l2 := root_least hb hS' hn
  have f1 := root_fits hb hS hn
  have f2 := root_fits hb hS' hn
  refine key_inj f2 f1 ?_
  have h1 : (rootVc b (upd S k x) n).key ≤ (rootVc b S n).key := by
    rcases root_is b S n with e | ⟨i, hi, hi2, e⟩
    · rw [e]; exact l2.1
    · have hik : i ≠ k := by
        rintro rfl
        rw [e, way_on] at h
        exact h rfl
      have := l2.2 i hi (by rw [upd_other S x hik]; exact hi2)
      rw [upd_other S x hik] at this
      rw [e]; exact this
  have h2 : (rootVc b S n).key ≤ (rootVc b (upd S k x) n).key := by
    rcases root_is b (upd S k x) n with e | ⟨i, hi, hi2, e⟩
    · rw [e]; exact l1.1
    · have hik : i ≠ k := by
        rintro rfl
        rw [upd_same, ho] at hi2
        cases hi2
      rw [upd_other S x hik] at hi2 e
      rw [e]; exact l1.2 i hi hi2
  omega
/-- RolesLess: a port that goes down -/
theorem less_down {b : Nat} {S : Nat → Vw} {n k : Nat} (hb : b < 18446744073709551616) (hS : ∀ i, i < n → (S i).fits) (hn : n ≤ 9223372036854775807) (hk : k < n) :
    roleF b (upd S k (S k).down) n k = 0 ∧ (roleF b S n k ≠ 4 → ∀ i, i ≠ k → roleF b (upd S k (S k).down) n i = roleF b S n i) := by
  constructor
  · unfold roleF roleOf
    rw [upd_same]
    simp [Vw.down]
  · intro h i hi
    have e : rootVc b (upd S k (S k).down) n = rootVc b S n := by
      by_cases hu : (S k).up = true
      · refine root_without hb hS hn (down_fits (hS k hk)) (down_off b _) fun q => h ?_
        unfold roleF roleOf
        rw [decide_eq_true q, if_neg (by simp [hu]), if_pos rfl]
      · have : (S k).down = S k := by
          generalize hx : S k = x at hu
          obtain ⟨up, c, t, v⟩ := x
          simp only [Bool.not_eq_true] at hu
          subst hu; rfl
        rw [this]
        congr 1
        funext j
        by_cases hj : j = k
        · subst hj; rw [upd_same]
        · rw [upd_other S _ hj]
    unfold roleF
    rw [e, upd_other S _ hi]
/-- and one that hears nothing any more -/
theorem less_deaf {b : Nat} {S : Nat → Vw} {n k : Nat} : roleF b (upd S k (S k).deaf) n k = 3 := by
  have h := root_not (b := b) (S := upd S k (S k).deaf) (n := n) (k := k) (by rw [upd_same]; exact deaf_off b _)
  unfold roleF
  rw [decide_eq_false h, upd_same]
  simp [roleOf, Vw.deaf]
/-- the first ones' roots are at least 2 -/
def Vw.or2 (x : Vw) : Vw := ⟨x.up, x.cost, x.told, ⟨x.v.root ||| 2, x.v.cost, x.v.bridge, x.v.port, x.v.on⟩⟩
def orS (S : Nat → Vw) (i : Nat) : Nat → Vw := fun j => if j < i then (S j).or2 else S j
theorem or2_le (n : Nat) : 2 ≤ n ||| 2 := Nat.right_le_or
theorem or2_lt {n : Nat} (h : n < 18446744073709551616) : n ||| 2 < 18446744073709551616 := by
  have : (18446744073709551616 : Nat) = 2 ^ 64 := by decide
  rw [this] at h ⊢
  exact Nat.or_lt_two_pow h (by decide)
theorem or2_fits {x : Vw} (h : x.fits) : x.or2.fits := ⟨h.1, or2_lt h.2.1, h.2.2.1, h.2.2.2.1, h.2.2.2.2.1, h.2.2.2.2.2⟩
theorem orS_fits {S : Nat → Vw} {n i : Nat} (hS : ∀ j, j < n → (S j).fits) : ∀ j, j < n → (orS S i j).fits := fun j hj => by
  unfold orS
  split
  · exact or2_fits (hS j hj)
  · exact hS j hj
theorem orS_step (S : Nat → Vw) (i : Nat) : orS S (i + 1) = upd (orS S i) i (S i).or2 := by
  funext j
  unfold orS upd
  by_cases h : j = i
  · subst h; simp
  · rw [if_neg h]
    show _ = if j < i then (S j).or2 else S j
    by_cases h2 : j < i
    · rw [if_pos h2, if_pos (by omega)]
    · rw [if_neg h2, if_neg (by omega)]
/-- the way to the better root -/
def bestW : Vw := ⟨true, 1, true, ⟨1, 0, 1, 0, 0⟩⟩
theorem bestW_fits : bestW.fits := by unfold Vw.fits Vc.fits I64 bestW; simp
theorem bestW_way (n : Int) : wayVc bestW n = ⟨1, 1, 1, 0, n⟩ := rfl
/-- RolesBest: it is the best one -/
theorem best_way {b : Nat} {S : Nat → Vw} {n k : Nat} (hb : b < 18446744073709551616) (h2 : 2 ≤ b) (hS : ∀ i, i < n → (S i).fits) (hn : n ≤ 9223372036854775807) (hk : k < n) (hr : ∀ i, i < n → 2 ≤ (S i).v.root) :
    rootVc b (upd S k bestW) n = ⟨1, 1, 1, 0, (k : Int) + 1⟩ ∧ roleF b (upd S k bestW) n k = 4 := by
  have hS' := upd_fits (k := k) hS bestW_fits
  have l := root_least hb hS' hn
  have f := root_fits hb hS' hn
  have ho : offers b (upd S k bestW k) = true := by
    rw [upd_same]
    have : ¬ (1 = b) := by omega
    simp [offers, bestW, this]
  have hle := l.2 k hk ho
  rw [upd_same, bestW_way] at hle
  have fw : (Vc.mk 1 1 1 0 ((k : Int) + 1)).fits := ⟨by show 1 < _; omega, by show 1 < _; omega, by unfold I64; simp, by unfold I64; simp, by unfold I64; simp only; omega⟩
  have hnot : ∀ v : Vc, v.fits → 2 ≤ v.root → ¬ v.key ≤ (Vc.mk 1 1 1 0 ((k : Int) + 1)).key := by
    intro v hv h2v hq
    have h1 := (cmp_root (a := Vc.mk 1 1 1 0 ((k : Int) + 1)) (b := v) (by show (1 : Nat) ≠ v.root; omega)).2 (by show (1 : Nat) < v.root; omega)
    have := cmp_cases fw hv
    omega
  have e : rootVc b (upd S k bestW) n = ⟨1, 1, 1, 0, (k : Int) + 1⟩ := by
    rcases root_is b (upd S k bestW) n with e | ⟨i, hi, _, e⟩
    · exact absurd hle (hnot _ f (by rw [e]; exact h2))
    · by_cases hik : i = k
      · subst hik
        rw [e, upd_same, bestW_way]
      · refine absurd hle (hnot _ f ?_)
        rw [e, upd_other S _ hik]
        exact hr i hi
  refine ⟨e, ?_⟩
  unfold roleF
  rw [e, upd_same]
  simp [roleOf, bestW]
/-- RolesOne: who is the root port -/
theorem role_root (b : Nat) (S : Nat → Vw) (n i : Nat) : (roleF b S n i = 4 ↔ (i : Int) + 1 = (rootVc b S n).on) ∧ (roleF b S n i = 0 ↔ (S i).up = false) ∧ ((S i).told = false → roleF b S n i = 0 ∨ roleF b S n i = 3) ∧ ((i : Int) + 1 = (rootVc b S n).on → (S i).up = true) := by
  have hup : (i : Int) + 1 = (rootVc b S n).on → (S i).up = true ∧ (S i).told = true := by
    intro h
    rcases root_is b S n with e | ⟨j, hj, ho, e⟩
    · rw [e] at h
      have : (i : Int) + 1 = 0 := h
      omega
    · rw [e, way_on] at h
      obtain rfl : i = j := by omega
      unfold offers at ho
      simp only [Bool.and_eq_true] at ho
      exact ⟨ho.1, ho.2.1⟩
  refine ⟨?_, ?_, ?_, fun h => (hup h).1⟩
  · unfold roleF roleOf
    by_cases h : (i : Int) + 1 = (rootVc b S n).on
    · simp [h, (hup h).1]
    · simp only [h, decide_false]
      constructor
      · intro q
        repeat' split at q
        all_goals first | omega | (simp at *)
      · intro q; exact absurd q (by simp)
  · unfold roleF roleOf
    constructor
    · intro q
      repeat' split at q
      all_goals first | assumption | omega
    · intro q; simp [q]
  · intro ht
    have hn : ¬ (i : Int) + 1 = (rootVc b S n).on := fun q => by rw [(hup q).2] at ht; cases ht
    unfold roleF roleOf
    rw [decide_eq_false hn, ht]
    cases (S i).up <;> simp
end Go.Proofs.Ytagfaaciakbnbaa
