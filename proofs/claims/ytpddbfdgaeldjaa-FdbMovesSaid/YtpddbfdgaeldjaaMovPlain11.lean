/-
  Plain facts on moves in a window: where no move is let go while as many as may be count, no window has more. No program is named here.
-/
import Derived.Test.YtpddbfdgaeldjaaMov3
namespace Go.Proofs.Ytpddbfdgaeldjaa

/-- all moves so far: they rise, and of any that may be and one more, the last one is a window behind the first one -/
structure Wide (most : Nat) (win : Int) (A : List Int) : Prop where
  rises : Rises A
  far : ∀ p (h : p + most < A.length), win ≤ A[p + most] - A[p]
theorem wide_nil (most : Nat) (win : Int) : Wide most win [] := ⟨List.Pairwise.nil, fun _ h => (by simp at h)⟩
/-- how many are kept -/
theorem keep_length (most : Nat) (A : List Int) : (A.drop (A.length - most)).length = min A.length most := by rw [List.length_drop]; omega
/-- what is kept, with one more -/
theorem keep_push (most : Nat) (A : List Int) (x : Int) (hm : 1 ≤ most) :
    (A.drop (A.length - most) ++ [x]).drop ((A.drop (A.length - most)).length + 1 - most) = (A ++ [x]).drop ((A ++ [x]).length - most) := by
  rw [keep_length, List.length_append, List.length_singleton]
  by_cases h : A.length < most
  · have h1 : A.length - most = 0 := by omega
    have h2 : min A.length most + 1 - most = 0 := by omega
    have h3 : A.length + 1 - most = 0 := by omega
    rw [h1, h2, h3]
    simp
  · have h2 : min A.length most + 1 - most = 1 := by omega
    have h3 : A.length + 1 - most = (A.length - most) + 1 := by omega
    rw [h2, h3]
    have hlt : A.length - most < A.length := by omega
    rw [List.drop_append_of_le_length (by rw [List.length_drop]; omega), List.drop_append_of_le_length (by omega), List.drop_drop]
theorem cnt_all {M : List Int} {t n : Int} (h : ∀ x ∈ M, t - x < n) : cnt M t n = M.length := by
  unfold cnt
  rw [List.countP_eq_length]
  intro x hx
  exact decide_eq_true (h x hx)
/-- a move that is let go keeps all wide -/
theorem wide_push {most : Nat} {win : Int} {A : List Int} (h : Wide most win A) (x : Int) (hx : ∀ y ∈ A, y ≤ x) (hc : cnt (A.drop (A.length - most)) x win < most) : Wide most win (A ++ [x]) := by
  refine ⟨rises_push h.rises hx, fun p hp => ?_⟩
  rw [List.length_append, List.length_singleton] at hp
  by_cases hlt : p + most < A.length
  · rw [List.getElem_append_left hlt, List.getElem_append_left (by omega)]
    exact h.far p hlt
  · have hpm : p + most = A.length := by omega
    have hp2 : p = A.length - most := by omega
    have hpl : p < A.length := by
      by_cases h0 : p < A.length
      · exact h0
      · have : most = 0 := by omega
        omega
    rw [List.getElem_append_right (by omega), List.getElem_append_left hpl]
    simp only [hpm, Nat.sub_self, List.getElem_cons_zero]
    refine Int.not_lt.1 fun hlt2 => ?_
    have hall : ∀ y ∈ A.drop (A.length - most), x - y < win := by
      intro y hy
      obtain ⟨i, hi, rfl⟩ := List.mem_iff_getElem.1 hy
      rw [List.getElem_drop]
      rw [List.length_drop] at hi
      by_cases h0 : i = 0
      · subst h0
        have e : A[A.length - most + 0]'(by omega) = A[p] := by congr 1; omega
        rw [e]
        exact hlt2
      · have e : A[A.length - most]'(by omega) = A[p] := by congr 1; omega
        have := rises_at h.rises (i := A.length - most) (j := A.length - most + i) (by omega) (by omega)
        omega
    rw [cnt_all hall, keep_length] at hc
    omega
/-- so far from a place on, each is within a window: then there are no more than may be -/
theorem wide_stop {most : Nat} {win : Int} {A : List Int} (h : Wide most win A) {i j : Nat} (hj : j < A.length) (hij : j = i + most) : win ≤ A[j] - A[i]'(by omega) := by
  subst hij
  exact h.far i hj
end Go.Proofs.Ytpddbfdgaeldjaa
