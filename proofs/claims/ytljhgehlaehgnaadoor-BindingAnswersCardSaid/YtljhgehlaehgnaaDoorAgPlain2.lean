/-
  More plain facts on entries: what stands for a key, what an insertion and a deletion leave, which one goes for another one. No program is named here.
-/
import Derived.Test.YtljhgehlaehgnaaDoorAgPlain
namespace Go.Proofs.YtljhgehlaehgnaaDoor

theorem srt_key {L : List Ent} (h : Srt L) {x y : Ent} (hx : x ∈ L) (hy : y ∈ L) (hk : x.key = y.key) : x = y := by
  induction L with
  | nil => cases hx
  | cons a L ih =>
    have h' := List.pairwise_cons.1 h
    rcases List.mem_cons.1 hx with h1 | h1
    · rcases List.mem_cons.1 hy with h2 | h2
      · rw [h1, h2]
      · have := h'.1 y h2
        rw [h1] at hk; omega
    · rcases List.mem_cons.1 hy with h2 | h2
      · have := h'.1 x h1
        rw [h2] at hk; omega
      · exact ih h'.2 h1 h2
theorem look_iff {L : List Ent} (h : Srt L) {k : Int} {x : Ent} : look L k = some x ↔ x ∈ L ∧ x.key = k := by
  constructor
  · intro hx
    exact ⟨List.mem_of_find?_eq_some hx, by simpa using List.find?_some hx⟩
  · rintro ⟨hx, rfl⟩
    cases hl : look L x.key with
    | none =>
      have := List.find?_eq_none.1 hl x hx
      simp at this
    | some y =>
      have hy := List.mem_of_find?_eq_some hl
      have hk : y.key = x.key := by simpa using List.find?_some hl
      rw [srt_key h hy hx hk]
theorem look_none_iff {L : List Ent} {k : Int} : look L k = none ↔ ∀ x ∈ L, x.key ≠ k := by
  unfold look
  rw [List.find?_eq_none]
  simp
theorem mem_ins_new {L : List Ent} (h : Srt L) {x y : Ent} (hn : look L x.key = none) : y ∈ ins x L ↔ y = x ∨ y ∈ L := by
  obtain ⟨A, B, rfl, hA, hB⟩ := look_none h hn
  rw [ins_new hA hB]
  simp only [List.mem_append, List.mem_cons]
  constructor
  · rintro (h | h | h) <;> simp [h]
  · rintro (h | h | h) <;> simp [h]
theorem len_ins_new {L : List Ent} (h : Srt L) {x : Ent} (hn : look L x.key = none) : (ins x L).length = L.length + 1 := by
  obtain ⟨A, B, rfl, hA, hB⟩ := look_none h hn
  rw [ins_new hA hB]
  simp; omega
theorem mem_ins_old {L : List Ent} (h : Srt L) {x y e : Ent} (hn : look L x.key = some e) : y ∈ ins x L ↔ y = x ∨ (y ∈ L ∧ y.key ≠ x.key) := by
  obtain ⟨A, B, rfl, hk, hA, hB⟩ := look_some h hn
  rw [ins_old hk hA]
  simp only [List.mem_append, List.mem_cons]
  constructor
  · rintro (h | h | h)
    · exact .inr ⟨.inl h, by have := hA y h; omega⟩
    · exact .inl h
    · exact .inr ⟨.inr (.inr h), by have := hB y h; omega⟩
  · rintro (h | ⟨h | h | h, h2⟩)
    · exact .inr (.inl h)
    · exact .inl h
    · rw [h] at h2; exact absurd hk h2
    · exact .inr (.inr h)
theorem len_ins_old {L : List Ent} (h : Srt L) {x e : Ent} (hn : look L x.key = some e) : (ins x L).length = L.length := by
  obtain ⟨A, B, rfl, hk, hA, hB⟩ := look_some h hn
  rw [ins_old hk hA]
  simp
theorem mem_del {L : List Ent} {k : Int} {y : Ent} : y ∈ del L k ↔ y ∈ L ∧ y.key ≠ k := by
  unfold del
  rw [List.mem_filter]
  simp
/-- ahead of all that may go: put earlier, or at the same time with a smaller key -/
def Least (M : List Ent) (c : Ent) : Prop := c ∈ M ∧ c.fix = false ∧ ∀ x ∈ M, x.fix = false → c.at_ < x.at_ ∨ (c.at_ = x.at_ ∧ c.key ≤ x.key)
end Go.Proofs.YtljhgehlaehgnaaDoor
