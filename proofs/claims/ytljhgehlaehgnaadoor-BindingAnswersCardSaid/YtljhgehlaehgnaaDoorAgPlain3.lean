/-
  Which entry goes for another one: the one that was put longest ago, of several the one with the least key. No program is named here but in what it imports.
-/
import Derived.Test.YtljhgehlaehgnaaDoorAgPlain2
import Derived.Test.YtljhgehlaehgnaaDoorAg19
namespace Go.Proofs.YtljhgehlaehgnaaDoor

theorem pick_or {M : List Ent} {o : Option Ent} {e : Ent} (ho : ∀ c, o = some c → Least M c) (hn : o = none → ∀ x ∈ M, x.fix = true) (hk : ∀ x ∈ M, x.key < e.key) :
    (∀ c, pick o e = some c → Least (M ++ [e]) c) ∧ (pick o e = none → ∀ x ∈ M ++ [e], x.fix = true) := by
  cases hf : e.fix with
  | true =>
    have hp : pick o e = o := by simp [pick, hf]
    rw [hp]
    refine ⟨fun c hc => ?_, fun h x hx => ?_⟩
    · obtain ⟨h1, h2, h3⟩ := ho c hc
      refine ⟨by simp [h1], h2, fun x hx hxf => ?_⟩
      rcases List.mem_append.1 hx with hx | hx
      · exact h3 x hx hxf
      · obtain rfl : x = e := by simpa using hx
        rw [hf] at hxf; cases hxf
    · rcases List.mem_append.1 hx with hx | hx
      · exact hn h x hx
      · obtain rfl : x = e := by simpa using hx
        exact hf
  | false =>
    cases o with
    | none =>
      have hp : pick none e = some e := by simp [pick, hf]
      rw [hp]
      refine ⟨fun c hc => ?_, fun h => by cases h⟩
      obtain rfl : e = c := by simpa using hc
      refine ⟨by simp, hf, fun x hx hxf => ?_⟩
      rcases List.mem_append.1 hx with hx | hx
      · rw [hn rfl x hx] at hxf; cases hxf
      · obtain rfl : x = e := by simpa using hx
        exact .inr ⟨rfl, Int.le_refl _⟩
    | some b =>
      obtain ⟨h1, h2, h3⟩ := ho b rfl
      by_cases hlt : e.at_ < b.at_
      · have hp : pick (some b) e = some e := by simp [pick, hf, hlt]
        rw [hp]
        refine ⟨fun c hc => ?_, fun h => by cases h⟩
        obtain rfl : e = c := by simpa using hc
        refine ⟨by simp, hf, fun x hx hxf => ?_⟩
        rcases List.mem_append.1 hx with hx | hx
        · have := h3 x hx hxf
          exact .inl (by omega)
        · obtain rfl : x = e := by simpa using hx
          exact .inr ⟨rfl, Int.le_refl _⟩
      · have hp : pick (some b) e = some b := by simp [pick, hf, hlt]
        rw [hp]
        refine ⟨fun c hc => ?_, fun h => by cases h⟩
        obtain rfl : b = c := by simpa using hc
        refine ⟨by simp [h1], h2, fun x hx hxf => ?_⟩
        rcases List.mem_append.1 hx with hx | hx
        · exact h3 x hx hxf
        · obtain rfl : x = e := by simpa using hx
          have := hk b h1
          omega
theorem fold_least : ∀ (L M : List Ent) (o : Option Ent), Srt (M ++ L) → (∀ c, o = some c → Least M c) → (o = none → ∀ x ∈ M, x.fix = true) →
    (∀ c, L.foldl pick o = some c → Least (M ++ L) c) ∧ (L.foldl pick o = none → ∀ x ∈ M ++ L, x.fix = true)
  | [], M, o, _, h1, h2 => by simpa using ⟨h1, h2⟩
  | e :: L, M, o, hs, h1, h2 => by
    have hk : ∀ x ∈ M, x.key < e.key := fun x hx => (List.pairwise_append.1 hs).2.2 x hx e (by simp)
    obtain ⟨h3, h4⟩ := pick_or h1 h2 hk
    have := fold_least L (M ++ [e]) (pick o e) (by simpa using hs) h3 h4
    simpa using this
theorem oldest_least {L : List Ent} (hs : Srt L) {c : Ent} (h : oldest L = some c) : Least L c := (fold_least L [] none (by simpa using hs) (fun _ h => by cases h) (fun _ _ h => by cases h)).1 c h
theorem oldest_none {L : List Ent} (hs : Srt L) (h : oldest L = none) : ∀ x ∈ L, x.fix = true := (fold_least L [] none (by simpa using hs) (fun _ h => by cases h) (fun _ _ h => by cases h)).2 h
theorem least_key {M : List Ent} {c d : Ent} (hc : Least M c) (hd : Least M d) : c.key = d.key := by
  have h1 := hc.2.2 d hd.1 hd.2.1
  have h2 := hd.2.2 c hc.1 hc.2.1
  omega
end Go.Proofs.YtljhgehlaehgnaaDoor
