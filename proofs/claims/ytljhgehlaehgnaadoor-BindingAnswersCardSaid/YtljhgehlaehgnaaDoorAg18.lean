/-
  The contracts of Table's makeRoom, note, Put and Fix.
-/
import Derived.Test.YtljhgehlaehgnaaDoorAg17
namespace Go.Proofs.YtljhgehlaehgnaaDoor
open Go.RowKit Go.Sort

/-- what is left when there is to be room for one more; none: there is none -/
def roomed (room : Int) (L : List Ent) : Option (List Ent) := if (L.length : Int) < room then some L else match oldest L with
  | none => none
  | some b => some (del L b.key)
theorem pick_some {o : Option Ent} {e : Ent} (h : pick o e = none) : o = none ∧ e.fix = true := by
  unfold pick at h
  cases hf : e.fix with
  | true => rw [hf] at h; exact ⟨by simpa using h, rfl⟩
  | false =>
    rw [hf] at h
    cases o with
    | none => simp at h
    | some b => simp at h; split at h <;> simp at h
theorem pick_mem {o : Option Ent} {e b : Ent} (h : pick o e = some b) : (b = e ∧ e.fix = false) ∨ o = some b := by
  unfold pick at h
  cases hf : e.fix with
  | true => rw [hf] at h; exact .inr (by simpa using h)
  | false =>
    rw [hf] at h
    cases o with
    | none => exact .inl ⟨by simpa using h.symm, rfl⟩
    | some c =>
      simp at h
      split at h
      · exact .inl ⟨by simpa using h.symm, rfl⟩
      · exact .inr h
theorem fold_mem : ∀ (L : List Ent) (o : Option Ent) (b : Ent), L.foldl pick o = some b → (b ∈ L ∧ b.fix = false) ∨ o = some b
  | [], o, b, h => .inr h
  | e :: L, o, b, h => by
    rcases fold_mem L (pick o e) b h with ⟨h1, h2⟩ | h1
    · exact .inl ⟨by simp [h1], h2⟩
    · rcases pick_mem h1 with ⟨rfl, h2⟩ | h2
      · exact .inl ⟨by simp, h2⟩
      · exact .inr h2
theorem oldest_mem {L : List Ent} {b : Ent} (h : oldest L = some b) : b ∈ L ∧ b.fix = false := by
  rcases fold_mem L none b h with h | h
  · exact h
  · cases h
theorem look_of_mem {L : List Ent} {b : Ent} (h : b ∈ L) : (look L b.key).isSome = true := by
  unfold look
  rw [List.find?_isSome]
  exact ⟨b, h, by simp⟩
theorem del_len {L : List Ent} {b : Ent} (hs : Srt L) (h : b ∈ L) : (del L b.key).length + 1 = L.length := by
  have := look_of_mem h
  cases hl : look L b.key with
  | none => rw [hl] at this; cases this
  | some e =>
    obtain ⟨A, D, rfl, hk, hA, hD⟩ := look_some hs hl
    rw [del_at hk hA hD]; simp; omega
theorem look_del {L : List Ent} {k j : Int} (h : look L k = none) : look (del L j) k = none := by
  refine List.find?_eq_none.2 fun x hx => ?_
  exact List.find?_eq_none.1 h x (List.mem_filter.1 hx).1
theorem roomed_ok {room : Int} {L L1 : List Ent} (hs : Srt L) (hf : (L.length : Int) ≤ room) (h : roomed room L = some L1) : (L1.length : Int) < room ∧ (∀ k, look L k = none → look L1 k = none) := by
  unfold roomed at h
  split at h
  · obtain rfl : L = L1 := by simpa using h
    exact ⟨by assumption, fun _ h => h⟩
  · cases ho : oldest L with
    | none => rw [ho] at h; cases h
    | some b =>
      rw [ho] at h
      obtain rfl : del L b.key = L1 := by simpa using h
      have := del_len hs (oldest_mem ho).1
      exact ⟨by omega, fun _ h => look_del h⟩
set_option maxRecDepth 100000 in
theorem room_yes (B : Nat) (L : List Ent) (v : Value) (g : Nat) (room life : Int) (w : World) (T : Tab B w g room life v L) (h : (L.length : Int) < room) :
    Calls Tryd.prog 37 #[.pointer (some ⟨g, 0, none⟩)] w fun e w' => e = .returned (.bool true) ∧ Turned B g room life v L w w' := by
  have HT := hide T
  have hf := cells3 T.row
  have hgl := T.lt
  have C := fun n => size_any B L v g room life (w.drewN n) (T.below (drewN_below (Below.refl _ _) n))
  clear T
  generalize L.length = n at *
  go_enter Tryd.func37, Tryd.ntmps37
  go_wp2_with fail
  go_quiet ((go_at_call 47; exact Calls.quiet_of_same (C _)))
  go_wp2_with fail
  go_ret
  exact ⟨rfl, turned_same (unhide HT) (drewN_below (Below.refl _ _) _)⟩
set_option maxRecDepth 100000 in
theorem room_full (B : Nat) (L : List Ent) (v : Value) (g : Nat) (room life : Int) (w : World) (T : Tab B w g room life v L) (h : ¬ (L.length : Int) < room) (b : Bool) (L1 : List Ent)
    (h1 : ∀ c, oldest L = some c → b = true ∧ L1 = del L c.key) (h2 : oldest L = none → b = false ∧ L1 = L) :
    Calls Tryd.prog 37 #[.pointer (some ⟨g, 0, none⟩)] w fun e w' => e = .returned (.bool b) ∧ Turned B g room life v L1 w w' := by
  have HT := hide T
  have hf := cells3 T.row
  have hgl := T.lt
  have C := fun n => size_any B L v g room life (w.drewN n) (T.below (drewN_below (Below.refl _ _) n))
  have F := hide (fun W (h : Below w.heap.size w W) => first_any B L v g room life W (T.below h))
  cases ho : oldest L with
  | none =>
    obtain ⟨rfl, rfl⟩ := h2 ho
    rw [ho] at F
    clear T h1 h2 ho
    generalize L1.length = n at *
    go_enter Tryd.func37, Tryd.ntmps37
    go_wp2_with fail
    go_quiet ((go_at_call 47; exact Calls.quiet_of_same (C _)))
    have hb0 := hide (drewN_below (Below.refl w.heap.size w) nq)
    generalize w.drewN nq = w1 at *
    go_wp2_with fail
    refine (unhide F w1 (unhide hb0)).mono ?_
    rintro e w2 ⟨rfl, b2⟩
    have hb2 := hide ((unhide hb0).trans (b2.mono (unhide hb0).size))
    clear b2
    go_wp2_with fail
    go_ret
    exact ⟨rfl, turned_same (unhide HT) (unhide hb2)⟩
  | some c =>
    obtain ⟨rfl, rfl⟩ := h1 c ho
    have D := hide (fun W (h : Below w.heap.size w W) => drop_any B L v g room life c.key W (T.below h))
    rw [look_of_mem (oldest_mem ho).1] at D
    rw [ho] at F
    clear T h1 h2 ho
    generalize L.length = n at *
    go_enter Tryd.func37, Tryd.ntmps37
    go_wp2_with fail
    go_quiet ((go_at_call 47; exact Calls.quiet_of_same (C _)))
    have hb0 := hide (drewN_below (Below.refl w.heap.size w) nq)
    generalize w.drewN nq = w1 at *
    go_wp2_with fail
    refine (unhide F w1 (unhide hb0)).mono ?_
    rintro e w2 ⟨rfl, b2⟩
    have hb2 := hide ((unhide hb0).trans (b2.mono (unhide hb0).size))
    clear b2
    go_wp2_with fail
    refine (unhide D w2 (unhide hb2)).mono ?_
    rintro e w3 ⟨rfl, t3⟩
    have t4 := hide (turned_from (unhide hb2) t3)
    clear t3
    go_wp2_with fail
    go_ret
    exact ⟨rfl, unhide t4⟩
theorem room_any (B : Nat) (L : List Ent) (v : Value) (g : Nat) (room life : Int) (w : World) (T : Tab B w g room life v L) :
    Calls Tryd.prog 37 #[.pointer (some ⟨g, 0, none⟩)] w fun e w' => e = .returned (.bool (roomed room L).isSome) ∧ Turned B g room life v ((roomed room L).getD L) w w' := by
  unfold roomed
  by_cases h : (L.length : Int) < room
  · rw [if_pos h]; exact room_yes B L v g room life w T h
  · rw [if_neg h]
    exact room_full B L v g room life w T h _ _ (fun c hc => by rw [hc]; exact ⟨rfl, rfl⟩) (fun hc => by rw [hc]; exact ⟨rfl, rfl⟩)
end Go.Proofs.YtljhgehlaehgnaaDoor
