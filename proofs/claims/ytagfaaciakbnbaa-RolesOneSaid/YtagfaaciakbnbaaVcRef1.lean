/-
  The contracts of gangwayref13's ids, nums and Compare: the document's answer to how two stand.
-/
import Derived.Test.YtagfaaciakbnbaaVc4
namespace Go.Proofs.Ytagfaaciakbnbaa
open Go.RowKit Go.Sort

theorem wids_any (a b : Int) (w : World) : Calls Try.prog 27 #[.int .u64 a, .int .u64 b] w fun e w' => e = .returned (.int .i64 (cmpI a b)) ∧ Below w.heap.size w w' := by
  rcases cmpI_cases a b with ⟨h, hl⟩ | ⟨h, hl⟩ | ⟨h, hl⟩
  · rw [h]
    clear h
    go_enter Try.func27, Try.ntmps27
    go_wp2
    go_ret
    exact ⟨rfl, Below.refl _ _⟩
  · rw [h]
    clear h
    subst hl
    go_enter Try.func27, Try.ntmps27
    go_wp2
    go_ret
    exact ⟨rfl, Below.refl _ _⟩
  · rw [h]
    clear h
    have hn : ¬ a < b := by omega
    go_enter Try.func27, Try.ntmps27
    go_wp2
    go_ret
    exact ⟨rfl, Below.refl _ _⟩
theorem wnums_any (a b : Int) (w : World) : Calls Try.prog 28 #[.int .i64 a, .int .i64 b] w fun e w' => e = .returned (.int .i64 (cmpI a b)) ∧ Below w.heap.size w w' := by
  rcases cmpI_cases a b with ⟨h, hl⟩ | ⟨h, hl⟩ | ⟨h, hl⟩
  · rw [h]
    clear h
    go_enter Try.func28, Try.ntmps28
    go_wp2
    go_ret
    exact ⟨rfl, Below.refl _ _⟩
  · rw [h]
    clear h
    subst hl
    go_enter Try.func28, Try.ntmps28
    go_wp2
    go_ret
    exact ⟨rfl, Below.refl _ _⟩
  · rw [h]
    clear h
    have hn : ¬ a < b := by omega
    go_enter Try.func28, Try.ntmps28
    go_wp2
    go_ret
    exact ⟨rfl, Below.refl _ _⟩
theorem row_ints {W : World} {X : Nat} {s : Nat → Int} (h : W.heap[X]? = some (.cells #[.int .i64 (s 0), .int .i64 (s 1), .int .i64 (s 2), .int .i64 (s 3), .int .i64 (s 4)] 3 (0, 0))) : ∀ i, i < 5 → W.cell? ⟨X, i, none⟩ = some (.int .i64 (s i)) := fun i hi => by
  have c := vcells h
  match i, hi with
  | 0, _ => exact c.1
  | 1, _ => exact c.2.1
  | 2, _ => exact c.2.2.1
  | 3, _ => exact c.2.2.2.1
  | 4, _ => exact c.2.2.2.2.1
set_option maxHeartbeats 4000000 in
set_option maxRecDepth 100000 in
theorem wcmp_at (ra ca da pa oa rb cb db pb ob t : Int) (s : Nat → Int) (w : World)
    (hk : (t = 0 ∧ ∀ i, i < 5 → s i = 0) ∨ ∃ k, k < 5 ∧ (∀ i, i < k → s i = 0) ∧ s k ≠ 0 ∧ t = s k)
    (C0 : Hid (∀ W, Calls Try.prog 27 #[.int .u64 ra, .int .u64 rb] W fun e w' => e = .returned (.int .i64 (s 0)) ∧ Below W.heap.size W w'))
    (C1 : Hid (∀ W, Calls Try.prog 28 #[.int .i64 ca, .int .i64 cb] W fun e w' => e = .returned (.int .i64 (s 1)) ∧ Below W.heap.size W w'))
    (C2 : Hid (∀ W, Calls Try.prog 27 #[.int .u64 da, .int .u64 db] W fun e w' => e = .returned (.int .i64 (s 2)) ∧ Below W.heap.size W w'))
    (C3 : Hid (∀ W, Calls Try.prog 28 #[.int .i64 pa, .int .i64 pb] W fun e w' => e = .returned (.int .i64 (s 3)) ∧ Below W.heap.size W w'))
    (C4 : Hid (∀ W, Calls Try.prog 28 #[.int .i64 oa, .int .i64 ob] W fun e w' => e = .returned (.int .i64 (s 4)) ∧ Below W.heap.size W w')) :
    Calls Try.prog 18 #[.agg #[.int .u64 ra, .int .i64 ca, .int .u64 da, .int .i64 pa, .int .i64 oa], .agg #[.int .u64 rb, .int .i64 cb, .int .u64 db, .int .i64 pb, .int .i64 ob]] w fun e w' => e = .returned (.int .i64 t) ∧ Below w.heap.size w w' := by
  have r0 := heap_alloc2_old w (.cells #[.int .u64 ra, .int .i64 ca, .int .u64 da, .int .i64 pa, .int .i64 oa] 25) (.cells #[.int .u64 rb, .int .i64 cb, .int .u64 db, .int .i64 pb, .int .i64 ob] 25)
  have r1 := heap_alloc2_new w (.cells #[.int .u64 ra, .int .i64 ca, .int .u64 da, .int .i64 pa, .int .i64 oa] 25) (.cells #[.int .u64 rb, .int .i64 cb, .int .u64 db, .int .i64 pb, .int .i64 ob] 25)
  have b0 := alloc_then (o := (.cells #[.int .u64 rb, .int .i64 cb, .int .u64 db, .int .i64 pb, .int .i64 ob] 25)) (alloc_below w (.cells #[.int .u64 ra, .int .i64 ca, .int .u64 da, .int .i64 pa, .int .i64 oa] 25))
  go_enter Try.func18, Try.ntmps18
  go_upto_region 1 with fail
  generalize (w.alloc (.cells #[.int .u64 ra, .int .i64 ca, .int .u64 da, .int .i64 pa, .int .i64 oa] 25)).alloc (.cells #[.int .u64 rb, .int .i64 cb, .int .u64 db, .int .i64 pb, .int .i64 ob] 25) = W1 at *
  have keepG : Hid (∀ W2, Below W1.heap.size W1 W2 → W2.cell? ⟨w.heap.size, 0, none⟩ = some (.int .u64 ra) ∧ W2.cell? ⟨w.heap.size, 1, none⟩ = some (.int .i64 ca) ∧ W2.cell? ⟨w.heap.size, 2, none⟩ = some (.int .u64 da) ∧ W2.cell? ⟨w.heap.size, 3, none⟩ = some (.int .i64 pa) ∧ W2.cell? ⟨w.heap.size, 4, none⟩ = some (.int .i64 oa) ∧ W2.cell? ⟨w.heap.size + 1, 0, none⟩ = some (.int .u64 rb) ∧ W2.cell? ⟨w.heap.size + 1, 1, none⟩ = some (.int .i64 cb) ∧ W2.cell? ⟨w.heap.size + 1, 2, none⟩ = some (.int .u64 db) ∧ W2.cell? ⟨w.heap.size + 1, 3, none⟩ = some (.int .i64 pb) ∧ W2.cell? ⟨w.heap.size + 1, 4, none⟩ = some (.int .i64 ob)) := fun W2 h => by
    have c := vkeep h r0
    have d := vkeep h r1
    exact ⟨c.1, c.2.1, c.2.2.1, c.2.2.2.1, c.2.2.2.2, d.1, d.2.1, d.2.2.1, d.2.2.2.1, d.2.2.2.2⟩
  clear r0 r1
  have HB0 := hide b0
  have HK := hide hk
  have HS := hide ((Below.refl W1.heap.size W1).drew)
  clear b0 hk
  go_region_held3 (fun w' => w'.cell? ⟨w.heap.size, 0, none⟩ = some (.int .u64 ra) ∧ w'.cell? ⟨w.heap.size, 1, none⟩ = some (.int .i64 ca) ∧ w'.cell? ⟨w.heap.size, 2, none⟩ = some (.int .u64 da) ∧ w'.cell? ⟨w.heap.size, 3, none⟩ = some (.int .i64 pa) ∧ w'.cell? ⟨w.heap.size, 4, none⟩ = some (.int .i64 oa) ∧ w'.cell? ⟨w.heap.size + 1, 0, none⟩ = some (.int .u64 rb) ∧ w'.cell? ⟨w.heap.size + 1, 1, none⟩ = some (.int .i64 cb) ∧ w'.cell? ⟨w.heap.size + 1, 2, none⟩ = some (.int .u64 db) ∧ w'.cell? ⟨w.heap.size + 1, 3, none⟩ = some (.int .i64 pb) ∧ w'.cell? ⟨w.heap.size + 1, 4, none⟩ = some (.int .i64 ob))
      ((first | (exact unhide keepG _ (unhide HS)) | (exact unhide keepG _ (alloc_then (unhide HS)))))
      ((first
        | (go_at_call_of 27 ra; refine (unhide C0 _).mono ?_; rintro e5 w5 ⟨rfl, B5⟩; have HS := hide (bthen (unhide HS) B5))
        | (go_at_call_of 28 ca; refine (unhide C1 _).mono ?_; rintro e5 w5 ⟨rfl, B5⟩; have HS := hide (bthen (unhide HS) B5))
        | (go_at_call_of 27 da; refine (unhide C2 _).mono ?_; rintro e5 w5 ⟨rfl, B5⟩; have HS := hide (bthen (unhide HS) B5))
        | (go_at_call_of 28 pa; refine (unhide C3 _).mono ?_; rintro e5 w5 ⟨rfl, B5⟩; have HS := hide (bthen (unhide HS) B5))
        | (go_at_call_of 28 oa; refine (unhide C4 _).mono ?_; rintro e5 w5 ⟨rfl, B5⟩; have HS := hide (bthen (unhide HS) B5))))
  have RI := hide (row_ints (heap_alloc_new w5 (.cells #[.int .i64 (s 0), .int .i64 (s 1), .int .i64 (s 2), .int .i64 (s 3), .int .i64 (s 4)] 3)))
  have HB := hide (alloc_then (o := .cells #[.int .i64 (s 0), .int .i64 (s 1), .int .i64 (s 2), .int .i64 (s 3), .int .i64 (s 4)] 3) (bthen (unhide HB0) (unhide HS)))
  clear keepG HB0 HS C0 C1 C2 C3 C4
  go_wp2_with fail
  go_loopw [6] (fun a wr => ∃ i : Nat, a = .int .i64 i ∧ i ≤ 5 ∧ (∀ j, j < i → s j = 0) ∧ Below w.heap.size w wr ∧ ∀ j, j < 5 → wr.cell? ⟨w5.heap.size, j, none⟩ = some (.int .i64 (s j))) (fun a _ => (5 - intOf a).toNat)
  case atStart => exact ⟨0, rfl, by omega, fun _ h => by omega, unhide HB, unhide RI⟩
  case round =>
    obtain ⟨i, rfl, hi, hz, hb, hc⟩ := hrel
    have HB2 := hide hb
    have RI2 := hide hc
    have HZ := hide hz
    clear hb hc hz RI HB
    by_cases h5 : i < 5
    · have hc := unhide RI2 i h5
      by_cases h0 : s i = 0
      · have HZ2 : Hid (∀ j, j < i + 1 → s j = 0) := fun j hj => by
          by_cases e : j = i
          · subst e; exact h0
          · exact unhide HZ j (by omega)
        rw [h0] at hc
        clear h0 HZ HK
        go_wp2_with fail
        go_roundw
        case rel => exact ⟨i + 1, by go_num, by omega, unhide HZ2, unhide HB2, unhide RI2⟩
        case measure => simp [intOf]; omega
      · have ht : t = s i := by
          rcases (unhide HK) with ⟨_, h⟩ | ⟨k, hk, h1, h2, h3⟩
          · exact absurd (h i h5) h0
          · obtain rfl : k = i := by
              rcases Nat.lt_trichotomy k i with h | h | h
              · exact absurd (unhide HZ k h) h2
              · exact h
              · exact absurd (h1 i h) h0
            exact h3
        have hd : (t == 0) = false := by rw [ht]; simpa using h0
        rw [← ht] at hc
        clear HZ HK RI2 h0 ht
        go_wp2_with fail
        go_ret
        exact ⟨rfl, unhide HB2⟩
    · obtain rfl : i = 5 := by omega
      obtain rfl : t = 0 := by
        rcases (unhide HK) with ⟨h, _⟩ | ⟨k, hk, h1, h2, h3⟩
        · exact h
        · exact absurd (unhide HZ k hk) h2
      clear HZ HK RI2
      go_wp2_with fail
      go_ret
      exact ⟨rfl, unhide HB2⟩
theorem wcmp_any (a b : Vc) (w : World) : Calls Try.prog 18 #[a.val, b.val] w fun e w' => e = .returned (.int .i64 (a.cmp b)) ∧ Below w.heap.size w w' := by
  let s : Nat → Int := fun i => match i with
    | 0 => cmpI a.root b.root
    | 1 => cmpI a.cost b.cost
    | 2 => cmpI a.bridge b.bridge
    | 3 => cmpI a.port b.port
    | _ => cmpI a.on b.on
  refine wcmp_at a.root a.cost a.bridge a.port a.on b.root b.cost b.bridge b.port b.on (a.cmp b) s w ?_ (hide fun W => wids_any a.root b.root W) (hide fun W => wnums_any a.cost b.cost W) (hide fun W => wids_any a.bridge b.bridge W) (hide fun W => wnums_any a.port b.port W) (hide fun W => wnums_any a.on b.on W)
  unfold Vc.cmp
  by_cases h0 : cmpI a.root b.root = 0
  · rw [if_neg (by omega)]
    by_cases h1 : cmpI a.cost b.cost = 0
    · rw [if_neg (by omega)]
      by_cases h2 : cmpI a.bridge b.bridge = 0
      · rw [if_neg (by omega)]
        by_cases h3 : cmpI a.port b.port = 0
        · rw [if_neg (by omega)]
          by_cases h4 : cmpI a.on b.on = 0
          · refine .inl ⟨h4, fun i hi => ?_⟩
            match i, hi with
            | 0, _ => exact h0
            | 1, _ => exact h1
            | 2, _ => exact h2
            | 3, _ => exact h3
            | 4, _ => exact h4
          · refine .inr ⟨4, by omega, fun i hi => ?_, h4, rfl⟩
            match i, hi with
            | 0, _ => exact h0
            | 1, _ => exact h1
            | 2, _ => exact h2
            | 3, _ => exact h3
        · rw [if_pos h3]
          refine .inr ⟨3, by omega, fun i hi => ?_, h3, rfl⟩
          match i, hi with
          | 0, _ => exact h0
          | 1, _ => exact h1
          | 2, _ => exact h2
      · rw [if_pos h2]
        refine .inr ⟨2, by omega, fun i hi => ?_, h2, rfl⟩
        match i, hi with
        | 0, _ => exact h0
        | 1, _ => exact h1
    · rw [if_pos h1]
      refine .inr ⟨1, by omega, fun i hi => ?_, h1, rfl⟩
      match i, hi with
      | 0, _ => exact h0
  · rw [if_pos h0]
    exact .inr ⟨0, by omega, fun i hi => by omega, h0, rfl⟩
end Go.Proofs.Ytagfaaciakbnbaa
