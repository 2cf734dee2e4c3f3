/-
  The contract of slices.BinarySearchFunc over parts by rising keys: how many stand ahead of a key, and whether the next one is the key's.
-/
import Derived.Test.YtljhgehlaehgnaaDoorAg1
namespace Go.Proofs.YtljhgehlaehgnaaDoor
open Go.RowKit Go.Sort

/-- parts in a row of their own, from a block's head on -/
structure Prow (w : World) (r : Nat) (L : List Ent) : Prop where
  at0 : ∀ j (h : j < L.length), w.cell? ⟨r, j * 4, none⟩ = some (.int .u64 (L[j]).key)
  at1 : ∀ j (h : j < L.length), w.cell? ⟨r, j * 4 + 1, none⟩ = some (.int .u64 (L[j]).val)
  at2 : ∀ j (h : j < L.length), w.cell? ⟨r, j * 4 + 2, none⟩ = some (.int .i64 (L[j]).at_)
  at3 : ∀ j (h : j < L.length), w.cell? ⟨r, j * 4 + 3, none⟩ = some (.bool (L[j]).fix)
theorem Prow.below {w w' : World} {r : Nat} {L : List Ent} (h : Prow w r L) (b : Below w.heap.size w w') : Prow w' r L := by
  by_cases h0 : 0 < L.length
  · have hr : r < w.heap.size := block_lt_of_cell (h.at0 0 h0)
    exact ⟨fun j hj => (b.cell (p := ⟨r, _, none⟩) hr).trans (h.at0 j hj), fun j hj => (b.cell (p := ⟨r, _, none⟩) hr).trans (h.at1 j hj), fun j hj => (b.cell (p := ⟨r, _, none⟩) hr).trans (h.at2 j hj), fun j hj => (b.cell (p := ⟨r, _, none⟩) hr).trans (h.at3 j hj)⟩
  · exact ⟨fun j hj => absurd hj (by omega), fun j hj => absurd hj (by omega), fun j hj => absurd hj (by omega), fun j hj => absurd hj (by omega)⟩
theorem bsf_at (L : List Ent) (r c p : Nat) (key : Int) (is : Bool) (w : World) (hr : Prow w r L) (hc : L.length ≤ 4096) (hp : p ≤ L.length)
    (h1 : ∀ j (h : j < L.length), j < p → (L[j]).key < key) (h2 : ∀ j (h : j < L.length), p ≤ j → key ≤ (L[j]).key) (h3 : is = true ↔ ∃ h : p < L.length, (L[p]).key = key) :
    Calls Tryd.prog 42 #[.slice (some ⟨r, 0, none⟩) L.length c, .int .u64 key, .func (.func 43) #[] #[]] w fun e w' => e = .returned (.tuple #[.int .i64 (p : Int), .bool is]) ∧ Below w.heap.size w w' := by
  have HR := hide hr
  have H1 := hide h1
  have H2 := hide h2
  have H3 := hide h3
  clear hr h1 h2 h3
  have C := hide (fun k v t f W => fcl_any k v t key f W)
  go_enter Tryd.func42, Tryd.ntmps42
  go_wp2_with fail
  go_loopw [9, 10] (fun a b wr => ∃ i j : Nat, a = .int .i64 i ∧ b = .int .i64 j ∧ i ≤ p ∧ p ≤ j ∧ j ≤ L.length ∧ Below w.heap.size w wr) (fun a b _ => (intOf b - intOf a).toNat)
  case atStart => exact ⟨0, L.length, rfl, rfl, Nat.zero_le _, hp, Nat.le_refl _, Below.refl _ _⟩
  case round =>
    obtain ⟨i, j, rfl, rfl, hi, hj, hjl, hb⟩ := hrel
    have HB := hide hb
    have hr1 := (unhide HR).below hb
    clear hb
    by_cases hlt : i < j
    · obtain ⟨h, hx⟩ : ∃ h, (i + j) / 2 = h := ⟨_, rfl⟩
      have hhl : h < L.length := by omega
      have hy : ((i : Int) + (j : Int)) / 2 = (h : Int) := by omega
      have e0 := hr1.at0 h hhl
      have e1 := hr1.at1 h hhl
      have e2 := hr1.at2 h hhl
      have e3 := hr1.at3 h hhl
      have q1 := fun x => unhide H1 h hhl x
      have q2 := fun x => unhide H2 h hhl x
      have C1 := hide ((unhide C) (L[h]).key (L[h]).val (L[h]).at_ (L[h]).fix)
      have hne : i ≤ h := by omega
      have hnf : h < j := by omega
      clear hr1
      generalize L[h] = E at e0 e1 e2 e3 q1 q2 C1
      by_cases hhp : h < p
      · have hc : cmpI E.key key = -1 := by rw [cmpI, if_pos (q1 hhp)]
        rw [hc] at C1
        clear q1 q2 hc
        go_wp2_with fail
        refine (unhide C1 _).mono ?_
        rintro e w2 ⟨rfl, b2⟩
        have hb2 := bthen (unhide HB) b2
        clear b2 e0 e1 e2 e3
        go_wp2_with fail
        go_roundw
        case rel => exact ⟨h + 1, j, by go_num, rfl, by omega, hj, hjl, hb2⟩
        case measure => simp [intOf]; omega
      · obtain ⟨c0, hc, hc0⟩ : ∃ c0 : Int, cmpI E.key key = c0 ∧ ¬ c0 < 0 := by
          have := q2 (by omega)
          refine ⟨_, rfl, ?_⟩
          unfold cmpI
          split
          · omega
          · split <;> omega
        rw [hc] at C1
        clear q1 q2 hc
        go_wp2_with fail
        refine (unhide C1 _).mono ?_
        rintro e w2 ⟨rfl, b2⟩
        have hb2 := bthen (unhide HB) b2
        clear b2 e0 e1 e2 e3
        go_wp2_with fail
        go_roundw
        case rel => exact ⟨i, h, rfl, by go_num, hi, by omega, by omega, hb2⟩
        case measure => simp [intOf]; omega
    · obtain rfl : i = p := by omega
      obtain rfl : i = j := by omega
      by_cases hpl : i < L.length
      · have e0 := hr1.at0 i hpl
        have e1 := hr1.at1 i hpl
        have e2 := hr1.at2 i hpl
        have e3 := hr1.at3 i hpl
        have q2 := unhide H2 i hpl (Nat.le_refl _)
        have q3 := unhide H3
        have C1 := hide ((unhide C) (L[i]).key (L[i]).val (L[i]).at_ (L[i]).fix)
        clear hr1
        obtain ⟨c0, hc, hc0⟩ : ∃ c0 : Int, cmpI (L[i]).key key = c0 ∧ (c0 == 0) = is := by
          refine ⟨_, rfl, ?_⟩
          have q4 : is = true ↔ (L[i]).key = key := q3.trans ⟨fun ⟨_, e⟩ => e, fun e => ⟨hpl, e⟩⟩
          unfold cmpI
          cases is
          · have : ¬ (L[i]).key = key := fun e => by simpa using q4.2 e
            rw [if_neg (by omega), if_pos (by omega)]; rfl
          · have := q4.1 rfl
            rw [if_neg (by omega), if_neg (by omega)]; rfl
        rw [hc] at C1
        clear q2 q3 hc
        generalize L[i] = E at e0 e1 e2 e3 C1
        go_wp2_with fail
        refine (unhide C1 _).mono ?_
        rintro e w2 ⟨rfl, b2⟩
        have hb2 := bthen (unhide HB) b2
        clear b2 e0 e1 e2 e3
        go_wp2_with fail
        go_ret2
        exact ⟨rfl, hb2⟩
      · have hi0 : is = false := by
          cases is
          · rfl
          · obtain ⟨h, _⟩ := (unhide H3).1 rfl
            exact absurd h hpl
        subst hi0
        clear hr1
        go_wp2_with fail
        go_ret2
        exact ⟨rfl, unhide HB⟩
/-- no parts -/
theorem bsf_nil (v : Value) (key : Int) (w : World) (hv : v = .slice none 0 0) :
    Calls Tryd.prog 42 #[v, .int .u64 key, .func (.func 43) #[] #[]] w fun e w' => e = .returned (.tuple #[.int .i64 0, .bool false]) ∧ Below w.heap.size w w' := by
  subst hv
  go_enter Tryd.func42, Tryd.ntmps42
  go_wp2
  refine wp_loop_rounds 1 ?_
  rw [rounds_succ]
  go_wp2
  go_ret2
  exact ⟨rfl, Below.refl _ _⟩
end Go.Proofs.YtljhgehlaehgnaaDoor
