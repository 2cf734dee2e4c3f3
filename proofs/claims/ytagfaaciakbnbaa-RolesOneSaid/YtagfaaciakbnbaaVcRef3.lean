/-
  The contract of gangwayref13's Best: the document's answer to which one is the best.
-/
import Derived.Test.YtagfaaciakbnbaaVcRef2
namespace Go.Proofs.Ytagfaaciakbnbaa
open Go.RowKit Go.Sort

theorem best_none (S : Nat → Vc) : bestF S 0 = -1 := rfl
set_option maxHeartbeats 2000000 in
set_option maxRecDepth 100000 in
theorem wbest_any (ao : Option Addr) (n cap : Nat) (S : Nat → Vc) (w : World) (h : VcsIn w ao n cap S) :
    Calls Try.prog 21 #[.slice ao n cap] w fun e w' => e = .returned (.int .i64 (bestF S n)) ∧ Below w.heap.size w w' := by
  have hnc : n ≤ cap := h.1
  have hcm : cap ≤ maxLen := h.2.1
  unfold maxLen at hcm
  by_cases h0 : n = 0
  · subst h0
    rw [best_none]
    clear h
    go_enter Try.func21, Try.ntmps21
    go_wp2_with fail
    refine wp_loop_rounds 1 ?_
    rw [rounds_succ]
    go_wp2_with fail
    go_ret
    exact ⟨rfl, Below.refl _ _⟩
  · obtain ⟨k, hk, hkn, hle, hlt⟩ := best_is (fun i hi => h.fits i hi) (by omega : 0 < n)
    rw [hk]
    obtain ⟨b, o, rfl, hS⟩ := h.2.2.resolve_left h0
    have HS := hide hS
    have HL := hide hle
    have HT := hide hlt
    clear h hk hS hle hlt h0
    go_enter Try.func21, Try.ntmps21
    go_wp2_with fail
    go_loopw [3] (fun a wr => ∃ i : Nat, a = .int .i64 i ∧ i ≤ k ∧ Below w.heap.size w wr) (fun a _ => (n - intOf a).toNat)
    case atStart => exact ⟨0, rfl, Nat.zero_le _, Below.refl _ _⟩
    case round =>
      obtain ⟨i, rfl, hik, hb⟩ := hrel
      generalize wr = wo at *
      have HB := hide hb
      have hin : i < n := by omega
      have hiI : (i : Int) < (n : Int) := by omega
      clear hb
      go_wp2_with fail
      go_loopw [4, 5] (fun x y wr => ∃ (m : Nat) (t : Bool), x = .bool t ∧ y = .int .i64 m ∧ m ≤ n ∧ (t = true ↔ ∀ j, j < m → (S i).key ≤ (S j).key) ∧ Below w.heap.size w wr) (fun _ y _ => (n - intOf y).toNat)
      case atStart => exact ⟨0, true, rfl, rfl, Nat.zero_le _, by simp, unhide HB⟩
      case round =>
        obtain ⟨m, t, rfl, rfl, hmn, ht, hb⟩ := hrel
        have HB2 := hide hb
        have HQ := hide ht
        clear hb ht HB
        by_cases hm : m < n
        · have hmI : (m : Int) < (n : Int) := by omega
          cases t with
          | false =>
            have HQ2 : Hid (false = true ↔ ∀ j, j < m + 1 → (S i).key ≤ (S j).key) := ⟨fun q => by (cases q), fun q => (unhide HQ).2 fun j hj => q j (by omega)⟩
            go_wp2_with fail
            go_quiet (fail)
            go_wp2_with fail
            go_roundw
            case rel => exact ⟨m + 1, false, rfl, by go_num, by omega, unhide HQ2, below_drewN (unhide HB2) _⟩
            case measure => simp [intOf]; omega
          | true =>
            obtain ⟨hci, hfi⟩ := unhide HS i hin
            obtain ⟨hcm', hfm⟩ := unhide HS m hm
            have k' := (hci.below (unhide HB2))
            have l' := (hcm'.below (unhide HB2))
            have k0 := cell_regrown k'.1
            have k1 := cell_regrown k'.2.1
            have k2 := cell_regrown k'.2.2.1
            have k3 := cell_regrown k'.2.2.2.1
            have k4 := cell_regrown k'.2.2.2.2
            have l0 := cell_regrown l'.1
            have l1 := cell_regrown l'.2.1
            have l2 := cell_regrown l'.2.2.1
            have l3 := cell_regrown l'.2.2.2.1
            have l4 := cell_regrown l'.2.2.2.2
            have CC2 := at_grown (fun W' => wcmp_any (S i) (S m) W') wr
            have hcc := cmp_cases hfi hfm
            have HQ2 : Hid (decide ((S i).cmp (S m) ≤ 0) = true ↔ ∀ j, j < m + 1 → (S i).key ≤ (S j).key) := by
              rw [decide_eq_true_iff]
              constructor
              · intro q j hj
                by_cases e : j = m
                · subst e; omega
                · exact (unhide HQ).1 rfl j (by omega)
              · intro q
                have := q m (by omega)
                omega
            unfold Vc.val at CC2
            clear k' l' hci hcm' hfi hfm hcc
            obtain ⟨c, hc⟩ : ∃ c, (S i).cmp (S m) = c := ⟨_, rfl⟩
            rw [hc] at CC2 HQ2
            clear hc
            obtain ⟨⟨ra, ca, da, pa, oa⟩, ha⟩ : ∃ a, S i = a := ⟨_, rfl⟩
            obtain ⟨⟨rb, cb, db, pb, ob⟩, hb'⟩ : ∃ a, S m = a := ⟨_, rfl⟩
            rw [ha] at k0 k1 k2 k3 k4 CC2
            rw [hb'] at l0 l1 l2 l3 l4 CC2
            clear ha hb'
            simp only at k0 k1 k2 k3 k4 l0 l1 l2 l3 l4 CC2
            go_wp2_with fail
            refine wp_region_quiet_below (by kernel_rfl) (by kernel_rfl) ?_
            repeat (go_big_quiet_step (first | (go_at_call 18; exact CC2 _ _)))
            refine wpQuiet_nil ?_
            rintro _ ⟨⟨dq, osq⟩, rfl⟩
            have HB3 := hide (grown_then (unhide HB2) dq osq)
            clear k0 k1 k2 k3 k4 l0 l1 l2 l3 l4 CC2
            go_wp2_with fail
            go_roundw
            case rel => exact ⟨m + 1, _, rfl, by go_num, by omega, unhide HQ2, unhide HB3⟩
            case measure => simp [intOf]; omega
        · obtain rfl : m = n := by omega
          by_cases he : i = k
          · obtain rfl : t = true := (unhide HQ).2 fun j hj => by rw [he]; exact unhide HL j hj
            subst he
            clear HQ HL HT
            go_wp2_with fail
            go_ret
            exact ⟨rfl, unhide HB2⟩
          · obtain rfl : t = false := by
              cases t with
              | false => rfl
              | true =>
                have h1 := (unhide HQ).1 rfl k hkn
                have h2 := unhide HT i (by omega)
                omega
            clear HQ HL HT
            go_wp2_with fail
            go_roundw
            case rel => exact ⟨i + 1, by go_num, by omega, unhide HB2⟩
            case measure => simp [intOf]; omega
end Go.Proofs.Ytagfaaciakbnbaa
