/-
  The contract of gangwayref12's Expire: a list of all that stay.
-/
import Derived.Test.YtljhgehlaehgnaaGreatDoorRef12b
namespace Go.Proofs.YtljhgehlaehgnaaGreatDoor
open Go.RowKit Go.Sort

set_option maxHeartbeats 2000000 in
set_option maxRecDepth 100000 in
theorem hexpire_at (B : Nat) (M : List Hd) (v : Value) (g : Nat) (room life now d : Int) (w : World) (T : HTab B w g room life v M) (hd : d = (M.length : Int) - ((keptH life now M).length : Int)) :
    Calls Tryz.prog 25 #[.pointer (some ⟨g, 0, none⟩), .int .i64 now] w fun e w' => e = .returned (.int .i64 d) ∧ HTurned B g room life v (keptH life now M) w w' := by
  have fin := hide (fun W V (h : HAcc w W V (keptH life now M)) => hturned_new T h.2 h.1 (keptH_uniq T.uniq) (keptH_oks T.oks) (by have := T.fit; have := keptH_len life now M; omega))
  have CT := hide (fun W => htime_any now W)
  have LI := hide (And.intro T.life1 T.life2)
  obtain ⟨ao, cap, rfl, hc, hrr⟩ := T.own.hrow
  have hgl := T.lt
  have hl := T.len
  have HR := hide hrr
  have hcx := hide T.cells
  have hfz := hide (fun W (b : Below w.heap.size w W) => (cells3 (Below.row b T.row)).2.2.2.1)
  have A0 := hide (hacc_new (Below.refl w.heap.size w))
  have KT := hide (fun k h => keptH_take (life := life) (now := now) (M := M) (k := k) h)
  have HD := hide hd
  have HOK := hide T.oks
  clear T hrr hd
  go_enter Tryz.func25, Tryz.ntmps25
  go_wp2_with fail
  go_loopw [5, 6] (fun V a wr => ∃ (k r c m : Nat), a = .int .i64 k ∧ k ≤ M.length ∧ V = .slice (some ⟨r, 0, none⟩) m c ∧ Hid ((keptH life now (M.take k)).length = m ∧ HAcc w wr (.slice (some ⟨r, 0, none⟩) m c) (keptH life now (M.take k)))) (fun _ a _ => M.length - (intOf a).toNat)
  case atStart => exact ⟨0, _, 0, 0, rfl, Nat.zero_le _, rfl, hide ⟨by simp [keptH], by simpa [keptH] using unhide A0⟩⟩
  case round =>
    obtain ⟨k, r, c, m, rfl, hkl, rfl, hacc⟩ := hrel
    have hb := (unhide hacc).2.2
    have hc0 := (hb.cell (p := ⟨g, 0, none⟩) hgl).trans (unhide hcx).1
    have hc2 := (hb.cell (p := ⟨g, 2, none⟩) hgl).trans (unhide hcx).2.2
    by_cases hlt : k < M.length
    · obtain ⟨ra, rfl, hra, hpr⟩ := ((unhide HR).below hb).2 (by omega)
      have e3 := hpr.at3 k hlt
      have HT := hide (unhide KT k hlt)
      have HE := hide (unhide HOK _ (List.getElem_mem hlt))
      have hm : m ≤ 4096 := by
        have h1 := (unhide hacc).1
        have h2 := keptH_len life now (M.take k)
        have h3 : (M.take k).length = k := by rw [List.length_take]; omega
        omega
      have HB := hide hb
      have RB := hide (fun W (b : Below wr.heap.size wr W) (ra' : Nat) (_ : ra' = ra) => (show ∃ r, (some ⟨ra, 0, none⟩ : Option Addr) = some ⟨r, 0, none⟩ ∧ r < W.heap.size ∧ HProw W r M from ((unhide HR).below (bthen (unhide HB) b)).2 (by omega)))
      have CB := hide (fun W (b : Below wr.heap.size wr W) => (b.cell (p := ⟨g, 0, none⟩) (block_lt_of_cell hc0)).trans hc0)
      clear hb A0 hpr
      have TI := unhide CT wr
      have C : ∀ W, Calls Tryz.prog 35 #[.int .i64 now] W fun e w' => e = .returned (.bool (timeB now)) ∧ w' = W := unhide CT
      clear TI
      cases ht : timeB now with
      | false =>
        have HT2 := hide ((unhide HT).trans (if_neg (by simp [oldH, ht])))
        rw [ht] at C
        clear HT ht e3
        go_wp2_with fail
        go_quiet ((go_at_call 35; exact Calls.quiet_of_same (C _)))
        have bq := drewN_below (Below.refl wr.heap.size wr) nq
        generalize wr.drewN nq = wq at *
        have c00 := unhide CB wq bq
        obtain ⟨r', er, hra', hpr'⟩ := unhide RB wq bq ra rfl
        obtain rfl : ra = r' := by simpa using er
        have e0 := hpr'.at0 k hlt
        have e1 := hpr'.at1 k hlt
        have e2 := hpr'.at2 k hlt
        have e3 := hpr'.at3 k hlt
        have hac := hide ((unhide hacc).2.below bq)
        clear hpr' bq C hc0 hc2 hra
        generalize M[k] = E at e0 e1 e2 e3 HT2 HE
        go_wp2_with (at_builtin; refine hp_app rfl (.tmp 38) (.tmp 46) rfl w wq _ m _ E (unhide hacc).1 rfl (unhide hac) rfl hm ?_; intro r3 c3 W3 H3)
        go_roundw
        case rel => exact ⟨k + 1, r3, c3, m + 1, by go_num, by omega, rfl, by rw [unhide HT2]; exact hide ⟨by rw [List.length_append, (unhide hacc).1]; rfl, unhide H3⟩⟩
        case measure => simp [intOf]; omega
      | true =>
        rw [ht] at C
        have hat : 0 ≤ (M[k]).at_ ∧ (M[k]).at_ ≤ 1099511627776 := (unhide HE).2.2.2
        have hlf := unhide LI
        have hw : IntKind.i64.wrap ((M[k]).at_ + life) = (M[k]).at_ + life := by rw [IntKind.wrap_i64]; omega
        by_cases ho : (M[k]).at_ + life ≤ now
        · have HT2 := hide ((unhide HT).trans (if_pos (by simp [oldH, ht, ho])))
          have hd : decide (now < (M[k]).at_ + life) = false := decide_eq_false (by omega)
          clear HT ht
          generalize (M[k]).at_ = at_ at *
          go_wp2_with fail
          go_quiet ((go_at_call 35; exact Calls.quiet_of_same (C _)))
          have bq := hide (drewN_below (Below.refl wr.heap.size wr) nq)
          generalize wr.drewN nq = wq at *
          go_wp2_with fail
          go_roundw
          case rel => exact ⟨k + 1, r, c, m, by go_num, by omega, rfl, by rw [unhide HT2]; exact hide ⟨(unhide hacc).1, (unhide hacc).2.below (unhide bq)⟩⟩
          case measure => simp [intOf]; omega
        · have HT2 := hide ((unhide HT).trans (if_neg (by simp [oldH, ht]; omega)))
          have hd : decide (now < (M[k]).at_ + life) = true := decide_eq_true (by omega)
          have ho2 := hide ho
          clear HT ht ho
          generalize hag : (M[k]).at_ = at_ at e3 hat hw hd
          go_wp2_with fail
          go_quiet ((go_at_call 35; exact Calls.quiet_of_same (C _)))
          have bq := drewN_below (Below.refl wr.heap.size wr) nq
          generalize wr.drewN nq = wq at *
          have c00 := unhide CB wq bq
          obtain ⟨r', er, hra', hpr'⟩ := unhide RB wq bq ra rfl
          obtain rfl : ra = r' := by simpa using er
          have e0 := hpr'.at0 k hlt
          have e1 := hpr'.at1 k hlt
          have e2 := hpr'.at2 k hlt
          have e4 := hpr'.at3 k hlt
          have hac := hide ((unhide hacc).2.below bq)
          clear hpr' bq C hc0 hc2 hra hd hw hat hag ho2 e3
          generalize M[k] = E at e0 e1 e2 e4 HT2 HE
          go_wp2_with (at_builtin; refine hp_app rfl (.tmp 38) (.tmp 46) rfl w wq _ m _ E (unhide hacc).1 rfl (unhide hac) rfl hm ?_; intro r3 c3 W3 H3)
          go_roundw
          case rel => exact ⟨k + 1, r3, c3, m + 1, by go_num, by omega, rfl, by rw [unhide HT2]; exact hide ⟨by rw [List.length_append, (unhide hacc).1]; rfl, unhide H3⟩⟩
          case measure => simp [intOf]; omega
    · obtain rfl : k = M.length := by omega
      have hf0 := unhide hfz wr hb
      have hk : keptH life now (M.take M.length) = keptH life now M := by rw [List.take_of_length_le (Nat.le_refl _)]
      have F := hide (unhide fin wr _ (by have h := (unhide hacc).2; rw [hk] at h; exact h))
      have hm : (keptH life now M).length = m := by have h := (unhide hacc).1; rw [hk] at h; exact h
      have hdm : d = (M.length : Int) - (m : Int) := by rw [unhide HD, hm]
      have hkm := keptH_len life now M
      have hw : IntKind.i64.wrap ((M.length : Int) - (m : Int)) = d := by rw [IntKind.wrap_i64]; omega
      clear A0 hb
      go_wp2_with fail
      go_ret
      exact ⟨by rw [hdm]; rfl, unhide F⟩
theorem hexpire_any (B : Nat) (M : List Hd) (v : Value) (g : Nat) (room life now : Int) (w : World) (T : HTab B w g room life v M) :
    Calls Tryz.prog 25 #[.pointer (some ⟨g, 0, none⟩), .int .i64 now] w fun e w' => e = .returned (.int .i64 ((M.length : Int) - ((keptH life now M).length : Int))) ∧ HTurned B g room life v (keptH life now M) w w' := hexpire_at B M v g room life now _ w T rfl
end Go.Proofs.YtljhgehlaehgnaaGreatDoor
