/-
  AgesClears: what is taken out by a value: all that hold it and are not fixed, and nothing else; how many is told. No condition.
-/
import Derived.Test.YtppfhbcfmekdoaaPair10
namespace Go.Proofs.Ytppfhbcfmekdoaa.agesClears
open Go.ChangeShapes Go.WideShapes Go.ChangeAt Go.RowKit Go.Deep Go.Sort

theorem kept_twice (p : Ent → Bool) (L : List Ent) : kept p (kept p L) = kept p L := by
  unfold kept
  rw [List.filter_filter]
  congr 1
  funext e
  cases p e <;> rfl
set_option maxHeartbeats 8000000 in
set_option maxRecDepth 100000 in
theorem walk (a b : Int) (ao : Option Addr) (n cap : Nat) (S : Nat → Int × Int × Int × Int) (val : Int) (w : World) (h : OpsIn w ao n cap S) (_ : 0 ≤ val ∧ val < 18446744073709551616) :
    Calls Try.prog 7 #[.agg #[.int .i64 a, .int .i64 b], .slice ao n cap, .int .u64 val] w fun e w' => e = .returned (.bool true) ∧ Below w.heap.size w w' := by
  obtain ⟨hnc, _, hao⟩ := h
  obtain ⟨ro, hro⟩ : ∃ ro, roomOf a = ro := ⟨_, rfl⟩
  obtain ⟨li, hli⟩ : ∃ li, lifeOf b = li := ⟨_, rfl⟩
  have hr8 : ro ≤ 8 := by rw [← hro]; unfold roomOf; omega
  have b0 := alloc_below w (.cells #[.int .i64 a, .int .i64 b] 23)
  have CB := hide (begun_any a b w _ b0)
  rw [hro, hli] at CB
  have CF := hide (fun W => fixed_any W)
  have HA := hide hao
  clear b0 hao hro hli
  go_enter Try.func7, Try.ntmps7
  go_wp2_with fail
  refine (unhide CB).mono ?_
  rintro e w1 ⟨g, g2, rfl, h1, k1, b1⟩
  have H1 := hide h1
  have K1 := hide k1
  clear h1 k1 b1 CB
  go_wp2_with fail
  go_loopg [9] 40 (fun gg c wr => ∃ (i : Nat) (L M : List Ent), c = .int .i64 i ∧ i ≤ n ∧ i ≤ 40 ∧ 40 - i ≤ gg ∧ Hid (Has w g ro li L wr ∧ HasR w g2 ro li M wr ∧ L.Perm M))
  case atStart => exact ⟨0, [], [], rfl, Nat.zero_le _, Nat.zero_le _, Nat.le_refl _, hide ⟨unhide H1, unhide K1, List.Perm.refl _⟩⟩
  case round =>
    obtain ⟨i, L, M, rfl, hin, hi60, hgg, HI⟩ := hrel
    clear H1 K1
    by_cases hlt : i < n
    · by_cases hl6 : i < 40
      · obtain ⟨hh, hk2, hp⟩ := unhide HI
        obtain ⟨sb, so, rfl, hsb, hS⟩ := (unhide HA).resolve_left (by omega)
        have hc := hS i hlt
        obtain ⟨⟨kd, key, vv, now⟩, hq⟩ : ∃ q, S i = q := ⟨_, rfl⟩
        rw [hq] at hc
        simp only at hc
        have c0 := (hh.1.cell (p := ⟨sb, _, none⟩) hsb).trans hc.1
        have c1 := (hh.1.cell (p := ⟨sb, _, none⟩) hsb).trans hc.2.1
        have c2 := (hh.1.cell (p := ⟨sb, _, none⟩) hsb).trans hc.2.2.1
        have c3 := (hh.1.cell (p := ⟨sb, _, none⟩) hsb).trans hc.2.2.2.1
        have hic : i < cap := by omega
        have C1 := hide (same_any w wr g g2 ro li kd key vv now L M hh hk2 hp hc.2.2.2.2.1 hc.2.2.2.2.2)
        clear hc hq hh hk2 hp hS HI
        go_wp2_with fail
        refine (unhide C1).mono ?_
        rintro e w2 ⟨rfl, L2, M2, h2, k2, p2, _⟩
        have HI2 := hide (show Has w g ro li L2 w2 ∧ HasR w g2 ro li M2 w2 ∧ L2.Perm M2 from ⟨h2, k2, p2⟩)
        clear h2 k2 p2 C1 c0 c1 c2 c3
        go_wp2_with fail
        go_roundg (40 - (i + 1))
        case measure => omega
        case rel => exact ⟨i + 1, L2, M2, by go_num, by omega, by omega, by omega, HI2⟩
      · have hd4 : decide ((i : Int) < 40) = false := decide_eq_false (by omega)
        have Hh := hide (unhide HI).1
        have hfit := (unhide HI).1.fit
        clear HI HA
        have CE := hide (has_entries (unhide Hh))
        obtain ⟨p, hp⟩ : ∃ p, p = hasVal val := ⟨_, rfl⟩
        have HP := hide hp
        clear hp
        obtain ⟨l, hl⟩ : ∃ l, L.length = l := ⟨_, rfl⟩
        obtain ⟨m, hm⟩ : ∃ m, (kept p L).length = m := ⟨_, rfl⟩
        have HL := hide hl
        have HM := hide hm
        have hml : m ≤ l := by rw [← hl, ← hm]; exact len_kept p L
        have hl8 : l ≤ 8 := by omega
        rw [hl] at CE
        clear hl hm hfit
        go_wp2_with fail
        refine (unhide CE).mono ?_
        rintro e w4 ⟨rfl, t4, b4⟩
        have T4 := hide t4
        have CC := hide (has_clear val ((unhide Hh).below b4))
        rw [← unhide HP, unhide HL, unhide HM] at CC
        clear t4 b4 CE
        go_wp2_with fail
        refine (unhide CC).mono ?_
        rintro e w5 ⟨rfl, h5, s5⟩
        have T5 := hide (owns_keep (unhide T4) (fun k c => s5 k c _ _ (by decide) (by decide)))
        have H5 := hide h5
        have CE2 := hide (has_entries h5)
        rw [unhide HM] at CE2
        clear h5 s5 T4 CC
        go_wp2_with fail
        refine (unhide CE2).mono ?_
        rintro e w6 ⟨rfl, t6, b6⟩
        have R1 : Hid (Rrow w6 (some ⟨wr.heap.size, 0, none⟩) l L) := by
          have t := owns_below (unhide T5) b6
          obtain ⟨ao', c', e, _, r⟩ := Tells.rrow (L := L) (by rw [← unhide HL] at t; exact t)
          simp at e
          obtain ⟨rfl, _⟩ := e
          rw [unhide HL] at r
          exact r
        have R2 : Hid (Rrow w6 (some ⟨w5.heap.size, 0, none⟩) m (kept p L)) := by
          obtain ⟨ao', c', e, _, r⟩ := Tells.rrow (L := kept p L) (by rw [← unhide HM] at t6; exact t6)
          simp at e
          obtain ⟨rfl, _⟩ := e
          rw [unhide HM] at r
          exact r
        have H6 := hide ((unhide H5).below b6)
        have A0 := hide (acc_new (Below.refl w6.heap.size w6))
        generalize wr.heap.size = q1 at *
        generalize w5.heap.size = q2 at *
        clear t6 b6 T5 H5 CE2
        go_wp2_with fail
        go_loopw [13, 14] (fun V x wr2 => ∃ (k r c mm : Nat), x = .int .i64 k ∧ k ≤ l ∧ V = .slice (some ⟨r, 0, none⟩) mm c ∧ Hid ((kept p (L.take k)).length = mm ∧ Acc w6 wr2 (.slice (some ⟨r, 0, none⟩) mm c) (kept p (L.take k)))) (fun _ x _ => l - (intOf x).toNat)
        case atStart => exact ⟨0, _, 0, 0, rfl, Nat.zero_le _, rfl, hide ⟨by simp [kept], by simpa [kept] using unhide A0⟩⟩
        case round =>
          obtain ⟨k, r, c, mm, rfl, hkl, rfl, hacc⟩ := hrel
          have hb := (unhide hacc).2.2
          by_cases hltk : k < l
          · obtain ⟨ra, hra0, hra, hpr⟩ := ((unhide R1).below hb).2 (by omega)
            simp at hra0
            subst hra0
            have hkL : k < L.length := by rw [unhide HL]; exact hltk
            have e0 := hpr.at0 k hkL
            have e1 := hpr.at1 k hkL
            have e2 := hpr.at2 k hkL
            have e3 := hpr.at3 k hkL
            have HT := hide (mkept_take p hkL)
            have hmm : mm ≤ 4096 := by
              have h1 := (unhide hacc).1
              have h2 := len_kept p (L.take k)
              have h3 : (L.take k).length = k := by rw [List.length_take]; omega
              omega
            have HB := hide hb
            clear hpr hb A0
            generalize L[k] = E at e0 e1 e2 e3 HT
            by_cases hpE : p E = true
            · have HT2 := hide ((unhide HT).trans (if_pos hpE))
              have hf : E.fix = false ∧ E.val = val := by
                rw [unhide HP] at hpE; simpa [hasVal] using hpE
              have e3' := e3
              rw [hf.1] at e3'
              have e1' := e1
              rw [hf.2] at e1'
              clear HT hpE e0 e1 e2 e3
              go_wp2_with fail
              go_roundw
              case rel => exact ⟨k + 1, r, c, mm, by go_num, by omega, rfl, by rw [unhide HT2]; exact hacc⟩
              case measure => simp [intOf]; omega
            · have HT2 := hide ((unhide HT).trans (if_neg hpE))
              obtain ⟨k0, v0, a0, f0⟩ := E
              simp only at e0 e1 e2 e3
              cases f0 with
              | true =>
                clear HT hpE
                go_wp2_with (at_builtin; refine wp_app rfl (.tmp 73) (.tmp 78) rfl w6 wr (.slice (some ⟨r, 0, none⟩) mm c) mm _ ⟨k0, v0, a0, true⟩ (unhide hacc).1 rfl (unhide hacc).2 rfl hmm ?_; intro r3 c3 W3 H3)
                go_roundw
                case rel => exact ⟨k + 1, r3, c3, mm + 1, by go_num, by omega, rfl, by rw [unhide HT2]; exact hide ⟨by rw [List.length_append, (unhide hacc).1]; rfl, unhide H3⟩⟩
                case measure => simp [intOf]; omega
              | false =>
                have hv : ¬ v0 = val := fun e => hpE (by rw [unhide HP]; simp [hasVal, e])
                have hd : decide (v0 = val) = false := decide_eq_false hv
                clear HT hpE
                go_wp2_with (at_builtin; refine wp_app rfl (.tmp 73) (.tmp 78) rfl w6 wr (.slice (some ⟨r, 0, none⟩) mm c) mm _ ⟨k0, v0, a0, false⟩ (unhide hacc).1 rfl (unhide hacc).2 rfl hmm ?_; intro r3 c3 W3 H3)
                go_roundw
                case rel => exact ⟨k + 1, r3, c3, mm + 1, by go_num, by omega, rfl, by rw [unhide HT2]; exact hide ⟨by rw [List.length_append, (unhide hacc).1]; rfl, unhide H3⟩⟩
                case measure => simp [intOf]; omega
          · obtain rfl : k = l := by omega
            have hk : L.take k = L := List.take_of_length_le (by rw [unhide HL]; exact Nat.le_refl _)
            rw [hk] at hacc
            obtain rfl : mm = m := by rw [← unhide HM]; exact (unhide hacc).1.symm
            have R3 : Hid (Rrow wr (some ⟨r, 0, none⟩) mm (kept p L)) := by
              have t := (unhide hacc).2.1
              obtain ⟨ao', c', e, _, r'⟩ := Tells.rrow (L := kept p L) (by rw [← (unhide hacc).1] at t; exact t)
              simp at e
              obtain ⟨rfl, _⟩ := e
              rw [unhide HM] at r'
              exact r'
            have R4 := hide ((unhide R2).below hb)
            have H7 := hide ((unhide H6).below hb)
            have hw7 : IntKind.i64.wrap ((k : Int) - (mm : Int)) = (k : Int) - (mm : Int) := by rw [IntKind.wrap_i64]; omega
            generalize wr = w7 at *
            clear A0 hb hk hacc R1 R2 H6
            go_wp2_with fail
            go_loopw [15] (fun x wr3 => ∃ (q : Nat), x = .int .i64 q ∧ q ≤ mm ∧ Below w7.heap.size w7 wr3) (fun x _ => mm - (intOf x).toNat)
            case atStart => exact ⟨0, rfl, Nat.zero_le _, Below.refl _ _⟩
            case round =>
              obtain ⟨q, rfl, hqm, hb3⟩ := hrel
              by_cases hq : q < mm
              · obtain ⟨r1, hr10, hr1, hp1⟩ := ((unhide R4).below hb3).2 (by omega)
                obtain ⟨r2, hr20, hr2, hp2⟩ := ((unhide R3).below hb3).2 (by omega)
                simp at hr10 hr20
                subst hr10 hr20
                have hkl2 : q < (kept p L).length := by rw [unhide HM]; exact hq
                have e0 := hp1.at0 q hkl2
                have e1 := hp1.at1 q hkl2
                have e2 := hp1.at2 q hkl2
                have e3 := hp1.at3 q hkl2
                have f0 := hp2.at0 q hkl2
                have f1 := hp2.at1 q hkl2
                have f2 := hp2.at2 q hkl2
                have f3 := hp2.at3 q hkl2
                have HBL := hide hb3
                clear hp1 hp2 hb3
                generalize (kept p L)[q] = E at e0 e1 e2 e3 f0 f1 f2 f3
                have NE := fun W => differ_entry E.key E.val E.at_ E.fix W
                have hki : (q : Int) < (mm : Int) := by omega
                go_wp2_with fail
                go_quiet (fail)
                go_wp2_with fail
                go_roundw
                case rel => exact ⟨q + 1, by go_num, by omega, drewN_below (unhide HBL) _⟩
                case measure => simp [intOf]; omega
              · have CC2 := hide (has_clear val ((unhide H7).below hb3))
                rw [← unhide HP, kept_twice, Int.sub_self] at CC2
                clear hb3
                go_wp2_with fail
                refine (unhide CC2).mono ?_
                rintro e w8 ⟨rfl, h8, _⟩
                have H8 := hide h8
                clear h8 CC2
                go_wp2_with fail
                refine (unhide CF _).mono ?_
                rintro e w9 ⟨rfl, b9⟩
                have H9 := hide (bthen (unhide H8).1 b9)
                clear b9 CF
                go_wp2_with fail
                go_ret
                exact ⟨rfl, unhide H9⟩
    · have hd4 : decide ((i : Int) < (n : Int)) = false := decide_eq_false (by omega)
      have Hh := hide (unhide HI).1
      have hfit := (unhide HI).1.fit
      clear HI HA
      have CE := hide (has_entries (unhide Hh))
      obtain ⟨p, hp⟩ : ∃ p, p = hasVal val := ⟨_, rfl⟩
      have HP := hide hp
      clear hp
      obtain ⟨l, hl⟩ : ∃ l, L.length = l := ⟨_, rfl⟩
      obtain ⟨m, hm⟩ : ∃ m, (kept p L).length = m := ⟨_, rfl⟩
      have HL := hide hl
      have HM := hide hm
      have hml : m ≤ l := by rw [← hl, ← hm]; exact len_kept p L
      have hl8 : l ≤ 8 := by omega
      rw [hl] at CE
      clear hl hm hfit
      go_wp2_with fail
      refine (unhide CE).mono ?_
      rintro e w4 ⟨rfl, t4, b4⟩
      have T4 := hide t4
      have CC := hide (has_clear val ((unhide Hh).below b4))
      rw [← unhide HP, unhide HL, unhide HM] at CC
      clear t4 b4 CE
      go_wp2_with fail
      refine (unhide CC).mono ?_
      rintro e w5 ⟨rfl, h5, s5⟩
      have T5 := hide (owns_keep (unhide T4) (fun k c => s5 k c _ _ (by decide) (by decide)))
      have H5 := hide h5
      have CE2 := hide (has_entries h5)
      rw [unhide HM] at CE2
      clear h5 s5 T4 CC
      go_wp2_with fail
      refine (unhide CE2).mono ?_
      rintro e w6 ⟨rfl, t6, b6⟩
      have R1 : Hid (Rrow w6 (some ⟨wr.heap.size, 0, none⟩) l L) := by
        have t := owns_below (unhide T5) b6
        obtain ⟨ao', c', e, _, r⟩ := Tells.rrow (L := L) (by rw [← unhide HL] at t; exact t)
        simp at e
        obtain ⟨rfl, _⟩ := e
        rw [unhide HL] at r
        exact r
      have R2 : Hid (Rrow w6 (some ⟨w5.heap.size, 0, none⟩) m (kept p L)) := by
        obtain ⟨ao', c', e, _, r⟩ := Tells.rrow (L := kept p L) (by rw [← unhide HM] at t6; exact t6)
        simp at e
        obtain ⟨rfl, _⟩ := e
        rw [unhide HM] at r
        exact r
      have H6 := hide ((unhide H5).below b6)
      have A0 := hide (acc_new (Below.refl w6.heap.size w6))
      generalize wr.heap.size = q1 at *
      generalize w5.heap.size = q2 at *
      clear t6 b6 T5 H5 CE2
      go_wp2_with fail
      go_loopw [13, 14] (fun V x wr2 => ∃ (k r c mm : Nat), x = .int .i64 k ∧ k ≤ l ∧ V = .slice (some ⟨r, 0, none⟩) mm c ∧ Hid ((kept p (L.take k)).length = mm ∧ Acc w6 wr2 (.slice (some ⟨r, 0, none⟩) mm c) (kept p (L.take k)))) (fun _ x _ => l - (intOf x).toNat)
      case atStart => exact ⟨0, _, 0, 0, rfl, Nat.zero_le _, rfl, hide ⟨by simp [kept], by simpa [kept] using unhide A0⟩⟩
      case round =>
        obtain ⟨k, r, c, mm, rfl, hkl, rfl, hacc⟩ := hrel
        have hb := (unhide hacc).2.2
        by_cases hltk : k < l
        · obtain ⟨ra, hra0, hra, hpr⟩ := ((unhide R1).below hb).2 (by omega)
          simp at hra0
          subst hra0
          have hkL : k < L.length := by rw [unhide HL]; exact hltk
          have e0 := hpr.at0 k hkL
          have e1 := hpr.at1 k hkL
          have e2 := hpr.at2 k hkL
          have e3 := hpr.at3 k hkL
          have HT := hide (mkept_take p hkL)
          have hmm : mm ≤ 4096 := by
            have h1 := (unhide hacc).1
            have h2 := len_kept p (L.take k)
            have h3 : (L.take k).length = k := by rw [List.length_take]; omega
            omega
          have HB := hide hb
          clear hpr hb A0
          generalize L[k] = E at e0 e1 e2 e3 HT
          by_cases hpE : p E = true
          · have HT2 := hide ((unhide HT).trans (if_pos hpE))
            have hf : E.fix = false ∧ E.val = val := by
              rw [unhide HP] at hpE; simpa [hasVal] using hpE
            have e3' := e3
            rw [hf.1] at e3'
            have e1' := e1
            rw [hf.2] at e1'
            clear HT hpE e0 e1 e2 e3
            go_wp2_with fail
            go_roundw
            case rel => exact ⟨k + 1, r, c, mm, by go_num, by omega, rfl, by rw [unhide HT2]; exact hacc⟩
            case measure => simp [intOf]; omega
          · have HT2 := hide ((unhide HT).trans (if_neg hpE))
            obtain ⟨k0, v0, a0, f0⟩ := E
            simp only at e0 e1 e2 e3
            cases f0 with
            | true =>
              clear HT hpE
              go_wp2_with (at_builtin; refine wp_app rfl (.tmp 73) (.tmp 78) rfl w6 wr (.slice (some ⟨r, 0, none⟩) mm c) mm _ ⟨k0, v0, a0, true⟩ (unhide hacc).1 rfl (unhide hacc).2 rfl hmm ?_; intro r3 c3 W3 H3)
              go_roundw
              case rel => exact ⟨k + 1, r3, c3, mm + 1, by go_num, by omega, rfl, by rw [unhide HT2]; exact hide ⟨by rw [List.length_append, (unhide hacc).1]; rfl, unhide H3⟩⟩
              case measure => simp [intOf]; omega
            | false =>
              have hv : ¬ v0 = val := fun e => hpE (by rw [unhide HP]; simp [hasVal, e])
              have hd : decide (v0 = val) = false := decide_eq_false hv
              clear HT hpE
              go_wp2_with (at_builtin; refine wp_app rfl (.tmp 73) (.tmp 78) rfl w6 wr (.slice (some ⟨r, 0, none⟩) mm c) mm _ ⟨k0, v0, a0, false⟩ (unhide hacc).1 rfl (unhide hacc).2 rfl hmm ?_; intro r3 c3 W3 H3)
              go_roundw
              case rel => exact ⟨k + 1, r3, c3, mm + 1, by go_num, by omega, rfl, by rw [unhide HT2]; exact hide ⟨by rw [List.length_append, (unhide hacc).1]; rfl, unhide H3⟩⟩
              case measure => simp [intOf]; omega
        · obtain rfl : k = l := by omega
          have hk : L.take k = L := List.take_of_length_le (by rw [unhide HL]; exact Nat.le_refl _)
          rw [hk] at hacc
          obtain rfl : mm = m := by rw [← unhide HM]; exact (unhide hacc).1.symm
          have R3 : Hid (Rrow wr (some ⟨r, 0, none⟩) mm (kept p L)) := by
            have t := (unhide hacc).2.1
            obtain ⟨ao', c', e, _, r'⟩ := Tells.rrow (L := kept p L) (by rw [← (unhide hacc).1] at t; exact t)
            simp at e
            obtain ⟨rfl, _⟩ := e
            rw [unhide HM] at r'
            exact r'
          have R4 := hide ((unhide R2).below hb)
          have H7 := hide ((unhide H6).below hb)
          have hw7 : IntKind.i64.wrap ((k : Int) - (mm : Int)) = (k : Int) - (mm : Int) := by rw [IntKind.wrap_i64]; omega
          generalize wr = w7 at *
          clear A0 hb hk hacc R1 R2 H6
          go_wp2_with fail
          go_loopw [15] (fun x wr3 => ∃ (q : Nat), x = .int .i64 q ∧ q ≤ mm ∧ Below w7.heap.size w7 wr3) (fun x _ => mm - (intOf x).toNat)
          case atStart => exact ⟨0, rfl, Nat.zero_le _, Below.refl _ _⟩
          case round =>
            obtain ⟨q, rfl, hqm, hb3⟩ := hrel
            by_cases hq : q < mm
            · obtain ⟨r1, hr10, hr1, hp1⟩ := ((unhide R4).below hb3).2 (by omega)
              obtain ⟨r2, hr20, hr2, hp2⟩ := ((unhide R3).below hb3).2 (by omega)
              simp at hr10 hr20
              subst hr10 hr20
              have hkl2 : q < (kept p L).length := by rw [unhide HM]; exact hq
              have e0 := hp1.at0 q hkl2
              have e1 := hp1.at1 q hkl2
              have e2 := hp1.at2 q hkl2
              have e3 := hp1.at3 q hkl2
              have f0 := hp2.at0 q hkl2
              have f1 := hp2.at1 q hkl2
              have f2 := hp2.at2 q hkl2
              have f3 := hp2.at3 q hkl2
              have HBL := hide hb3
              clear hp1 hp2 hb3
              generalize (kept p L)[q] = E at e0 e1 e2 e3 f0 f1 f2 f3
              have NE := fun W => differ_entry E.key E.val E.at_ E.fix W
              have hki : (q : Int) < (mm : Int) := by omega
              go_wp2_with fail
              go_quiet (fail)
              go_wp2_with fail
              go_roundw
              case rel => exact ⟨q + 1, by go_num, by omega, drewN_below (unhide HBL) _⟩
              case measure => simp [intOf]; omega
            · have CC2 := hide (has_clear val ((unhide H7).below hb3))
              rw [← unhide HP, kept_twice, Int.sub_self] at CC2
              clear hb3
              go_wp2_with fail
              refine (unhide CC2).mono ?_
              rintro e w8 ⟨rfl, h8, _⟩
              have H8 := hide h8
              clear h8 CC2
              go_wp2_with fail
              refine (unhide CF _).mono ?_
              rintro e w9 ⟨rfl, b9⟩
              have H9 := hide (bthen (unhide H8).1 b9)
              clear b9 CF
              go_wp2_with fail
              go_ret
              exact ⟨rfl, unhide H9⟩
set_option maxRecDepth 100000 in
theorem lifted (os : Os) (started : os.Started) (H : Type) (enc : TypeId × Value → H) :
    ReturnsInHanded {} Try.checked os 7 .any (Rows.agesClearsSpec.pre6 enc Try.prog Try.f7 Rows.agesClearsRow.domain false) (Rows.agesClearsSpec.post enc Try.prog Try.f7 false true false false) := by
  refine returnsInHanded_of_change (C := Try.checked) own started (by kernel_rfl) Try.func7
    (ChangeSpec.witness6 (enc := enc) (C := Try.checked) false ⟨#[], #[.agg #[.int .i64 0, .int .i64 0], .slice none 0 0, .int .u64 0], []⟩ 8 (by kernel_rfl) (by kernel_rfl) (by kernel_rfl) (by kernel_rfl)) ?_
  intro W base args ds gs before hval0 hW _ _
  have hval : ∀ (j : Nat) t v, Try.f7.params[j]? = some t → args[j]? = some v → Value.okWide Try.prog W .any base t v := hval0
  have hW' := hW
  obtain ⟨p, q, hA0, hV, rfl, hfz, hnd⟩ := hW
  have hA : DataW.TrodAll enc Try.prog W 0 (fun _ => true) true Try.f7.params.toList args.toList ds p := hA0
  rw [Try.params7] at hA hval
  obtain ⟨v0, v1, v2, d0, d1, d2, p0, p1, p2, rfl, rfl, rfl, h0, h1, h2⟩ := trodAll_three hA
  obtain ⟨a0, c0, rfl, rfl, rfl, w0, x0⟩ := open_size (hval 0 23 v0 rfl rfl) h0
  have y1 : ∀ x ∈ p1, x.block < W.heap.size := fun x hx => hW'.lt x (by simp [hx])
  obtain ⟨ao1, n1, cap1, S1, rfl, hs1⟩ := open_ops (hval 1 24 v1 rfl rfl) h1 y1
  obtain ⟨a2, rfl, rfl, rfl, w2⟩ := open_int Try.underlying29 (hval 2 29 v2 rfl rfl) h2
  have b2 := bnd_u64 w2
  obtain ⟨rfl, rfl⟩ := trodVars_none hV
  have e1 : Rows.agesClearsSpec.fn H ([sizeD a0 c0, d1, .lit (.int .u64 a2)] ++ []) = { results := [.lit (.bool true)], args := [sizeD a0 c0, d1, .lit (.int .u64 a2)] } := by simp [Rows.agesClearsSpec]
  refine (walk a0 c0 ao1 n1 cap1 S1 a2 W hs1 b2).mono fun e W' ⟨he, hb⟩ => ?_
  subst he
  refine ⟨_, rfl, _, _, _, [], [] ++ (p1 ++ []), [], hW', ?_, ?_, ?_, hb.frame _, fun h => by cases h⟩
  · rw [e1]; exact trodAll_mk1 (shut_bool Try.underlying4 true)
  · rw [e1]; exact trodAll_mk3 (shut_size a0 c0 w0 x0) (stay h1 y1 hb) (shut_int Try.underlying29 w2)
  · rw [e1]; rfl
theorem said : Rows.AgesClearsSaid :=
  OpenClaim.holds_of_wide 7 Try.f7 rfl rfl rfl rfl rfl rfl rfl ⟨rfl, rfl, rfl, rfl, rfl⟩ rfl rfl rfl rfl rfl (by kernel_rfl) Try.func7 (by kernel_rfl)
    (of_decide_eq_true (by kernel_rfl)) (by unfold Func.isWrapper; rw [if_neg (of_decide_eq_false (by kernel_rfl))]; exact ⟨rfl, rfl⟩)
    (fun os started H enc _ => lifted os started H enc)
end Go.Proofs.Ytppfhbcfmekdoaa.agesClears
namespace Go.Proofs.Ytppfhbcfmekdoaa
theorem agesClears_holds : Rows.AgesClearsSaid := agesClears.said
end Go.Proofs.Ytppfhbcfmekdoaa
