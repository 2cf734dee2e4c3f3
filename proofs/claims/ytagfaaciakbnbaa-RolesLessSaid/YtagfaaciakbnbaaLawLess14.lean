/-
  RolesLess: a port that goes down, and was not the root port, changes no other one's role; one that hears nothing any more is designated. No condition.
-/
import Derived.Test.YtagfaaciakbnbaaUpd14
namespace Go.Proofs.Ytagfaaciakbnbaa.rolesLess
open Go.ChangeShapes Go.WideShapes Go.ChangeAt Go.RowKit Go.Deep Go.Sort

set_option maxHeartbeats 4000000 in
set_option maxRecDepth 100000 in
theorem walk (b : Nat) (ao : Option Addr) (n cap : Nat) (S : Nat → Vw) (port : Int) (w : World) (hb : b < 18446744073709551616) (h : VwsIn w ao n cap S) (hnil : ao = none → cap = 0) (_hp : I64 port) :
    Calls Try.prog 5 #[.int .u64 (b : Int), .slice ao n cap, .int .i64 port] w fun e w' => e = .returned (.bool true) ∧ Below w.heap.size w w' := by
  obtain ⟨m, ax, hm16, hmn, dm, ds, hs, hxn⟩ := first16 h
  have hcm : cap ≤ maxLen := h.2.1
  have hnc := h.1
  have hmc := hs.1
  unfold maxLen at hcm
  have hzc : ax = none → cap = 0 := fun q => hnil (hxn q)
  have HV := hide hs
  have HZ := hide hzc
  have HBB := hide hb
  have CF := hide fixed_any
  have CA := hide (fun (W : World) (ax' : Option Addr) (c' : Nat) (S' : Nat → Vw) (hv : VwsIn W ax' m c' S') => rall_any b ax' m c' S' W hb (by omega) hv)
  clear h hb hs hxn hnil hzc
  by_cases hm0 : m = 0
  · subst hm0
    have CA0 := hide (unhide CA w ao cap S ⟨Nat.zero_le _, by unfold maxLen; omega, .inl rfl⟩)
    clear HV HZ CA
    go_enter Try.func5, Try.ntmps5
    go_wp2_with fail
    refine (unhide CA0).mono ?_
    rintro e w1 ⟨⟨v1, rfl, g1, c1, rfl, n1⟩, b1⟩
    have HB1 := hide b1
    clear b1 n1
    go_wp2_with fail
    refine (unhide CF _).mono ?_
    rintro e w2 ⟨rfl, b2⟩
    have HB2 := hide (bthen (unhide HB1) b2)
    clear b2 HB1
    go_wp2_with fail
    go_ret
    exact ⟨rfl, unhide HB2⟩
  · have hmI : ¬ (m : Int) = 0 := by omega
    have em : ((m : Int) == 0) = false := beq_eq_false_iff_ne.2 hmI
    obtain ⟨k, hkm, hk⟩ := draw_port port (show 0 < m by omega)
    have hand := i64_and_16bits port
    go_enter Try.func5, Try.ntmps5
    have hfS : Hid (∀ i, i < m → (S i).fits) := fun i hi => (unhide HV).fits i hi
    have hlen := (unhide HV).len
    have hdn := less_down (unhide HBB) (unhide hfS) hlen hkm
    have hdf := less_deaf (b := b) (S := S) (n := m) (k := k)
    have HDN := hide hdn
    have HDF := hide hdf
    clear hdn hdf hlen
    go_wp2_with fail
    refine (unhide CA _ _ _ _ (unhide HV)).mono ?_
    rintro e w1 ⟨⟨v1, rfl, hn1⟩, b1⟩
    have HB1 := hide b1
    have HN1 := hide hn1.at_
    have HV1 := hide ((unhide HV).below b1)
    clear b1 hn1
    go_upto_region 7 with (first | (at_builtin; refine wp_copy rfl (.tmp 37) (.tmp 38) rfl w1 ax m cap S rfl rfl (unhide HV1) (unhide HZ) (by omega) ?_; intro g0 c0 w2 H2))
    obtain ⟨g1, c1, rfl, hn1, hc1, hr1⟩ := unhide HN1
    have HR1 := hide hr1
    have hx0 : w2.cell? ⟨g0, k * 8, none⟩ = some (.bool (S k).up) := (unhide H2).1.cell hkm (t := 0) (by omega)
    have hf0 := (unhide H2).1.frozen (k * 8)
    have ho3 : VwOwn w1.heap.size (w2.setCell ⟨g0, k * 8, none⟩ (.bool false)) g0 m c0 (upd S k (S k).down) := ((unhide H2).1.self k).set (t := 0) hkm (by omega) rfl
    have hb3 := (unhide H2).2.setCell (p := ⟨g0, k * 8, none⟩) (unhide H2).1.lt.1 (.bool false)
    have HO3 := hide ho3
    have HB3 := hide hb3
    have hkI : (k : Int) < (m : Int) := by omega
    have hc0 := (((unhide H2).1.views (unhide hfS)).1)
    clear hr1 HN1 H2 ho3 hb3 HV1
    go_upto_region 8 with fail
    clear hx0 hf0
    generalize w2.setCell ⟨g0, k * 8, none⟩ (.bool false) = w3 at *
    have hv3 := (unhide HO3).views (upd_fits (k := k) (unhide hfS) (down_fits (unhide hfS k hkm)))
    go_wp2_with fail
    refine (unhide CA _ _ _ _ hv3).mono ?_
    rintro e w4 ⟨⟨v4, rfl, hn4⟩, b4⟩
    obtain ⟨g4, c4, rfl, hn4, hc4, hr4⟩ := hn4.at_
    have HR4 := hide hr4
    have HO4 := hide ((unhide HO3).below b4)
    have HB4 := hide (bthen (unhide HB3) b4)
    have HR14 : Hid (∀ i, i < m → w4.cell? ⟨g1, i, none⟩ = some (.int .i64 (roleF b S m i))) := fun i hi => ((unhide HB4).cell (p := ⟨g1, i, none⟩) (block_lt_of_cell (unhide HR1 i hi))).trans (unhide HR1 i hi)
    clear hr4 b4 hv3 HO3 HB3 HR1
    go_wp2_with fail
    go_loopw [11] (fun a wr => ∃ i : Nat, a = .int .i64 i ∧ i ≤ m ∧ Below w4.heap.size w4 wr) (fun a _ => (m - intOf a).toNat)
    case atStart => exact ⟨0, rfl, Nat.zero_le _, Below.refl _ _⟩
    case round =>
      obtain ⟨i, rfl, hin, hbl⟩ := hrel
      have HB5 := hide hbl
      clear hbl
      by_cases hlt : i < m
      · have hiI : (i : Int) < (m : Int) := by omega
        have rd : ∀ {g j : Nat} {x : Value}, w4.cell? ⟨g, j, none⟩ = some x → wr.cell? ⟨g, j, none⟩ = some x := fun {g j x} q => ((unhide HB5).cell (p := ⟨g, j, none⟩) (block_lt_of_cell q)).trans q
        have x1 := rd (unhide HR14 k hkm)
        have x2 := rd (unhide HR4 i hlt)
        have x3 := rd (unhide HR14 i hlt)
        clear rd
        by_cases hik : i = k
        · subst hik
          rw [(unhide HDN).1] at x2
          go_upto_region 14 with fail
          have y1 := cell_regrown x1
          have y2 := cell_regrown x2
          have y3 := cell_regrown x3
          clear x1 x2 x3
          refine wp_region_quiet_below (by kernel_rfl) (by kernel_rfl) ?_
          repeat (go_big_quiet_step (fail))
          refine wpQuiet_nil ?_
          rintro _ ⟨⟨dq, osq⟩, rfl⟩
          have HB6 := hide (grown_then (unhide HB5) dq osq)
          clear y1 y2 y3
          go_wp2_with fail
          go_roundw
          case rel => exact ⟨i + 1, by go_num, by omega, unhide HB6⟩
          case measure => simp [intOf]; omega
        · have hikI : ¬ (i : Int) = (k : Int) := by omega
          by_cases h4 : roleF b S m k = 4
          · rw [h4] at x1
            go_upto_region 14 with fail
            have di : decide ((i : Int) = (k : Int)) = false := decide_eq_false hikI
            have di2 : ((i : Int) == (k : Int)) = false := beq_eq_false_iff_ne.2 hikI
            have di3 : (!decide ((i : Int) = (k : Int))) = true := by rw [di]; rfl
            have di4 : decide (¬ (i : Int) = (k : Int)) = true := decide_eq_true hikI
            have di5 : ((i : Int) != (k : Int)) = true := bne_iff_ne.2 hikI
            have y1 := cell_regrown x1
            have y2 := cell_regrown x2
            have y3 := cell_regrown x3
            clear x1 x2 x3
            refine wp_region_quiet_below (by kernel_rfl) (by kernel_rfl) ?_
            repeat (go_big_quiet_step (fail))
            refine wpQuiet_nil ?_
            rintro _ ⟨⟨dq, osq⟩, rfl⟩
            have HB6 := hide (grown_then (unhide HB5) dq osq)
            clear y1 y2 y3
            go_wp2_with fail
            go_roundw
            case rel => exact ⟨i + 1, by go_num, by omega, unhide HB6⟩
            case measure => simp [intOf]; omega
          · rw [(unhide HDN).2 h4 i hik] at x2
            generalize roleF b S m k = q at *
            generalize roleF b S m i = r at *
            go_upto_region 14 with fail
            have di : decide ((i : Int) = (k : Int)) = false := decide_eq_false hikI
            have di2 : ((i : Int) == (k : Int)) = false := beq_eq_false_iff_ne.2 hikI
            have di3 : (!decide ((i : Int) = (k : Int))) = true := by rw [di]; rfl
            have di4 : decide (¬ (i : Int) = (k : Int)) = true := decide_eq_true hikI
            have di5 : ((i : Int) != (k : Int)) = true := bne_iff_ne.2 hikI
            have dq4 : decide (q = 4) = false := decide_eq_false h4
            have dq5 : (q == 4) = false := beq_eq_false_iff_ne.2 h4
            have dq6 : (!decide (q = 4)) = true := by rw [dq4]; rfl
            have dq7 : decide (¬ q = 4) = true := decide_eq_true h4
            have dq8 : (q != 4) = true := bne_iff_ne.2 h4
            have y1 := cell_regrown x1
            have y2 := cell_regrown x2
            have y3 := cell_regrown x3
            clear x1 x2 x3
            refine wp_region_quiet_below (by kernel_rfl) (by kernel_rfl) ?_
            repeat (go_big_quiet_step (fail))
            refine wpQuiet_nil ?_
            rintro _ ⟨⟨dq, osq⟩, rfl⟩
            have HB6 := hide (grown_then (unhide HB5) dq osq)
            clear y1 y2 y3
            go_wp2_with fail
            go_roundw
            case rel => exact ⟨i + 1, by go_num, by omega, unhide HB6⟩
            case measure => simp [intOf]; omega
      · obtain rfl : i = m := by omega
        have ho5 := (unhide HO4).below (unhide HB5)
        have HO5 := hide ho5
        have hb5 := bthen (unhide HB4) (unhide HB5)
        have hx0 : wr.cell? ⟨g0, k * 8, none⟩ = some (.bool false) := by
          have := ho5.cell hkm (t := 0) (by omega)
          rw [upd_same] at this
          exact this
        have hf0 := ho5.frozen (k * 8)
        have ho6 : VwOwn w1.heap.size (wr.setCell ⟨g0, k * 8, none⟩ (.bool true)) g0 i c0 (upd S k ⟨true, (S k).cost, (S k).told, (S k).v⟩) := ho5.set (t := 0) hkm (by omega) rfl
        have hb6 := hb5.setCell (p := ⟨g0, k * 8, none⟩) ho5.lt.1 (.bool true)
        have hx2 : (wr.setCell ⟨g0, k * 8, none⟩ (.bool true)).cell? ⟨g0, k * 8 + 2, none⟩ = some (.bool (S k).told) := by
          have := ho6.cell hkm (t := 2) (by omega)
          rw [upd_same] at this
          exact this
        have hf2 := ho6.frozen (k * 8 + 2)
        have ho7 : VwOwn w1.heap.size ((wr.setCell ⟨g0, k * 8, none⟩ (.bool true)).setCell ⟨g0, k * 8 + 2, none⟩ (.bool false)) g0 i c0 (upd S k (S k).deaf) := ho6.set (t := 2) hkm (by omega) rfl
        have hb7 := hb6.setCell (p := ⟨g0, k * 8 + 2, none⟩) ho5.lt.1 (.bool false)
        have HO7 := hide ho7
        have HB7 := hide (bthen (unhide HB1) hb7)
        clear ho5 hb5 ho6 hb6 ho7 hb7 HO4 HB4 HO5 HB5 HB1
        go_upto_region 18 with fail
        clear hx0 hf0 hx2 hf2
        generalize (wr.setCell ⟨g0, k * 8, none⟩ (.bool true)).setCell ⟨g0, k * 8 + 2, none⟩ (.bool false) = w7 at *
        have hv7 := (unhide HO7).views (upd_fits (k := k) (unhide hfS) (deaf_fits (unhide hfS k hkm)))
        go_wp2_with fail
        refine (unhide CA _ _ _ _ hv7).mono ?_
        rintro e w8 ⟨⟨v8, rfl, hn8⟩, b8⟩
        obtain ⟨g8, c8, rfl, hn8, hc8, hr8⟩ := hn8.at_
        have x8 := hr8 k hkm
        rw [unhide HDF] at x8
        have HB8 := hide (bthen (unhide HB7) b8)
        clear hr8 b8 hv7 HB7
        go_wp2_with fail
        refine (unhide CF _).mono ?_
        rintro e w9 ⟨rfl, b9⟩
        have HB9 := hide (bthen (unhide HB8) b9)
        clear b9
        go_wp2_with fail
        go_ret
        exact ⟨rfl, unhide HB9⟩
set_option maxRecDepth 100000 in
theorem lifted (os : Os) (started : os.Started) (H : Type) (enc : TypeId × Value → H) :
    ReturnsInHanded {} Try.checked os 5 .any (Rows.rolesLessSpec.pre6 enc Try.prog Try.f5 Rows.rolesLessRow.domain false) (Rows.rolesLessSpec.post enc Try.prog Try.f5 false true false false) := by
  refine returnsInHanded_of_change (C := Try.checked) own started (by kernel_rfl) Try.func5
    (ChangeSpec.witness6 (enc := enc) (C := Try.checked) false ⟨#[], #[.int .u64 0, .slice none 0 0, .int .i64 0], []⟩ 8 (by kernel_rfl) (by kernel_rfl) (by kernel_rfl) (by kernel_rfl)) ?_
  intro W base args ds gs before hval0 hW _ _
  have hval : ∀ (j : Nat) t v, Try.f5.params[j]? = some t → args[j]? = some v → Value.okWide Try.prog W .any base t v := hval0
  have hW' := hW
  obtain ⟨p, q, hA0, hV, rfl, hfz, hnd⟩ := hW
  have hA : DataW.TrodAll enc Try.prog W 0 (fun _ => true) true Try.f5.params.toList args.toList ds p := hA0
  rw [Try.params5] at hA hval
  obtain ⟨v0, v1, v2, d0, d1, d2, p0, p1, p2, rfl, rfl, rfl, h0, h1, h2⟩ := trodAll_three hA
  obtain ⟨a0, rfl, rfl, rfl, w0⟩ := open_int Try.underlying22 (hval 0 22 v0 rfl rfl) h0
  have q0 := bnd_u64 w0
  obtain ⟨z0, rfl⟩ : ∃ m : Nat, a0 = m := ⟨a0.toNat, by omega⟩
  have y1 : ∀ x ∈ p1, x.block < W.heap.size := fun x hx => hW'.lt x (by simp [hx])
  obtain ⟨ao1, n1, cap1, S1, rfl, hs1, hz1⟩ := open_views (hval 1 23 v1 rfl rfl) h1
  obtain ⟨a2, rfl, rfl, rfl, w2⟩ := open_int Try.underlying3 (hval 2 3 v2 rfl rfl) h2
  obtain ⟨rfl, rfl⟩ := trodVars_none hV
  have e1 : Rows.rolesLessSpec.fn H ([.lit (.int .u64 (z0 : Int)), d1, .lit (.int .i64 a2)] ++ []) = { results := [.lit (.bool true)], args := [.lit (.int .u64 (z0 : Int)), d1, .lit (.int .i64 a2)] } := by simp [Rows.rolesLessSpec]
  refine (walk z0 ao1 n1 cap1 S1 a2 W (by omega) hs1 hz1 (bnd_i64 w2)).mono fun e W' ⟨he, hb⟩ => ?_
  subst he
  refine ⟨_, rfl, _, _, _, [], [] ++ (p1 ++ []), [], hW', ?_, ?_, ?_, hb.frame _, fun h => by cases h⟩
  · rw [e1]; exact trodAll_mk1 (shut_bool Try.underlying4 true)
  · rw [e1]; exact trodAll_mk3 (shut_int Try.underlying22 w0) (stay_views h1 y1 hb) (shut_int Try.underlying3 w2)
  · rw [e1]; rfl
theorem said : Rows.RolesLessSaid :=
  OpenClaim.holds_of_wide 5 Try.f5 rfl rfl rfl rfl rfl rfl rfl ⟨rfl, rfl, rfl, rfl, rfl⟩ rfl rfl rfl rfl rfl (by kernel_rfl) Try.func5 (by kernel_rfl)
    (of_decide_eq_true (by kernel_rfl)) (by unfold Func.isWrapper; rw [if_neg (of_decide_eq_false (by kernel_rfl))]; exact ⟨rfl, rfl⟩)
    (fun os started H enc _ => lifted os started H enc)
end Go.Proofs.Ytagfaaciakbnbaa.rolesLess
namespace Go.Proofs.Ytagfaaciakbnbaa
theorem rolesLess_holds : Rows.RolesLessSaid := rolesLess.said
end Go.Proofs.Ytagfaaciakbnbaa
