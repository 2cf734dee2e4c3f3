/-
  RolesOne, the stage's theorem: at most one port is the root port, and none just if the bridge is its own root; its way is no worse than any that is offered; a port that heard nothing is down or designated. No condition.
-/
import Derived.Test.YtagfaaciakbnbaaUpd14
namespace Go.Proofs.Ytagfaaciakbnbaa.rolesOne
open Go.ChangeShapes Go.WideShapes Go.ChangeAt Go.RowKit Go.Deep Go.Sort

/-- how many of the first ports are the root port -/
def cnt (ou : Int) (i : Nat) : Int := if 1 ≤ ou ∧ ou ≤ (i : Int) then 1 else 0
/-- what is known of a port in a round -/
structure Port (b : Nat) (x : Vw) (u : Vc) (q : Int) (i : Nat) : Prop where
  down : x.up = false → q = 0
  deaf : x.up = true → x.told = false → q = 3
  up : x.up = true → q ≠ 0
  yes : q = 4 → cnt u.on (i + 1) = cnt u.on i + 1
  no : q ≠ 4 → cnt u.on (i + 1) = cnt u.on i
  best : offers b x = true → 0 ≤ (wayVc x ((i : Int) + 1)).cmp u
theorem port_is {b : Nat} {S : Nat → Vw} {m i : Nat} (hb : b < 18446744073709551616) (hS : ∀ j, j < m → (S j).fits) (hm : m ≤ 9223372036854775807) (hi : i < m) : Port b (S i) (rootVc b S m) (roleF b S m i) i := by
  obtain ⟨h1, h2, h3, h4⟩ := role_root b S m i
  refine ⟨fun h => h2.2 h, fun hu ht => ?_, fun hu h => ?_, fun h => ?_, fun h => ?_, fun h => ?_⟩
  · rcases h3 ht with h | h
    · rw [h2.1 h] at hu; cases hu
    · exact h
  · rw [h2.1 h] at hu; cases hu
  · have := h1.1 h
    unfold cnt
    rw [if_pos (by omega), if_neg (by omega)]
    rfl
  · have : ¬ (i : Int) + 1 = (rootVc b S m).on := fun q => h (h1.2 q)
    unfold cnt
    by_cases hc : 1 ≤ (rootVc b S m).on ∧ (rootVc b S m).on ≤ (i : Int)
    · rw [if_pos (by omega), if_pos hc]
    · rw [if_neg (by omega), if_neg hc]
  · have l := (root_least hb hS hm).2 i hi h
    have c := cmp_cases (way_fits (hS i hi) (n := (i : Int) + 1) (i64_nat (by omega))) (root_fits hb hS hm)
    omega
theorem root_own {b : Nat} {S : Nat → Vw} {m : Nat} : ((rootVc b S m).on = 0 ∧ rootVc b S m = ⟨b, 0, b, 0, 0⟩) ∨ ∃ j : Nat, j < m ∧ (rootVc b S m).on = (j : Int) + 1 := by
  rcases root_is b S m with h | ⟨i, hi, _, h⟩
  · exact .inl ⟨by rw [h]; rfl, h⟩
  · exact .inr ⟨i, hi, by rw [h]; rfl⟩
set_option maxHeartbeats 4000000 in
set_option maxRecDepth 100000 in
theorem walk (b : Nat) (ao : Option Addr) (n cap : Nat) (S : Nat → Vw) (w : World) (hb : b < 18446744073709551616) (h : VwsIn w ao n cap S) :
    Calls Try.prog 4 #[.int .u64 (b : Int), .slice ao n cap] w fun e w' => e = .returned (.bool true) ∧ Below w.heap.size w w' := by
  obtain ⟨m, ax, hm16, hmn, dm, ds, hs, hxn⟩ := first16 h
  have hcm : cap ≤ maxLen := h.2.1
  have hnc := h.1
  have hmc := hs.1
  unfold maxLen at hcm
  have HV := hide hs
  have CF := hide fixed_any
  have CR := hide (rroot_any b ax m cap S w hb hs)
  have CA := hide (fun (W : World) (hW : Below w.heap.size w W) => rall_any b ax m cap S W hb (by omega) (hs.below hW))
  have PT := hide (fun (i : Nat) (hi : i < m) => port_is (i := i) hb (fun j hj => hs.fits j hj) hs.len hi)
  have RO := hide (root_own (b := b) (S := S) (m := m))
  have CP := hide (fun (x : Vw) (W : World) => wplus_any x.v x.cost W)
  have CC := hide (fun (a c : Vc) (W : World) => wcmp_any a c W)
  obtain ⟨R, hR⟩ : ∃ R, roleF b S m = R := ⟨_, rfl⟩
  rw [hR] at CA PT
  obtain ⟨u, hu⟩ : ∃ u, rootVc b S m = u := ⟨_, rfl⟩
  rw [hu] at CR PT RO
  have R4 : Hid (∀ j : Nat, u.on = (j : Int) + 1 → R j = 4) := fun j hj => by rw [← hR]; exact (role_root b S m j).1.2 (by rw [hu]; exact hj.symm)
  clear h hb hs hxn hR hu
  obtain ⟨ru, cu, du, pu, ou⟩ := u
  unfold Vc.val at CR
  simp only at CR
  go_enter Try.func4, Try.ntmps4
  go_wp2_with fail
  refine (unhide CR).mono ?_
  rintro e w1 ⟨rfl, b1⟩
  have HB1 := hide (alloc_then (o := .cells #[.int .u64 (ru : Int), .int .i64 cu, .int .u64 (du : Int), .int .i64 pu, .int .i64 ou] 25) b1)
  have HG1 := hide (heap_alloc_new w1 (.cells #[.int .u64 (ru : Int), .int .i64 cu, .int .u64 (du : Int), .int .i64 pu, .int .i64 ou] 25))
  clear b1 CR
  go_wp2_with fail
  refine (unhide CA _ (unhide HB1)).mono ?_
  rintro e w2 ⟨⟨v2, rfl, hn2⟩, b2⟩
  obtain ⟨g2, c2, rfl, hn2, hc2, hr2⟩ := hn2.at_
  have HR2 := hide hr2
  have HB2 := hide (bthen (unhide HB1) b2)
  have HG2 := hide (Below.row b2 (unhide HG1))
  clear b2 hr2 HB1 HG1 CA
  have hou : 0 ≤ ou ∧ ou ≤ (m : Int) := by
    rcases (unhide RO) with ⟨h, _⟩ | ⟨j, hj, h⟩
    · have h' : ou = 0 := h
      omega
    · have h' : ou = (j : Int) + 1 := h
      omega
  have HOU := hide hou
  go_upto_region 4 with fail
  obtain ⟨k0, k1, k2, k3, k4, -⟩ := vcells (unhide HG2)
  have hou1 : ¬ ou < 0 := by omega
  have hou2 : ¬ (m : Int) < ou := by omega
  clear hou
  go_cut [49] (fun a wx => a = .bool false ∧ wx = w2)
  case first =>
    rcases (unhide RO) with ⟨h, h2⟩ | ⟨j, hj, h⟩
    · simp only [Vc.mk.injEq] at h2
      obtain ⟨h3, h4, h5, h6, h7⟩ := h2
      have EQ := eql_vec_at (ru : Int) cu (du : Int) pu ou (b : Int) 0 (b : Int) 0 0 true (decide_eq_true ⟨by omega, h4, by omega, h6, h7⟩)
      clear h h3 h4 h5 h6 RO R4 PT HOU
      have e0 : (ou == 0) = true := beq_iff_eq.2 h7
      have e1 : decide (ou = 0) = true := decide_eq_true h7
      clear h7
      go_wp2_with fail
      go_meet
      exact ⟨rfl, rfl⟩
    · have h' : ou = (j : Int) + 1 := h
      have EQ := eql_vec_at (ru : Int) cu (du : Int) pu ou (b : Int) 0 (b : Int) 0 0 false (decide_eq_false (fun q => by omega))
      have h7 : ¬ ou = 0 := by omega
      have e0 : (ou == 0) = false := beq_eq_false_iff_ne.2 h7
      have e1 : decide (ou = 0) = false := decide_eq_false h7
      clear h h' h7 RO R4 PT HOU
      go_wp2_with fail
      go_meet
      exact ⟨rfl, rfl⟩
  case rest =>
    obtain ⟨rfl, hw⟩ := hcut
    rw [hw]
    clear hw hou1 hou2 k0 k1 k2 k3 k4
    go_wp2_with fail
    go_loopw [8, 9] (fun a8 a9 wr => ∃ i : Nat, a8 = .int .i64 (cnt ou i) ∧ a9 = .int .i64 i ∧ i ≤ m ∧ Below w2.heap.size w2 wr) (fun _ a _ => (m - intOf a).toNat)
    case atStart =>
      have h0 : cnt ou 0 = 0 := by unfold cnt; rw [if_neg (by omega)]
      exact ⟨0, by rw [h0], rfl, Nat.zero_le _, Below.refl _ _⟩
    case round =>
      obtain ⟨i, rfl, rfl, hin, hbl⟩ := hrel
      have HB3 := hide hbl
      clear hbl
      by_cases hlt : i < m
      · have hiI : (i : Int) < (m : Int) := by omega
        have hwi : wrap64 ((i : Int) + 1) = (i : Int) + 1 := by unfold wrap64; omega
        obtain ⟨sb, so, rfl, hS⟩ := (unhide HV).2.2.resolve_left (by omega)
        have hv0 := ((hS i hlt).1.below (unhide HB2)).below (unhide HB3)
        have x9 := ((unhide HB3).cell (p := ⟨g2, i, none⟩) (block_lt_of_cell (unhide HR2 i hlt))).trans (unhide HR2 i hlt)
        have HP := hide (unhide PT i hlt)
        have HG3 := hide (Below.row (unhide HB3) (unhide HG2))
        have hcn : 0 ≤ cnt ou i ∧ cnt ou i ≤ 1 := by unfold cnt; split <;> omega
        have hwc1 : wrap64 (cnt ou i + 1) = cnt ou i + 1 := by unfold wrap64; omega
        clear hS hcn
        generalize S i = x at *
        generalize R i = q at *
        generalize hc1 : cnt ou i = c1 at *
        have HC1 := hide hc1
        clear hc1
        go_upto_if 60 with fail
        go_cut [8] (fun a wx => a = .int .i64 (cnt ou (i + 1)) ∧ wx = wr)
        case first =>
          by_cases h4 : q = 4
          · have h5 :  cnt ou (i + 1) = c1 + 1 := by rw [← unhide HC1]; exact (unhide HP).yes h4
            have d1 : decide (q = 4) = true := decide_eq_true h4
            have d2 : (q == 4) = true := beq_iff_eq.2 h4
            have H5 := hide h5
            clear h5 h4
            go_wp2_with fail
            go_meet
            exact ⟨by rw [unhide H5, hwc1], rfl⟩
          · have h5 :  cnt ou (i + 1) = c1 := by rw [← unhide HC1]; exact (unhide HP).no h4
            have d1 : decide (q = 4) = false := decide_eq_false h4
            have d2 : (q == 4) = false := beq_eq_false_iff_ne.2 h4
            have H5 := hide h5
            clear h5 h4
            go_wp2_with fail
            go_meet
            exact ⟨by rw [unhide H5], rfl⟩
        case rest =>
          obtain ⟨rfl, hw⟩ := hcut
          rw [hw]
          clear hw hwc1
          obtain ⟨up, sc, told, xr, xc, xd, xp, xo⟩ := x
          obtain ⟨j0, j1, j2, j3, j4, j5, j6, j7⟩ := hv0
          have HX : Hid (VwAt wr sb (so + i * 8) ⟨up, sc, told, ⟨xr, xc, xd, xp, xo⟩⟩) := ⟨j0, j1, j2, j3, j4, j5, j6, j7⟩
          go_upto_region 12 with fail
          have k0 := cell_regrown j0
          have k1 := cell_regrown j1
          have k2 := cell_regrown j2
          have k3 := cell_regrown j3
          have k4 := cell_regrown j4
          have k5 := cell_regrown j5
          have k6 := cell_regrown j6
          have k7 := cell_regrown j7
          have y9 := cell_regrown x9
          clear j0 j1 j2 j3 j4 j5 j6 j7 x9
          go_cut [95] (fun a wx => a = .bool false ∧ Below wr.heap.size wr wx)
          case first =>
            cases up with
            | false =>
              have hq : q = 0 := (unhide HP).down rfl
              subst hq
              clear HP
              cases told with
              | false =>
                refine wp_region_quiet_below (by kernel_rfl) (by kernel_rfl) ?_
                repeat (go_big_quiet_step (fail))
                refine wpQuiet_nil ?_
                rintro _ ⟨⟨dq, osq⟩, rfl⟩
                clear k0 k1 k2 k3 k4 k5 k6 k7 y9
                go_wp2_with fail
                go_meet
                exact ⟨rfl, below_regrown wr dq osq⟩
              | true =>
                refine wp_region_quiet_below (by kernel_rfl) (by kernel_rfl) ?_
                repeat (go_big_quiet_step (fail))
                refine wpQuiet_nil ?_
                rintro _ ⟨⟨dq, osq⟩, rfl⟩
                clear k0 k1 k2 k3 k4 k5 k6 k7 y9
                go_wp2_with fail
                go_meet
                exact ⟨rfl, below_regrown wr dq osq⟩
            | true =>
              cases told with
              | false =>
                have hq : q = 3 := (unhide HP).deaf rfl rfl
                subst hq
                clear HP
                refine wp_region_quiet_below (by kernel_rfl) (by kernel_rfl) ?_
                repeat (go_big_quiet_step (fail))
                refine wpQuiet_nil ?_
                rintro _ ⟨⟨dq, osq⟩, rfl⟩
                clear k0 k1 k2 k3 k4 k5 k6 k7 y9
                go_wp2_with fail
                go_meet
                exact ⟨rfl, below_regrown wr dq osq⟩
              | true =>
                have hq : ¬ q = 0 := (unhide HP).up rfl
                have d1 : decide (q = 0) = false := decide_eq_false hq
                have d2 : (q == 0) = false := beq_eq_false_iff_ne.2 hq
                clear HP
                refine wp_region_quiet_below (by kernel_rfl) (by kernel_rfl) ?_
                repeat (go_big_quiet_step (fail))
                refine wpQuiet_nil ?_
                rintro _ ⟨⟨dq, osq⟩, rfl⟩
                clear k0 k1 k2 k3 k4 k5 k6 k7 y9
                go_wp2_with fail
                go_meet
                exact ⟨rfl, below_regrown wr dq osq⟩
          case rest =>
            obtain ⟨rfl, hbw⟩ := hcut
            generalize wc = wd at *
            have HB4 := hide (bthen (unhide HB3) hbw)
            have hx4 := (unhide HX).below hbw
            have HG4 := hide (Below.row hbw (unhide HG3))
            clear k0 k1 k2 k3 k4 k5 k6 k7 y9 hbw HX HG3 HB3
            by_cases ho : offers b ⟨up, sc, told, ⟨xr, xc, xd, xp, xo⟩⟩ = true
            · have hbest := (unhide HP).best ho
              have h0 := ho
              unfold offers at h0
              simp only [Bool.and_eq_true, Bool.not_eq_true', decide_eq_false_iff_not] at h0
              obtain ⟨rfl, rfl, h3⟩ := h0
              have e1 : ((xd : Int) == (b : Int)) = false := beq_eq_false_iff_ne.2 (by omega)
              have e2 : decide ((xd : Int) = (b : Int)) = false := decide_eq_false (by omega)
              have CP1 := hide (unhide CP ⟨true, sc, true, ⟨xr, xc, xd, xp, xo⟩⟩)
              have CC1 := hide (unhide CC (wayVc ⟨true, sc, true, ⟨xr, xc, xd, xp, xo⟩⟩ ((i : Int) + 1)) ⟨ru, cu, du, pu, ou⟩)
              generalize Vc.cmp (wayVc ⟨true, sc, true, ⟨xr, xc, xd, xp, xo⟩⟩ ((i : Int) + 1)) ⟨ru, cu, du, pu, ou⟩ = t at *
              unfold wayVc Vc.at Vc.plus Vc.val at CC1
              unfold Vc.plus Vc.val at CP1
              simp only at CC1 CP1
              generalize Vc.far ⟨xr, xc, xd, xp, xo⟩ sc = f at *
              have HT := hide hbest
              clear h3 ho hbest HP
              have keepG : Hid (∀ W2, Below wd.heap.size wd W2 → W2.cell? ⟨sb, so + i * 8 + 1, none⟩ = some (.int .i64 sc) ∧ W2.cell? ⟨sb, so + i * 8 + 3, none⟩ = some (.int .u64 (xr : Int)) ∧ W2.cell? ⟨sb, so + i * 8 + 4, none⟩ = some (.int .i64 xc) ∧ W2.cell? ⟨sb, so + i * 8 + 5, none⟩ = some (.int .u64 (xd : Int)) ∧ W2.cell? ⟨sb, so + i * 8 + 6, none⟩ = some (.int .i64 xp) ∧ W2.cell? ⟨sb, so + i * 8 + 7, none⟩ = some (.int .i64 xo)) := fun W2 k => by
                obtain ⟨h0, h1, h2, h3, h4, h5, h6, h7⟩ := hx4.below k
                exact ⟨h1, h3, h4, h5, h6, h7⟩
              have HS := hide ((Below.refl wd.heap.size wd).drew)
              have HSa := hide ((alloc_then (o := .cells #[.int .u64 0, .int .i64 0, .int .u64 0, .int .i64 0, .int .i64 0] 25) (Below.refl wd.heap.size wd)).drew)
              obtain ⟨k0, k1, k2, k3, k4, k5, k6, k7⟩ := hx4
              simp only at k0 k1 k2 k3 k4 k5 k6 k7
              go_upto_region 15 with fail
              clear k0 k1 k2 k3 k4 k5 k6 k7
              go_cut [10] (fun u wx => ∃ X : Nat, u = .pointer (some ⟨X, 0, none⟩) ∧ wx.heap[X]? = some (.cells #[.int .u64 (xr : Int), .int .i64 f, .int .u64 (xd : Int), .int .i64 xp, .int .i64 xo] 25 (0, 0)) ∧ wd.heap.size ≤ X ∧ Below wd.heap.size wd wx)
              case first =>
                go_region_held3 (fun W2 => W2.cell? ⟨sb, so + i * 8 + 1, none⟩ = some (.int .i64 sc) ∧ W2.cell? ⟨sb, so + i * 8 + 3, none⟩ = some (.int .u64 (xr : Int)) ∧ W2.cell? ⟨sb, so + i * 8 + 4, none⟩ = some (.int .i64 xc) ∧ W2.cell? ⟨sb, so + i * 8 + 5, none⟩ = some (.int .u64 (xd : Int)) ∧ W2.cell? ⟨sb, so + i * 8 + 6, none⟩ = some (.int .i64 xp) ∧ W2.cell? ⟨sb, so + i * 8 + 7, none⟩ = some (.int .i64 xo))
                  ((first | (with_reducible exact unhide keepG _ (unhide HS)) | (with_reducible exact unhide keepG _ (unhide HSa)) | (with_reducible exact unhide keepG _ (alloc_then (unhide HS))) | (with_reducible exact unhide keepG _ (vbelow (unhide HS) (Nat.le_refl _)))))
                  ((first
                    | (go_at_call 17; refine (unhide CP1 _).mono ?_; rintro e5 w5 ⟨rfl, B5⟩; first | (have HT2 : Below wd.heap.size wd w5 := (by with_reducible exact bthen (unhide HS) B5); have HS := hide HT2; clear HT2) | (have HT2 : Below wd.heap.size wd w5 := (by with_reducible exact bthen (unhide HSa) B5); have HS := hide HT2; clear HT2; have rZ := Below.row B5 (heap_alloc_new wd (.cells #[.int .u64 0, .int .i64 0, .int .u64 0, .int .i64 0, .int .i64 0] 25)); have cZ := vcells rZ))))
                all_goals
                  go_wp2_with fail
                  go_meet
                  first
                    | (with_reducible exact ⟨_, rfl, heap_alloc_new w5 _, (unhide HS).size, alloc_then (unhide HS)⟩)
                    | (with_reducible exact ⟨_, rfl, vset rZ, Nat.le_refl _, vbelow (unhide HS) (Nat.le_refl _)⟩)
              case rest =>
                obtain ⟨X, rfl, hX, hle, hbw⟩ := hcut
                have hX4 := vset4 (v4 := .int .i64 ((i : Int) + 1)) hX
                obtain ⟨-, -, -, -, k4, -, -, -, -, l4⟩ := vcells hX
                obtain ⟨q0, q1, q2, q3, q4, -⟩ := vcells hX4
                have hg := set_other (n := 4) (v := .int .i64 ((i : Int) + 1)) (Nat.ne_of_lt (Nat.lt_of_lt_of_le (lt_of_row (unhide HG4)) hle)) (Below.row hbw (unhide HG4))
                obtain ⟨p0, p1, p2, p3, p4, -⟩ := vcells hg
                have HB5 := hide (bthen (unhide HB4) (hbw.setCell (p := ⟨X, 4, none⟩) hle (.int .i64 ((i : Int) + 1))))
                clear hX hX4 hg hle hbw keepG HS HSa CP1 HB4 HG4
                go_upto_region 17 with fail
                clear k4 l4
                generalize wc.setCell ⟨X, 4, none⟩ (.int .i64 ((i : Int) + 1)) = W7 at *
                go_wp2_with fail
                refine (unhide CC1 _).mono ?_
                rintro e w8 ⟨rfl, b8⟩
                have HB8 := hide (bthen (unhide HB5) b8)
                have dt : decide (t < 0) = false := decide_eq_false (by have := unhide HT; omega)
                clear b8 HB5 HT q0 q1 q2 q3 q4 p0 p1 p2 p3 p4
                go_wp2_with fail
                go_roundw
                case rel => exact ⟨i + 1, rfl, by go_num, by omega, unhide HB8⟩
                case measure => simp [intOf]; omega
            · have hno : up = false ∨ (up = true ∧ told = false) ∨ (up = true ∧ told = true ∧ xd = b) := by
                unfold offers at ho
                cases up with
                | false => exact .inl rfl
                | true =>
                  cases told with
                  | false => exact .inr (.inl ⟨rfl, rfl⟩)
                  | true => exact .inr (.inr ⟨rfl, rfl, by simpa using ho⟩)
              have HNO := hide hno
              obtain ⟨k0, k1, k2, k3, k4, k5, k6, k7⟩ := hx4
              simp only at k0 k1 k2 k3 k4 k5 k6 k7
              clear hno ho HP
              rcases unhide HNO with h | ⟨h, h'⟩ | ⟨h, h', h3⟩
              · subst h
                clear HNO
                go_wp2_with fail
                go_roundw
                case rel => exact ⟨i + 1, rfl, by go_num, by omega, unhide HB4⟩
                case measure => simp [intOf]; omega
              · subst h h'
                clear HNO
                go_wp2_with fail
                go_roundw
                case rel => exact ⟨i + 1, rfl, by go_num, by omega, unhide HB4⟩
                case measure => simp [intOf]; omega
              · subst h h' h3
                clear HNO
                go_wp2_with fail
                go_roundw
                case rel => exact ⟨i + 1, rfl, by go_num, by omega, unhide HB4⟩
                case measure => simp [intOf]; omega
      · obtain rfl : i = m := by omega
        have HBZ := hide (bthen (unhide HB2) (unhide HB3))
        rcases (unhide RO) with ⟨h, _⟩ | ⟨j, hj, h⟩
        · have h' : ou = 0 := h
          have h0 : cnt ou i = 0 := by unfold cnt; rw [if_neg (by omega)]
          rw [h0]
          clear h h0 RO R4 HOU PT
          subst h'
          go_wp2_with fail
          refine (unhide CF _).mono ?_
          rintro e w9 ⟨rfl, b9⟩
          have HB9 := hide (bthen (unhide HBZ) b9)
          clear b9
          go_wp2_with fail
          go_ret
          exact ⟨rfl, unhide HB9⟩
        · have h' : ou = (j : Int) + 1 := h
          have h0 : cnt ou i = 1 := by unfold cnt; rw [if_pos (by omega)]
          rw [h0]
          have hr4 := unhide R4 j h
          have x9 := ((unhide HB3).cell (p := ⟨g2, j, none⟩) (block_lt_of_cell (unhide HR2 j hj))).trans (unhide HR2 j hj)
          rw [hr4] at x9
          clear h h0 hr4 RO R4 HOU PT
          subst h'
          have d1 : ∀ (ts : Array TypeId) (t : TypeId) (W : World), (Builtin.min_ ts t #[.int .i64 ((j : Int) + 1), .int .i64 1]).run Try.prog W = .ok (.int .i64 1) W := fun ts t W => by
            rw [run_min_int2]
            congr 2
            split <;> omega
          have hwj : wrap64 ((j : Int) + 1 - 1) = (j : Int) := by unfold wrap64; omega
          have hjI : (j : Int) < (i : Int) := by omega
          have hj0 : ¬ (j : Int) + 1 = 0 := by omega
          have e0 : ((j : Int) + 1 == 0) = false := beq_eq_false_iff_ne.2 hj0
          have e1 : decide ((j : Int) + 1 = 0) = false := decide_eq_false hj0
          go_wp2_with fail
          refine (unhide CF _).mono ?_
          rintro e w9 ⟨rfl, b9⟩
          have HB9 := hide (bthen (unhide HBZ) b9)
          clear b9
          go_wp2_with fail
          go_ret
          exact ⟨rfl, unhide HB9⟩
set_option maxRecDepth 100000 in
theorem lifted (os : Os) (started : os.Started) (H : Type) (enc : TypeId × Value → H) :
    ReturnsInHanded {} Try.checked os 4 .any (Rows.rolesOneSpec.pre6 enc Try.prog Try.f4 Rows.rolesOneRow.domain false) (Rows.rolesOneSpec.post enc Try.prog Try.f4 false true false false) := by
  refine returnsInHanded_of_change (C := Try.checked) own started (by kernel_rfl) Try.func4
    (ChangeSpec.witness6 (enc := enc) (C := Try.checked) false ⟨#[], #[.int .u64 0, .slice none 0 0], []⟩ 8 (by kernel_rfl) (by kernel_rfl) (by kernel_rfl) (by kernel_rfl)) ?_
  intro W base args ds gs before hval0 hW _ _
  have hval : ∀ (j : Nat) t v, Try.f4.params[j]? = some t → args[j]? = some v → Value.okWide Try.prog W .any base t v := hval0
  have hW' := hW
  obtain ⟨p, q, hA0, hV, rfl, hfz, hnd⟩ := hW
  have hA : DataW.TrodAll enc Try.prog W 0 (fun _ => true) true Try.f4.params.toList args.toList ds p := hA0
  rw [Try.params4] at hA hval
  obtain ⟨v0, v1, d0, d1, p0, p1, rfl, rfl, rfl, h0, h1⟩ := trodAll_two hA
  obtain ⟨a0, rfl, rfl, rfl, w0⟩ := open_int Try.underlying22 (hval 0 22 v0 rfl rfl) h0
  have q0 := bnd_u64 w0
  obtain ⟨z0, rfl⟩ : ∃ m : Nat, a0 = m := ⟨a0.toNat, by omega⟩
  have y1 : ∀ x ∈ p1, x.block < W.heap.size := fun x hx => hW'.lt x (by simp [hx])
  obtain ⟨ao1, n1, cap1, S1, rfl, hs1, hz1⟩ := open_views (hval 1 23 v1 rfl rfl) h1
  obtain ⟨rfl, rfl⟩ := trodVars_none hV
  have e1 : Rows.rolesOneSpec.fn H ([.lit (.int .u64 (z0 : Int)), d1] ++ []) = { results := [.lit (.bool true)], args := [.lit (.int .u64 (z0 : Int)), d1] } := by simp [Rows.rolesOneSpec]
  refine (walk z0 ao1 n1 cap1 S1 W (by omega) hs1).mono fun e W' ⟨he, hb⟩ => ?_
  subst he
  refine ⟨_, rfl, _, _, _, [], [] ++ p1, [], hW', ?_, ?_, ?_, hb.frame _, fun h => by cases h⟩
  · rw [e1]; exact trodAll_mk1 (shut_bool Try.underlying4 true)
  · rw [e1]; exact trodAll_mk2 (shut_int Try.underlying22 w0) (stay_views h1 y1 hb)
  · rw [e1]; rfl
theorem said : Rows.RolesOneSaid :=
  OpenClaim.holds_of_wide 4 Try.f4 rfl rfl rfl rfl rfl rfl rfl ⟨rfl, rfl, rfl, rfl, rfl⟩ rfl rfl rfl rfl rfl (by kernel_rfl) Try.func4 (by kernel_rfl)
    (of_decide_eq_true (by kernel_rfl)) (by unfold Func.isWrapper; rw [if_neg (of_decide_eq_false (by kernel_rfl))]; exact ⟨rfl, rfl⟩)
    (fun os started H enc _ => lifted os started H enc)
end Go.Proofs.Ytagfaaciakbnbaa.rolesOne
namespace Go.Proofs.Ytagfaaciakbnbaa
theorem rolesOne_holds : Rows.RolesOneSaid := rolesOne.said
end Go.Proofs.Ytagfaaciakbnbaa
