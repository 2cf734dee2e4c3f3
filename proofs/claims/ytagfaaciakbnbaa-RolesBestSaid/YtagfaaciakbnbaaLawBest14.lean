/-
  RolesBest: a way to a root that is better than all others makes its port the root port. No condition.
-/
import Derived.Test.YtagfaaciakbnbaaUpd14
namespace Go.Proofs.Ytagfaaciakbnbaa.rolesBest
open Go.ChangeShapes Go.WideShapes Go.ChangeAt Go.RowKit Go.Deep Go.Sort

theorem or_at (S : Nat → Vw) (i : Nat) : orS S i i = S i := by simp [orS]
theorem or_root (S : Nat → Vw) {m i : Nat} (h : i < m) : 2 ≤ (orS S m i).v.root := by
  unfold orS
  rw [if_pos h]
  exact or2_le _
theorem own_or {B : Nat} {W : World} {g m c i : Nat} {S : Nat → Vw} (h : VwOwn B W g m c (orS S i)) (hi : i < m) : VwOwn B (W.setCell ⟨g, i * 8 + 3, none⟩ (.int .u64 (((S i).v.root ||| 2 : Nat) : Int))) g m c (orS S (i + 1)) := by
  rw [orS_step]
  have h' := h.self i
  rw [or_at] at h'
  exact h'.set (t := 3) hi (by omega) rfl
/-- the way to the better root, stored -/
theorem own_best {B : Nat} {W : World} {g m c k : Nat} {S : Nat → Vw} (h : VwOwn B W g m c S) (hk : k < m) :
    VwOwn B ((((((((W.setCell ⟨g, k * 8, none⟩ (.bool true)).setCell ⟨g, k * 8 + 1, none⟩ (.int .i64 1)).setCell ⟨g, k * 8 + 2, none⟩ (.bool true)).setCell ⟨g, k * 8 + 3, none⟩ (.int .u64 1)).setCell ⟨g, k * 8 + 4, none⟩ (.int .i64 0)).setCell ⟨g, k * 8 + 5, none⟩ (.int .u64 1)).setCell ⟨g, k * 8 + 6, none⟩ (.int .i64 0)).setCell ⟨g, k * 8 + 7, none⟩ (.int .i64 0)) g m c (upd S k bestW) := by
  have h0 := h.self k
  generalize S k = x at h0
  obtain ⟨up, sc, told, r, cc, d, p, o⟩ := x
  have h1 : VwOwn B _ g m c (upd S k ⟨true, sc, told, ⟨r, cc, d, p, o⟩⟩) := h0.set (t := 0) (u := .bool true) hk (by omega) rfl
  have h2 : VwOwn B _ g m c (upd S k ⟨true, 1, told, ⟨r, cc, d, p, o⟩⟩) := h1.set (t := 1) (u := .int .i64 1) hk (by omega) rfl
  have h3 : VwOwn B _ g m c (upd S k ⟨true, 1, true, ⟨r, cc, d, p, o⟩⟩) := h2.set (t := 2) (u := .bool true) hk (by omega) rfl
  have h4 : VwOwn B _ g m c (upd S k ⟨true, 1, true, ⟨1, cc, d, p, o⟩⟩) := h3.set (t := 3) (u := .int .u64 1) hk (by omega) rfl
  have h5 : VwOwn B _ g m c (upd S k ⟨true, 1, true, ⟨1, 0, d, p, o⟩⟩) := h4.set (t := 4) (u := .int .i64 0) hk (by omega) rfl
  have h6 : VwOwn B _ g m c (upd S k ⟨true, 1, true, ⟨1, 0, 1, p, o⟩⟩) := h5.set (t := 5) (u := .int .u64 1) hk (by omega) rfl
  have h7 : VwOwn B _ g m c (upd S k ⟨true, 1, true, ⟨1, 0, 1, 0, o⟩⟩) := h6.set (t := 6) (u := .int .i64 0) hk (by omega) rfl
  exact h7.set (t := 7) (u := .int .i64 0) hk (by omega) rfl
theorem below_best {B : Nat} {a W : World} {g k : Nat} (h : Below B a W) (hg : B ≤ g) :
    Below B a ((((((((W.setCell ⟨g, k * 8, none⟩ (.bool true)).setCell ⟨g, k * 8 + 1, none⟩ (.int .i64 1)).setCell ⟨g, k * 8 + 2, none⟩ (.bool true)).setCell ⟨g, k * 8 + 3, none⟩ (.int .u64 1)).setCell ⟨g, k * 8 + 4, none⟩ (.int .i64 0)).setCell ⟨g, k * 8 + 5, none⟩ (.int .u64 1)).setCell ⟨g, k * 8 + 6, none⟩ (.int .i64 0)).setCell ⟨g, k * 8 + 7, none⟩ (.int .i64 0)) :=
  (((((((h.setCell (p := ⟨g, _, none⟩) hg _).setCell (p := ⟨g, _, none⟩) hg _).setCell (p := ⟨g, _, none⟩) hg _).setCell (p := ⟨g, _, none⟩) hg _).setCell (p := ⟨g, _, none⟩) hg _).setCell (p := ⟨g, _, none⟩) hg _).setCell (p := ⟨g, _, none⟩) hg _).setCell (p := ⟨g, _, none⟩) hg _
set_option maxHeartbeats 4000000 in
set_option maxRecDepth 100000 in
theorem walk (b : Nat) (ao : Option Addr) (n cap : Nat) (S : Nat → Vw) (port : Int) (w : World) (hb : b < 18446744073709551616) (h : VwsIn w ao n cap S) (hnil : ao = none → cap = 0) (_hp : I64 port) :
    Calls Try.prog 7 #[.int .u64 (b : Int), .slice ao n cap, .int .i64 port] w fun e w' => e = .returned (.bool true) ∧ Below w.heap.size w w' := by
  obtain ⟨m, ax, hm16, hmn, dm, ds, hs, hxn⟩ := first16 h
  have hcm : cap ≤ maxLen := h.2.1
  have hnc := h.1
  have hmc := hs.1
  unfold maxLen at hcm
  have hzc : ax = none → cap = 0 := fun q => hnil (hxn q)
  have HV := hide hs
  have HZ := hide hzc
  have hfS : Hid (∀ i, i < m → (S i).fits) := fun i hi => hs.fits i hi
  have hmL : m ≤ 9223372036854775807 := by omega
  have hor := u64_or_nat b 2 hb (by omega)
  have hlt := or2_lt hb
  have hge := or2_le b
  obtain ⟨B, hB⟩ : ∃ B, b ||| 2 = B := ⟨_, rfl⟩
  rw [hB] at hor hlt hge
  have hor' : bits .or .u64 (b : Int) 2 = (B : Int) := hor
  have HBB := hide (And.intro hlt hge)
  have CF := hide fixed_any
  have CA := hide (fun (W : World) (ax' : Option Addr) (c' : Nat) (S' : Nat → Vw) (hv : VwsIn W ax' m c' S') => rall_any B ax' m c' S' W hlt (by omega) hv)
  have CR := hide (fun (W : World) (ax' : Option Addr) (c' : Nat) (S' : Nat → Vw) (hv : VwsIn W ax' m c' S') => rroot_any B ax' m c' S' W hlt hv)
  clear h hb hs hxn hnil hzc hor hlt hge hB
  go_enter Try.func7, Try.ntmps7
  go_wp2_with (first | (at_builtin; refine wp_copy rfl (.tmp 13) (.tmp 18) rfl w ax m cap S rfl rfl (unhide HV) (unhide HZ) (by omega) ?_; intro g0 c0 w0 H0))
  have HO0 : Hid (VwOwn w.heap.size w0 g0 m c0 (orS S 0)) := hide (by have h := (unhide H0).1; exact h)
  go_loopw [8] (fun a wr => ∃ i : Nat, a = .int .i64 i ∧ i ≤ m ∧ VwOwn w.heap.size wr g0 m c0 (orS S i) ∧ Below w.heap.size w wr) (fun a _ => (m - intOf a).toNat)
  case atStart => exact ⟨0, rfl, Nat.zero_le _, unhide HO0, (unhide H0).2⟩
  case round =>
    obtain ⟨i, rfl, hin, ho, hbl⟩ := hrel
    have HO := hide ho
    have HB := hide hbl
    clear ho hbl H0 HO0
    by_cases hlt : i < m
    · have hiI : (i : Int) < (m : Int) := by omega
      have c3 : wr.cell? ⟨g0, i * 8 + 3, none⟩ = some (.int .u64 ((S i).v.root : Int)) := by
        have := (unhide HO).cell hlt (t := 3) (by omega)
        rw [or_at] at this
        exact this
      have f3 := (unhide HO).frozen (i * 8 + 3)
      have hor2 : bits .or .u64 ((S i).v.root : Int) 2 = (((S i).v.root ||| 2 : Nat) : Int) := u64_or_nat (S i).v.root 2 (unhide hfS i hlt).2.1 (by omega)
      have HO2 := hide (own_or (unhide HO) hlt)
      have HB2 := hide ((unhide HB).setCell (p := ⟨g0, i * 8 + 3, none⟩) (unhide HO).lt.1 (.int .u64 (((S i).v.root ||| 2 : Nat) : Int)))
      clear HO HB
      generalize (S i).v.root = r at *
      generalize hr2 : ((r ||| 2 : Nat) : Int) = r2 at *
      clear hr2
      go_wp2_with fail
      go_roundw
      case rel => exact ⟨i + 1, by go_num, by omega, unhide HO2, unhide HB2⟩
      case measure => simp [intOf]; omega
    · obtain rfl : i = m := by omega
      by_cases hm0 : i = 0
      · have hmI : (i : Int) = 0 := by omega
        clear HO CA CR
        go_wp2_with fail
        refine (unhide CF _).mono ?_
        rintro e w2 ⟨rfl, b2⟩
        have HB2 := hide (bthen (unhide HB) b2)
        clear b2
        go_wp2_with fail
        go_ret
        exact ⟨rfl, unhide HB2⟩
      · have hmI : ¬ (i : Int) = 0 := by omega
        have em : ((i : Int) == 0) = false := beq_eq_false_iff_ne.2 hmI
        obtain ⟨k, hkm, hk⟩ := draw_port port (show 0 < i by omega)
        have hand := i64_and_16bits port
        have hkI : (k : Int) < (i : Int) := by omega
        have hwk : wrap64 ((k : Int) + 1) = (k : Int) + 1 := by unfold wrap64; omega
        have hbw := best_way (unhide HBB).1 (unhide HBB).2 (orS_fits (i := i) (unhide hfS)) hmL hkm (fun j hj => or_root S hj)
        have HBW := hide hbw
        have c0' : wr.cell? ⟨g0, k * 8, none⟩ = some (.bool (orS S i k).up) := (unhide HO).cell hkm (t := 0) (by omega)
        have c1' : wr.cell? ⟨g0, k * 8 + 1, none⟩ = some (.int .i64 (orS S i k).cost) := (unhide HO).cell hkm (t := 1) (by omega)
        have c2' : wr.cell? ⟨g0, k * 8 + 2, none⟩ = some (.bool (orS S i k).told) := (unhide HO).cell hkm (t := 2) (by omega)
        have c3' : wr.cell? ⟨g0, k * 8 + 3, none⟩ = some (.int .u64 ((orS S i k).v.root : Int)) := (unhide HO).cell hkm (t := 3) (by omega)
        have c4' : wr.cell? ⟨g0, k * 8 + 4, none⟩ = some (.int .i64 (orS S i k).v.cost) := (unhide HO).cell hkm (t := 4) (by omega)
        have c5' : wr.cell? ⟨g0, k * 8 + 5, none⟩ = some (.int .u64 ((orS S i k).v.bridge : Int)) := (unhide HO).cell hkm (t := 5) (by omega)
        have c6' : wr.cell? ⟨g0, k * 8 + 6, none⟩ = some (.int .i64 (orS S i k).v.port) := (unhide HO).cell hkm (t := 6) (by omega)
        have c7' : wr.cell? ⟨g0, k * 8 + 7, none⟩ = some (.int .i64 (orS S i k).v.on) := (unhide HO).cell hkm (t := 7) (by omega)
        have f0 := (unhide HO).frozen (k * 8)
        have f1 := (unhide HO).frozen (k * 8 + 1)
        have f2 := (unhide HO).frozen (k * 8 + 2)
        have f3 := (unhide HO).frozen (k * 8 + 3)
        have f4 := (unhide HO).frozen (k * 8 + 4)
        have f5 := (unhide HO).frozen (k * 8 + 5)
        have f6 := (unhide HO).frozen (k * 8 + 6)
        have f7 := (unhide HO).frozen (k * 8 + 7)
        have HO3 := hide (own_best (unhide HO) hkm)
        have HB3 := hide (below_best (k := k) (unhide HB) (unhide HO).lt.1)
        clear HO HB hbw
        go_upto_region 11 with fail
        clear c0' c1' c2' c3' c4' c5' c6' c7' f0 f1 f2 f3 f4 f5 f6 f7
        generalize ((((((((wr.setCell ⟨g0, k * 8, none⟩ (.bool true)).setCell ⟨g0, k * 8 + 1, none⟩ (.int .i64 1)).setCell ⟨g0, k * 8 + 2, none⟩ (.bool true)).setCell ⟨g0, k * 8 + 3, none⟩ (.int .u64 1)).setCell ⟨g0, k * 8 + 4, none⟩ (.int .i64 0)).setCell ⟨g0, k * 8 + 5, none⟩ (.int .u64 1)).setCell ⟨g0, k * 8 + 6, none⟩ (.int .i64 0)).setCell ⟨g0, k * 8 + 7, none⟩ (.int .i64 0)) = w3 at *
        have hv3 := (unhide HO3).views (upd_fits (k := k) (orS_fits (i := i) (unhide hfS)) bestW_fits)
        have C3 := unhide CR w3 _ _ _ hv3
        rw [(unhide HBW).1] at C3
        have HC3 := hide C3
        have HV3 := hide hv3
        have h4 := (unhide HBW).2
        clear C3 hv3 CR HO3
        unfold Vc.val at HC3
        simp only [Int.natCast_one] at HC3
        go_wp2_with fail
        refine (unhide HC3).mono ?_
        rintro e w4 ⟨rfl, b4⟩
        have HB4 := hide (alloc_then (o := .cells #[.int .u64 1, .int .i64 1, .int .u64 1, .int .i64 0, .int .i64 ((k : Int) + 1)] 25) (bthen (unhide HB3) b4))
        have HG4 := hide (heap_alloc_new w4 (.cells #[.int .u64 1, .int .i64 1, .int .u64 1, .int .i64 0, .int .i64 ((k : Int) + 1)] 25))
        have HV4 := hide (((unhide HV3).below b4).below (alloc_below w4 (.cells #[.int .u64 1, .int .i64 1, .int .u64 1, .int .i64 0, .int .i64 ((k : Int) + 1)] 25)))
        clear b4 HB3 HV3 HC3
        go_wp2_with fail
        refine (unhide CA _ _ _ _ (unhide HV4)).mono ?_
        rintro e w5 ⟨⟨v5, rfl, hn5⟩, b5⟩
        obtain ⟨g5, c5, rfl, hn5, hc5, hr5⟩ := hn5.at_
        have x5 := hr5 k hkm
        rw [h4] at x5
        have HB5 := hide (bthen (unhide HB4) b5)
        obtain ⟨k0, k1, k2, k3, k4, -⟩ := vcells (Below.row b5 (unhide HG4))
        clear hr5 b5 HB4 HV4 HG4 h4
        clear hk hand hmI em hm0 dm ds hor' hmL hm16 hmn hmc hnc hcm
        go_wp2_with fail
        refine (unhide CF _).mono ?_
        rintro e w6 ⟨rfl, b6⟩
        have HB6 := hide (bthen (unhide HB5) b6)
        clear b6
        go_wp2_with fail
        go_ret
        exact ⟨rfl, unhide HB6⟩
set_option maxRecDepth 100000 in
theorem lifted (os : Os) (started : os.Started) (H : Type) (enc : TypeId × Value → H) :
    ReturnsInHanded {} Try.checked os 7 .any (Rows.rolesBestSpec.pre6 enc Try.prog Try.f7 Rows.rolesBestRow.domain false) (Rows.rolesBestSpec.post enc Try.prog Try.f7 false true false false) := by
  refine returnsInHanded_of_change (C := Try.checked) own started (by kernel_rfl) Try.func7
    (ChangeSpec.witness6 (enc := enc) (C := Try.checked) false ⟨#[], #[.int .u64 0, .slice none 0 0, .int .i64 0], []⟩ 8 (by kernel_rfl) (by kernel_rfl) (by kernel_rfl) (by kernel_rfl)) ?_
  intro W base args ds gs before hval0 hW _ _
  have hval : ∀ (j : Nat) t v, Try.f7.params[j]? = some t → args[j]? = some v → Value.okWide Try.prog W .any base t v := hval0
  have hW' := hW
  obtain ⟨p, q, hA0, hV, rfl, hfz, hnd⟩ := hW
  have hA : DataW.TrodAll enc Try.prog W 0 (fun _ => true) true Try.f7.params.toList args.toList ds p := hA0
  rw [Try.params7] at hA hval
  obtain ⟨v0, v1, v2, d0, d1, d2, p0, p1, p2, rfl, rfl, rfl, h0, h1, h2⟩ := trodAll_three hA
  obtain ⟨a0, rfl, rfl, rfl, w0⟩ := open_int Try.underlying22 (hval 0 22 v0 rfl rfl) h0
  have q0 := bnd_u64 w0
  obtain ⟨z0, rfl⟩ : ∃ m : Nat, a0 = m := ⟨a0.toNat, by omega⟩
  have y1 : ∀ x ∈ p1, x.block < W.heap.size := fun x hx => hW'.lt x (by simp [hx])
  obtain ⟨ao1, n1, cap1, S1, rfl, hs1, hz1⟩ := open_views (hval 1 23 v1 rfl rfl) h1
  obtain ⟨a2, rfl, rfl, rfl, w2⟩ := open_int Try.underlying3 (hval 2 3 v2 rfl rfl) h2
  obtain ⟨rfl, rfl⟩ := trodVars_none hV
  have e1 : Rows.rolesBestSpec.fn H ([.lit (.int .u64 (z0 : Int)), d1, .lit (.int .i64 a2)] ++ []) = { results := [.lit (.bool true)], args := [.lit (.int .u64 (z0 : Int)), d1, .lit (.int .i64 a2)] } := by simp [Rows.rolesBestSpec]
  refine (walk z0 ao1 n1 cap1 S1 a2 W (by omega) hs1 hz1 (bnd_i64 w2)).mono fun e W' ⟨he, hb⟩ => ?_
  subst he
  refine ⟨_, rfl, _, _, _, [], [] ++ (p1 ++ []), [], hW', ?_, ?_, ?_, hb.frame _, fun h => by cases h⟩
  · rw [e1]; exact trodAll_mk1 (shut_bool Try.underlying4 true)
  · rw [e1]; exact trodAll_mk3 (shut_int Try.underlying22 w0) (stay_views h1 y1 hb) (shut_int Try.underlying3 w2)
  · rw [e1]; rfl
theorem said : Rows.RolesBestSaid :=
  OpenClaim.holds_of_wide 7 Try.f7 rfl rfl rfl rfl rfl rfl rfl ⟨rfl, rfl, rfl, rfl, rfl⟩ rfl rfl rfl rfl rfl (by kernel_rfl) Try.func7 (by kernel_rfl)
    (of_decide_eq_true (by kernel_rfl)) (by unfold Func.isWrapper; rw [if_neg (of_decide_eq_false (by kernel_rfl))]; exact ⟨rfl, rfl⟩)
    (fun os started H enc _ => lifted os started H enc)
end Go.Proofs.Ytagfaaciakbnbaa.rolesBest
namespace Go.Proofs.Ytagfaaciakbnbaa
theorem rolesBest_holds : Rows.RolesBestSaid := rolesBest.said
end Go.Proofs.Ytagfaaciakbnbaa
