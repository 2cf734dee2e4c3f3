/-
  RolesAll: the best way, all ports' roles, and what any port says, of whatever was heard, is as the document says; what is handed in stays. No condition.
-/
import Derived.Test.YtagfaaciakbnbaaList14
namespace Go.Proofs.Ytagfaaciakbnbaa.rolesAll
open Go.ChangeShapes Go.WideShapes Go.ChangeAt Go.RowKit Go.Deep Go.Sort

/-- what lies in memory behind the first calls -/
structure St (w W : World) (g0 m c0 ga gb : Nat) (S : Nat → Vw) (u : Vc) : Prop where
  below : Below w.heap.size w W
  own : VwOwn w.heap.size W g0 m c0 S
  a : VcHas W ga u
  b : VcHas W gb u
theorem St.next {w W W' : World} {g0 m c0 ga gb : Nat} {S : Nat → Vw} {u : Vc} (h : St w W g0 m c0 ga gb S u) (k : Below W.heap.size W W') : St w W' g0 m c0 ga gb S u :=
  ⟨bthen h.below k, h.own.below k, Below.row k h.a, Below.row k h.b⟩
set_option maxHeartbeats 4000000 in
set_option maxRecDepth 100000 in
theorem walk (b : Nat) (ao : Option Addr) (n cap : Nat) (S : Nat → Vw) (port : Int) (w : World) (hb : b < 18446744073709551616) (h : VwsIn w ao n cap S) (hnil : ao = none → cap = 0) (_hp : I64 port) :
    Calls Try.prog 3 #[.int .u64 (b : Int), .slice ao n cap, .int .i64 port] w fun e w' => e = .returned (.bool true) ∧ Below w.heap.size w w' := by
  obtain ⟨m, ax, hm16, hmn, dm, ds, hs, hxn⟩ := first16 h
  have hcm : cap ≤ maxLen := h.2.1
  have hnc := h.1
  have hmc := hs.1
  unfold maxLen at hcm
  have hzc : ax = none → cap = 0 := fun q => hnil (hxn q)
  have HV := hide hs
  have HZ := hide hzc
  have CF := hide fixed_any
  have CR := hide (fun (W : World) (hW : Below w.heap.size w W) => rroot_any b ax m cap S W hb (hs.below hW))
  have CR2 := hide (fun (W : World) (hW : Below w.heap.size w W) => sroot_any b ax m cap S W hb (by omega) (hs.below hW))
  have CS := hide (fun (W : World) (hW : Below w.heap.size w W) => rsays_any b ax m cap S port W hb (hs.below hW))
  have CS2 := hide (fun (W : World) (hW : Below w.heap.size w W) => ssays_any b ax m cap S port W hb (by omega) (hs.below hW))
  have CA := hide (fun (W : World) (hW : Below w.heap.size w W) => rall_any b ax m cap S W hb (by omega) (hs.below hW))
  have CA2 := hide (fun (W : World) (hW : Below w.heap.size w W) => sall_any b ax m cap S W hb (by omega) (hs.below hW))
  have CN := hide (fun (W : World) (u v : Value) (hu : NumsAt W u m (roleF b S m)) (hv : NumsAt W v m (roleF b S m)) => snums_any u v m (roleF b S m) W hu hv)
  have CO := hide (fun W => rown_any b W)
  clear h hb hs hxn hnil hzc
  unfold saysVc at CS CS2
  unfold ownVc at CO
  obtain ⟨R, hR⟩ : ∃ R, roleF b S m = R := ⟨_, rfl⟩
  rw [hR] at CA CA2 CN
  clear hR
  obtain ⟨u, hu⟩ : ∃ u, rootVc b S m = u := ⟨_, rfl⟩
  rw [hu] at CR CR2 CS CS2
  clear hu
  obtain ⟨ru, cu, du, pu, ou⟩ := u
  unfold Vc.val at CR CR2 CS CS2 CO
  simp only at CR CR2 CS CS2 CO
  go_enter Try.func3, Try.ntmps3
  go_wp2_with (first | (at_builtin; refine wp_copy rfl (.tmp 18) (.tmp 19) rfl _ ax m cap S rfl rfl (unhide HV) (unhide HZ) (by omega) ?_; intro g0 c0 w0 H0) | (go_at_call 8; refine (unhide CR _ (unhide H0).2).mono ?_; rintro e w1 ⟨rfl, b1⟩))
  have HB1 := hide (alloc_then (o := .cells #[.int .u64 (ru : Int), .int .i64 cu, .int .u64 (du : Int), .int .i64 pu, .int .i64 ou] 25) (bthen (unhide H0).2 b1))
  have HG1 := hide (heap_alloc_new w1 (.cells #[.int .u64 (ru : Int), .int .i64 cu, .int .u64 (du : Int), .int .i64 pu, .int .i64 ou] 25))
  have HO1 := hide (((unhide H0).1.below b1).below (alloc_below w1 (.cells #[.int .u64 (ru : Int), .int .i64 cu, .int .u64 (du : Int), .int .i64 pu, .int .i64 ou] 25)))
  clear b1 H0 CR
  refine (unhide CR2 _ (unhide HB1)).mono ?_
  rintro e w2 ⟨rfl, b2⟩
  have H2 : Hid (St w (w2.alloc (.cells #[.int .u64 (ru : Int), .int .i64 cu, .int .u64 (du : Int), .int .i64 pu, .int .i64 ou] 25)) g0 m c0 w1.heap.size w2.heap.size S ⟨ru, cu, du, pu, ou⟩) :=
    ⟨alloc_then (bthen (unhide HB1) b2), ((unhide HO1).below b2).below (alloc_below w2 (.cells #[.int .u64 (ru : Int), .int .i64 cu, .int .u64 (du : Int), .int .i64 pu, .int .i64 ou] 25)), Below.row (alloc_below w2 (.cells #[.int .u64 (ru : Int), .int .i64 cu, .int .u64 (du : Int), .int .i64 pu, .int .i64 ou] 25)) (Below.row b2 (unhide HG1)), heap_alloc_new w2 (.cells #[.int .u64 (ru : Int), .int .i64 cu, .int .u64 (du : Int), .int .i64 pu, .int .i64 ou] 25)⟩
  obtain ⟨k0, k1, k2, k3, k4, -⟩ := vcells (unhide H2).a
  obtain ⟨l0, l1, l2, l3, l4, -⟩ := vcells (unhide H2).b
  have EN1 := neq_vec_same (ru : Int) cu (du : Int) pu ou
  have EN2 := neq_vec_same (ru : Int) cu (b : Int) port port
  have EN3 := neq_vec_same (b : Int) 0 (b : Int) 0 0
  clear b2 HB1 HG1 HO1 CR2
  go_wp2_with fail
  refine (unhide CS _ (unhide H2).below).mono ?_
  rintro e w3 ⟨rfl, b3⟩
  have H3 := hide ((unhide H2).next b3)
  clear b3 H2 CS k0 k1 k2 k3 k4 l0 l1 l2 l3 l4
  go_wp2_with fail
  refine (unhide CS2 _ (unhide H3).below).mono ?_
  rintro e w4 ⟨rfl, b4⟩
  have H4 := hide ((unhide H3).next b4)
  clear b4 H3 CS2
  go_wp2_with fail
  refine (unhide CA _ (unhide H4).below).mono ?_
  rintro e w5 ⟨⟨v5, rfl, n5⟩, b5⟩
  have H5 := hide ((unhide H4).next b5)
  have N5 := hide n5.at_
  clear b5 n5 H4 CA
  go_wp2_with fail
  refine (unhide CA2 _ (unhide H5).below).mono ?_
  rintro e w6 ⟨⟨v6, rfl, n6⟩, b6⟩
  have H6 := hide ((unhide H5).next b6)
  have N6 := hide n6.at_
  have M6 := hide ((unhide N5).below b6)
  clear b6 n6 H5 N5 CA2
  go_wp2_with fail
  refine (unhide CN _ _ _ (unhide M6) (unhide N6)).mono ?_
  rintro e w7 ⟨rfl, b7⟩
  have H7 := hide ((unhide H6).next b7)
  clear b7 H6 N6 M6 CN
  go_wp2_with fail
  refine (unhide CO _).mono ?_
  rintro e w8 ⟨rfl, b8⟩
  have H8 := hide ((unhide H7).next b8)
  clear b8 H7 CO
  go_wp2_with fail
  have HO := hide (unhide H8).own
  have HB := hide (unhide H8).below
  clear H8
  go_loopw [12] (fun a wr => ∃ i : Nat, a = .int .i64 i ∧ i ≤ m ∧ VwOwn w.heap.size wr g0 m c0 S ∧ Below w.heap.size w wr) (fun a _ => (m - intOf a).toNat)
  case atStart => exact ⟨0, rfl, Nat.zero_le _, unhide HO, unhide HB⟩
  case round =>
    obtain ⟨i, rfl, hin, ho, hbl⟩ := hrel
    have HO2 := hide ho
    have HB2 := hide hbl
    clear ho hbl HO HB
    by_cases hlt : i < m
    · have hiI : (i : Int) < (m : Int) := by omega
      obtain ⟨sb, so, rfl, hS⟩ := (unhide HV).2.2.resolve_left (by omega)
      obtain ⟨hc, hfi⟩ := hS i hlt
      have hv := hc.below (unhide HB2)
      have hv2 := ((unhide HO2).views (fun j hj => (hS j hj).2)).2.2.resolve_left (by omega)
      obtain ⟨sb2, so2, hab, hS2⟩ := hv2
      have hw := (hS2 i hlt).1
      obtain ⟨rfl, rfl⟩ : g0 = sb2 ∧ 0 = so2 := by simpa using hab
      rw [Nat.zero_add] at hw
      clear hS hS2 hc hfi hab
      generalize S i = x at hv hw
      obtain ⟨up, sc, told, xr, xc, xd, xp, xo⟩ := x
      obtain ⟨k0, k1, k2, k3, k4, k5, k6, k7⟩ := hv
      obtain ⟨l0, l1, l2, l3, l4, l5, l6, l7⟩ := hw
      have EN := neq_view_same up told sc (xr : Int) xc (xd : Int) xp xo
      simp only at k0 k1 k2 k3 k4 k5 k6 k7 l0 l1 l2 l3 l4 l5 l6 l7
      go_wp2_with fail
      go_quiet (fail)
      go_wp2_with fail
      go_roundw
      case rel => exact ⟨i + 1, by go_num, by omega, (unhide HO2).below (below_drewN (Below.refl _ _) _), below_drewN (unhide HB2) _⟩
      case measure => simp [intOf]; omega
    · obtain rfl : i = m := by omega
      go_wp2_with fail
      refine (unhide CF _).mono ?_
      rintro e w9 ⟨rfl, b9⟩
      have HB9 := hide (bthen (unhide HB2) b9)
      clear b9
      go_wp2_with fail
      go_ret
      exact ⟨rfl, unhide HB9⟩
set_option maxRecDepth 100000 in
theorem lifted (os : Os) (started : os.Started) (H : Type) (enc : TypeId × Value → H) :
    ReturnsInHanded {} Try.checked os 3 .any (Rows.rolesAllSpec.pre6 enc Try.prog Try.f3 Rows.rolesAllRow.domain false) (Rows.rolesAllSpec.post enc Try.prog Try.f3 false true false false) := by
  refine returnsInHanded_of_change (C := Try.checked) own started (by kernel_rfl) Try.func3
    (ChangeSpec.witness6 (enc := enc) (C := Try.checked) false ⟨#[], #[.int .u64 0, .slice none 0 0, .int .i64 0], []⟩ 8 (by kernel_rfl) (by kernel_rfl) (by kernel_rfl) (by kernel_rfl)) ?_
  intro W base args ds gs before hval0 hW _ _
  have hval : ∀ (j : Nat) t v, Try.f3.params[j]? = some t → args[j]? = some v → Value.okWide Try.prog W .any base t v := hval0
  have hW' := hW
  obtain ⟨p, q, hA0, hV, rfl, hfz, hnd⟩ := hW
  have hA : DataW.TrodAll enc Try.prog W 0 (fun _ => true) true Try.f3.params.toList args.toList ds p := hA0
  rw [Try.params3] at hA hval
  obtain ⟨v0, v1, v2, d0, d1, d2, p0, p1, p2, rfl, rfl, rfl, h0, h1, h2⟩ := trodAll_three hA
  obtain ⟨a0, rfl, rfl, rfl, w0⟩ := open_int Try.underlying22 (hval 0 22 v0 rfl rfl) h0
  have q0 := bnd_u64 w0
  obtain ⟨z0, rfl⟩ : ∃ m : Nat, a0 = m := ⟨a0.toNat, by omega⟩
  have y1 : ∀ x ∈ p1, x.block < W.heap.size := fun x hx => hW'.lt x (by simp [hx])
  obtain ⟨ao1, n1, cap1, S1, rfl, hs1, hz1⟩ := open_views (hval 1 23 v1 rfl rfl) h1
  obtain ⟨a2, rfl, rfl, rfl, w2⟩ := open_int Try.underlying3 (hval 2 3 v2 rfl rfl) h2
  obtain ⟨rfl, rfl⟩ := trodVars_none hV
  have e1 : Rows.rolesAllSpec.fn H ([.lit (.int .u64 (z0 : Int)), d1, .lit (.int .i64 a2)] ++ []) = { results := [.lit (.bool true)], args := [.lit (.int .u64 (z0 : Int)), d1, .lit (.int .i64 a2)] } := by simp [Rows.rolesAllSpec]
  refine (walk z0 ao1 n1 cap1 S1 a2 W (by omega) hs1 hz1 (bnd_i64 w2)).mono fun e W' ⟨he, hb⟩ => ?_
  subst he
  refine ⟨_, rfl, _, _, _, [], [] ++ (p1 ++ []), [], hW', ?_, ?_, ?_, hb.frame _, fun h => by cases h⟩
  · rw [e1]; exact trodAll_mk1 (shut_bool Try.underlying4 true)
  · rw [e1]; exact trodAll_mk3 (shut_int Try.underlying22 w0) (stay_views h1 y1 hb) (shut_int Try.underlying3 w2)
  · rw [e1]; rfl
theorem said : Rows.RolesAllSaid :=
  OpenClaim.holds_of_wide 3 Try.f3 rfl rfl rfl rfl rfl rfl rfl ⟨rfl, rfl, rfl, rfl, rfl⟩ rfl rfl rfl rfl rfl (by kernel_rfl) Try.func3 (by kernel_rfl)
    (of_decide_eq_true (by kernel_rfl)) (by unfold Func.isWrapper; rw [if_neg (of_decide_eq_false (by kernel_rfl))]; exact ⟨rfl, rfl⟩)
    (fun os started H enc _ => lifted os started H enc)
end Go.Proofs.Ytagfaaciakbnbaa.rolesAll
namespace Go.Proofs.Ytagfaaciakbnbaa
theorem rolesAll_holds : Rows.RolesAllSaid := rolesAll.said
end Go.Proofs.Ytagfaaciakbnbaa
