/-
  VectorsMake: what is farther, what any message says, and which of any is the best one, is as the document says; what is handed in stays. No condition.
-/
import Derived.Test.YtbacbfgacepaaaaFixed13
import Derived.Test.YtbacbfgacepaaaaList13
import Derived.Test.YtbacbfgacepaaaaVcRef3
import Derived.Test.YtbacbfgacepaaaaRow13
import Derived.Deep.DeepCutAuto
namespace Go.Proofs.Ytbacbfgacepaaaa.vectorsMake
open Go.ChangeShapes Go.WideShapes Go.ChangeAt Go.RowKit Go.Deep Go.Sort

theorem vec_info : ∃ i, Try.prog.info? 24 = some i ∧ i.zero = some (.agg #[.int .u64 0, .int .i64 0, .int .u64 0, .int .i64 0, .int .i64 0]) ∧ i.size = 5 ∧ i.bytes = 40 := by
  have h : (Try.prog.info? 24).map (fun i => (i.zero, i.size, i.bytes)) = some (some (.agg #[.int .u64 0, .int .i64 0, .int .u64 0, .int .i64 0, .int .i64 0]), 5, 40) := by kernel_rfl
  cases hi : Try.prog.info? 24 with
  | none => rw [hi] at h; cases h
  | some i =>
    rw [hi] at h
    simp only [Option.map_some, Option.some.injEq, Prod.mk.injEq] at h
    exact ⟨i, rfl, h.1, h.2.1, h.2.2⟩
set_option maxHeartbeats 8000000 in
set_option maxRecDepth 100000 in
theorem walk_at (ao : Option Addr) (n cap : Nat) (S : Nat → Vc) (cost : Int) (k : Int) (c p l f a x : Bool) (r R C B P A M H D : Int) (w : World) (h : VcsIn w ao n cap S) (hnil : ao = none → cap = 0)
    (O1 : Hid (∀ W, Calls Try.prog 17 #[.agg #[.int .i64 k, .bool c, .bool p, .bool l, .bool f, .bool a, .bool x, .int .i64 r, .int .u64 R, .int .i64 C, .int .u64 B, .int .i64 P, .int .i64 A, .int .i64 M, .int .i64 H, .int .i64 D], .int .i64 cost] W fun e w' => e = .returned (.agg #[.int .u64 R, .int .i64 C, .int .u64 B, .int .i64 P, .int .i64 cost]) ∧ Below W.heap.size W w'))
    (O2 : Hid (∀ W, Calls Try.prog 18 #[.agg #[.int .i64 k, .bool c, .bool p, .bool l, .bool f, .bool a, .bool x, .int .i64 r, .int .u64 R, .int .i64 C, .int .u64 B, .int .i64 P, .int .i64 A, .int .i64 M, .int .i64 H, .int .i64 D], .int .i64 cost] W fun e w' => e = .returned (.agg #[.int .u64 R, .int .i64 C, .int .u64 B, .int .i64 P, .int .i64 cost]) ∧ Below W.heap.size W w')) :
    Calls Try.prog 4 #[.slice ao n cap, .int .i64 cost, .agg #[.int .i64 k, .bool c, .bool p, .bool l, .bool f, .bool a, .bool x, .int .i64 r, .int .u64 R, .int .i64 C, .int .u64 B, .int .i64 P, .int .i64 A, .int .i64 M, .int .i64 H, .int .i64 D]] w fun e w' => e = .returned (.bool true) ∧ Below w.heap.size w w' := by
  obtain ⟨m, ax, hm40, hmn, dm, ds, hs, hxn⟩ := first40 h
  have hcm : cap ≤ maxLen := h.2.1
  have hnc := h.1
  unfold maxLen at hcm
  obtain ⟨i0, hi0, hz0, hz1, hz2⟩ := vec_info
  have hzc : ax = none → cap = 0 := fun q => hnil (hxn q)
  have hb := alloc_below w (.cells #[.int .i64 k, .bool c, .bool p, .bool l, .bool f, .bool a, .bool x, .int .i64 r, .int .u64 R, .int .i64 C, .int .u64 B, .int .i64 P, .int .i64 A, .int .i64 M, .int .i64 H, .int .i64 D] 31)
  have hR := heap_alloc_new w (.cells #[.int .i64 k, .bool c, .bool p, .bool l, .bool f, .bool a, .bool x, .int .i64 r, .int .u64 R, .int .i64 C, .int .u64 B, .int .i64 P, .int .i64 A, .int .i64 M, .int .i64 H, .int .i64 D] 31)
  have HV := hide (hs.below hb)
  have HB := hide hb
  have HR := hide hR
  have CF := hide fixed_any
  clear h hs hb hR hnil hxn
  go_enter Try.func4, Try.ntmps4
  go_upto_region 2 with fail
  generalize w.alloc (.cells #[.int .i64 k, .bool c, .bool p, .bool l, .bool f, .bool a, .bool x, .int .i64 r, .int .u64 R, .int .i64 C, .int .u64 B, .int .i64 P, .int .i64 A, .int .i64 M, .int .i64 H, .int .i64 D] 31) = W1 at *
  go_cut [0, 7] (fun u v wx => ∃ (ay : Option Addr) (cy : Nat), u = .slice ax m cap ∧ v = .slice ay m cy ∧ VcsIn wx ay m cy S ∧ Below W1.heap.size W1 wx)
  case first =>
    have hmc : m ≤ cap := by omega
    have own : (W1.alloc (.cells #[] 24)).ownsRow W1.heap.size 24 5 (.slice (some ⟨W1.heap.size, 0, none⟩) 0 0) 0 [] :=
      ⟨rfl, .inr ⟨W1.heap.size, 0, #[], rfl, Nat.le_refl _, heap_alloc_new _ _, Nat.le_refl _, Nat.zero_le _, rfl, rfl⟩⟩
    have HO := hide own
    have HF := hide (fun i hi => (unhide HV).fits i hi)
    clear own
    cases hax : ax with
    | none =>
      subst hax
      obtain rfl : cap = 0 := hzc rfl
      obtain rfl : m = 0 := by omega
      go_wp2_with (first | (at_builtin; refine wpList_append_own_none rfl (.tmp 15) (.tmp 16) 29 rfl W1.heap.size 24 i0 5 Try.underlying29 hi0 _ 0 [] rfl (unhide HO) rfl ?_))
      go_meet
      exact ⟨_, _, rfl, rfl, ⟨Nat.le_refl _, Nat.zero_le _, .inl rfl⟩, alloc_below _ _⟩
    | some ad =>
      subst hax
      have src : Hid (∀ j u, (vcL S m)[j]? = some u → (W1.alloc (.cells #[] 24)).cell? (ad.add j) = some u) := fun j u hu => by
        by_cases h0 : m = 0
        · subst h0; simp [vcL] at hu
        · obtain ⟨b, o, hbo, hS⟩ := (unhide HV).2.2.resolve_left h0
          obtain rfl : ad = ⟨b, o, none⟩ := Option.some.inj hbo
          exact vcL_src (fun i hi => (hS i hi).1.below (alloc_below W1 _)) j u hu
      go_wp2_with (first | (at_builtin; refine wpList_append_own _ rfl (.tmp 15) (.tmp 16) 29 rfl W1.heap.size 24 i0 _ 5 40 Try.underlying29 hi0 hz0 hz1 hz2 rfl (by decide) _ 0 [] rfl (unhide HO) ad m cap (vcL S m) rfl (vcL_len S m) (unhide src) (vcL_one S m) (by unfold maxLen; omega) (by omega) (by simp) ?_; intro v' w1 ho1 hg1 hn1))
      rw [Nat.zero_add, List.nil_append] at ho1
      obtain ⟨ay, cy, rfl, hv⟩ := vcL_own ho1 (unhide HF)
      have hb1 := (alloc_below W1 (.cells #[] 24)).trans ((But2.by (g := W1.heap.size) hg1).below (Nat.le_refl _) (fun k hk => Nat.le_of_eq (Option.some.inj (show some W1.heap.size = some k from hk))) (by simp))
      have H1 := hide (And.intro hv hb1)
      clear ho1 hg1 hn1 hv hb1
      go_wp2_with fail
      go_meet
      exact ⟨ay, cy, rfl, rfl, (unhide H1).1, (unhide H1).2⟩
  case rest =>
    obtain ⟨ay, cy, rfl, rfl, hy, hb1⟩ := hcut
    have HY := hide hy
    have HB1 := hide hb1
    have hmc : m ≤ cap := by omega
    have hmy : m ≤ cy := hy.1
    clear hy hb1 dm ds hnc hmn
    go_wp2_with fail
    go_loopw [8] (fun u wr => ∃ i : Nat, u = .int .i64 i ∧ i ≤ m ∧ Below W1.heap.size W1 wr ∧ VcsIn wr ay m cy S) (fun u _ => (m - intOf u).toNat)
    case atStart => exact ⟨0, rfl, Nat.zero_le _, unhide HB1, unhide HY⟩
    case round =>
      obtain ⟨i, rfl, him, hb, hy⟩ := hrel
      have HB2 := hide hb
      have HY2 := hide hy
      clear hb hy HB1 HY
      by_cases hi : i < m
      · obtain ⟨b, o, rfl, hS⟩ := (unhide HV).2.2.resolve_left (by omega)
        have ha := (hS i hi).1.below (unhide HB2)
        have k0 := cell_regrown ha.1
        have k1 := cell_regrown ha.2.1
        have k2 := cell_regrown ha.2.2.1
        have k3 := cell_regrown ha.2.2.2.1
        have k4 := cell_regrown ha.2.2.2.2
        have cp := at_grown (fun W => vplus_any (S i) cost W) wr
        have cw := at_grown (fun W => wplus_any (S i) cost W) wr
        unfold Vc.val Vc.plus at cp cw
        simp only at cp cw
        clear ha hS
        generalize (S i).far cost = fc at cp cw
        generalize S i = q at k0 k1 k2 k3 k4 cp cw
        obtain ⟨rq, cq, dq, pq, oq⟩ := q
        simp only at k0 k1 k2 k3 k4 cp cw
        have EN := neq_vec_same (rq : Int) fc (dq : Int) pq oq
        go_wp2_with fail
        have hiI : (i : Int) < (m : Int) := by omega
        refine wp_region_quiet_below (by kernel_rfl) (by kernel_rfl) ?_
        repeat (go_big_quiet_step (first | (go_at_call 13; exact cp _ _) | (go_at_call 14; exact cw _ _)))
        refine wpQuiet_nil ?_
        rintro _ ⟨⟨dd, osq⟩, rfl⟩
        have HB3 := hide (grown_then (unhide HB2) dd osq)
        have HY3 := hide ((unhide HY2).below (below_regrown wr dd osq))
        clear k0 k1 k2 k3 k4 cp cw EN
        go_wp2_with fail
        go_roundw
        case rel => exact ⟨i + 1, by go_num, by omega, unhide HB3, unhide HY3⟩
        case measure => simp [intOf]; omega
      · obtain rfl : i = m := by omega
        generalize wr = wo at *
        have cb := fun d os => Calls.regrown_of (vbest_any ax i cap S _ (((unhide HV).below (unhide HB2)).below (below_regrown wo d os)))
        have cd := fun d os => Calls.regrown_of (wbest_any ax i cap S _ (((unhide HV).below (unhide HB2)).below (below_regrown wo d os)))
        generalize bestF S i = bq at cb cd
        have co := at_grown (unhide O1) wo
        have cr := at_grown (unhide O2) wo
        have L2 := hide (obj_regrown (Below.row (unhide HB2) (unhide HR)))
        have EN := neq_vec_same R C B P cost
        clear hi
        go_wp2_with fail
        refine wp_region_quiet_below (by kernel_rfl) (by kernel_rfl) ?_
        repeat (first | (go_big_quiet_want; refine quiet_load_obj 31 _ rfl w.heap.size rfl 31 _ _ _ (unhide L2) Try.underlying31 rfl (by kernel_rfl) ?_; simp only [Act.put, List.setIfInBounds_toArray, List.set_cons_zero, List.set_cons_succ]; go_big_quiet_on) | (go_big_quiet_step (first | (go_at_call 15; exact cb _ _) | (go_at_call 16; exact cd _ _) | (go_at_call 17; exact co _ _) | (go_at_call 18; exact cr _ _))))
        refine wpQuiet_nil ?_
        rintro _ ⟨⟨dd, osq⟩, rfl⟩
        have HB3 := hide (grown_then (unhide HB2) dd osq)
        have HY3 := hide ((unhide HY2).below (below_regrown wo dd osq))
        clear cb cd co cr L2 EN HB2 HY2 O1 O2 HR
        generalize grow (redrawn wo dd) osq = w3 at *
        go_wp2_with fail
        go_loopw [9] (fun u wr => ∃ j : Nat, u = .int .i64 j ∧ j ≤ i ∧ Below W1.heap.size W1 wr ∧ VcsIn wr ay i cy S) (fun u _ => (i - intOf u).toNat)
        case atStart => exact ⟨0, rfl, Nat.zero_le _, unhide HB3, unhide HY3⟩
        case round =>
          obtain ⟨j, rfl, hji, hb, hy⟩ := hrel
          have HB4 := hide hb
          have HY4 := hide hy
          clear hb hy HB3 HY3
          by_cases hj : j < i
          · obtain ⟨b, o, rfl, hS⟩ := (unhide HV).2.2.resolve_left (by omega)
            obtain ⟨b', o', rfl, hS'⟩ := (unhide HY4).2.2.resolve_left (by omega)
            obtain ⟨k0, k1, k2, k3, k4⟩ := (hS j hj).1.below (unhide HB4)
            obtain ⟨l0, l1, l2, l3, l4⟩ := (hS' j hj).1
            clear hS hS'
            generalize S j = q at k0 k1 k2 k3 k4 l0 l1 l2 l3 l4
            obtain ⟨rq, cq, dq, pq, oq⟩ := q
            simp only at k0 k1 k2 k3 k4 l0 l1 l2 l3 l4
            have EN := neq_vec_same (rq : Int) cq (dq : Int) pq oq
            go_wp2_with fail
            have hjI : (j : Int) < (i : Int) := by omega
            go_quiet (fail)
            go_wp2_with fail
            go_roundw
            case rel => exact ⟨j + 1, by go_num, by omega, below_drewN (unhide HB4) _, (unhide HY4).below (below_drewN (Below.refl _ _) _)⟩
            case measure => simp [intOf]; omega
          · obtain rfl : j = i := by omega
            clear HV HY4 hj
            go_wp2_with fail
            refine (unhide CF _).mono ?_
            rintro e w4 ⟨rfl, b4⟩
            have HB5 := hide (bthen (unhide HB) (bthen (unhide HB4) b4))
            clear b4
            go_wp2_with fail
            go_ret
            exact ⟨rfl, unhide HB5⟩
theorem walk (ao : Option Addr) (n cap : Nat) (S : Nat → Vc) (cost : Int) (b : Bp) (w : World) (h : VcsIn w ao n cap S) (hnil : ao = none → cap = 0) (_ : I64 cost) (_ : b.fits) :
    Calls Try.prog 4 #[.slice ao n cap, .int .i64 cost, b.val] w fun e w' => e = .returned (.bool true) ∧ Below w.heap.size w w' :=
  walk_at ao n cap S cost b.kind b.change b.propose b.learn b.forward b.agree b.ack b.role b.root b.cost b.bridge b.port b.age b.maxAge b.hello b.delay w h hnil (hide fun W => vof_any b cost W) (hide fun W => wof_any b cost W)
set_option maxRecDepth 100000 in
theorem lifted (os : Os) (started : os.Started) (H : Type) (enc : TypeId × Value → H) :
    ReturnsInHanded {} Try.checked os 4 .any (Rows.vectorsMakeSpec.pre6 enc Try.prog Try.f4 Rows.vectorsMakeRow.domain false) (Rows.vectorsMakeSpec.post enc Try.prog Try.f4 false true false false) := by
  refine returnsInHanded_of_change (C := Try.checked) own started (by kernel_rfl) Try.func4
    (ChangeSpec.witness6 (enc := enc) (C := Try.checked) false ⟨#[], #[.slice none 0 0, .int .i64 0, .agg #[.int .i64 0, .bool false, .bool false, .bool false, .bool false, .bool false, .bool false, .int .i64 0, .int .u64 0, .int .i64 0, .int .u64 0, .int .i64 0, .int .i64 0, .int .i64 0, .int .i64 0, .int .i64 0]], []⟩ 8 (by kernel_rfl) (by kernel_rfl) (by kernel_rfl) (by kernel_rfl)) ?_
  intro W base args ds gs before hval0 hW _ _
  have hval : ∀ (j : Nat) t v, Try.f4.params[j]? = some t → args[j]? = some v → Value.okWide Try.prog W .any base t v := hval0
  have hW' := hW
  obtain ⟨p, q, hA0, hV, rfl, hfz, hnd⟩ := hW
  have hA : DataW.TrodAll enc Try.prog W 0 (fun _ => true) true Try.f4.params.toList args.toList ds p := hA0
  rw [Try.params4] at hA hval
  obtain ⟨v0, v1, v2, d0, d1, d2, p0, p1, p2, rfl, rfl, rfl, h0, h1, h2⟩ := trodAll_three hA
  have y0 : ∀ x ∈ p0, x.block < W.heap.size := fun x hx => hW'.lt x (by simp [hx])
  obtain ⟨ao0, n0, cap0, S0, rfl, hs0, hz0⟩ := open_vecs (hval 0 29 v0 rfl rfl) h0
  obtain ⟨a1, rfl, rfl, rfl, w1⟩ := open_int Try.underlying3 (hval 1 3 v1 rfl rfl) h1
  obtain ⟨a2, rfl, rfl, rfl, w2, k2⟩ := open_bp (hval 2 31 v2 rfl rfl) h2
  obtain ⟨rfl, rfl⟩ := trodVars_none hV
  have e1 : Rows.vectorsMakeSpec.fn H ([d0, .lit (.int .i64 a1), bpD a2] ++ []) = { results := [.lit (.bool true)], args := [d0, .lit (.int .i64 a1), bpD a2] } := by simp [Rows.vectorsMakeSpec]
  refine (walk ao0 n0 cap0 S0 a1 a2 W hs0 hz0 (bnd_i64 w1) k2).mono fun e W' ⟨he, hb⟩ => ?_
  subst he
  refine ⟨_, rfl, _, _, _, [], p0 ++ ([] ++ []), [], hW', ?_, ?_, ?_, hb.frame _, fun h => by cases h⟩
  · rw [e1]; exact trodAll_mk1 (shut_bool Try.underlying4 true)
  · rw [e1]; exact trodAll_mk3 (stay h0 y0 hb) (shut_int Try.underlying3 w1) (shut_bp a2 w2)
  · rw [e1]; rfl
theorem said : Rows.VectorsMakeSaid :=
  OpenClaim.holds_of_wide 4 Try.f4 rfl rfl rfl rfl rfl rfl rfl ⟨rfl, rfl, rfl, rfl, rfl⟩ rfl rfl rfl rfl rfl (by kernel_rfl) Try.func4 (by kernel_rfl)
    (of_decide_eq_true (by kernel_rfl)) (by unfold Func.isWrapper; rw [if_neg (of_decide_eq_false (by kernel_rfl))]; exact ⟨rfl, rfl⟩)
    (fun os started H enc _ => lifted os started H enc)
end Go.Proofs.Ytbacbfgacepaaaa.vectorsMake
namespace Go.Proofs.Ytbacbfgacepaaaa
theorem vectorsMake_holds : Rows.VectorsMakeSaid := vectorsMake.said
end Go.Proofs.Ytbacbfgacepaaaa
