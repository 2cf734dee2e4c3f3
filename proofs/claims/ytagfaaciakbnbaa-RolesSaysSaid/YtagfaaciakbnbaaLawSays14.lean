/-
  RolesSays: what all ports say is of one root, and one cost; of the bridge, and their own numbers. No condition.
-/
import Derived.Test.YtagfaaciakbnbaaRow14
namespace Go.Proofs.Ytagfaaciakbnbaa.rolesSays
open Go.ChangeShapes Go.WideShapes Go.ChangeAt Go.RowKit Go.Deep Go.Sort

set_option maxHeartbeats 4000000 in
set_option maxRecDepth 100000 in
theorem walk (b : Nat) (ao : Option Addr) (n cap : Nat) (S : Nat → Vw) (w : World) (hb : b < 18446744073709551616) (h : VwsIn w ao n cap S) :
    Calls Try.prog 6 #[.int .u64 (b : Int), .slice ao n cap] w fun e w' => e = .returned (.bool true) ∧ Below w.heap.size w w' := by
  obtain ⟨m, ax, hm16, hmn, dm, ds, hs, hxn⟩ := first16 h
  have hcm : cap ≤ maxLen := h.2.1
  have hnc := h.1
  unfold maxLen at hcm
  have HV := hide hs
  have HBB := hide hb
  have CF := hide fixed_any
  have CR := hide (rroot_any b ax m cap S w hb hs)
  have CS := hide (fun (W : World) (k : Int) (hW : Below w.heap.size w W) => rsays_any b ax m cap S k W hb (hs.below hW))
  have CO := hide (fun W => rown_any b W)
  have hroot : 0 < (rootVc b S m).on ∨ rootVc b S m = ⟨b, 0, b, 0, 0⟩ := by
    rcases root_is b S m with h | ⟨i, hi, _, h⟩
    · exact .inr h
    · refine .inl ?_
      rw [h]
      show 0 < (i : Int) + 1
      omega
  have HRT := hide hroot
  clear h hb hs hxn hroot
  unfold saysVc at CS
  unfold ownVc at CO
  generalize rootVc b S m = u at *
  obtain ⟨ru, cu, du, pu, ou⟩ := u
  unfold Vc.val at CR CS CO
  simp only at CR CS CO
  go_enter Try.func6, Try.ntmps6
  go_wp2_with fail
  refine (unhide CR).mono ?_
  rintro e w1 ⟨rfl, b1⟩
  have HB1 := hide (alloc_then (o := .cells #[.int .u64 (ru : Int), .int .i64 cu, .int .u64 (du : Int), .int .i64 pu, .int .i64 ou] 25) b1)
  have HG1 := hide (heap_alloc_new w1 (.cells #[.int .u64 (ru : Int), .int .i64 cu, .int .u64 (du : Int), .int .i64 pu, .int .i64 ou] 25))
  clear b1 CR
  go_wp2_with fail
  go_loopw [7] (fun a wr => ∃ i : Nat, a = .int .i64 i ∧ i ≤ m + 1 ∧ wr.heap[w1.heap.size]? = some (.cells #[.int .u64 (ru : Int), .int .i64 cu, .int .u64 (du : Int), .int .i64 pu, .int .i64 ou] 25 (0, 0)) ∧ Below w.heap.size w wr) (fun a _ => (m + 1 - intOf a).toNat)
  case atStart => exact ⟨1, rfl, by omega, unhide HG1, unhide HB1⟩
  case round =>
    obtain ⟨i, rfl, hin, hg, hbl⟩ := hrel
    have HG := hide hg
    have HB := hide hbl
    clear hg hbl HG1 HB1
    by_cases hlt : i ≤ m
    · have hiI : (i : Int) ≤ (m : Int) := by omega
      have C := hide (unhide CS wr i (unhide HB))
      go_wp2_with fail
      refine (unhide C).mono ?_
      rintro e w2 ⟨rfl, b2⟩
      have HB2 := hide (alloc_then (o := .cells #[.int .u64 (ru : Int), .int .i64 cu, .int .u64 (b : Int), .int .i64 i, .int .i64 i] 25) (bthen (unhide HB) b2))
      have HG2 := hide (Below.row (alloc_below w2 (.cells #[.int .u64 (ru : Int), .int .i64 cu, .int .u64 (b : Int), .int .i64 i, .int .i64 i] 25)) (Below.row b2 (unhide HG)))
      obtain ⟨k0, k1, k2, k3, k4, -⟩ := vcells (unhide HG2)
      obtain ⟨l0, l1, l2, l3, l4, -⟩ := vcells (heap_alloc_new w2 (.cells #[.int .u64 (ru : Int), .int .i64 cu, .int .u64 (b : Int), .int .i64 i, .int .i64 i] 25))
      clear b2 HB HG C
      go_wp2_with fail
      go_roundw
      case rel => exact ⟨i + 1, by go_num, by omega, unhide HG2, unhide HB2⟩
      case measure => simp [intOf]; omega
    · have hiI : ¬ (i : Int) ≤ (m : Int) := by omega
      clear CS
      go_upto_region 9 with fail
      have cf := at_grown (unhide CF) wr
      have co := at_grown (unhide CO) wr
      have HWG := unhide HG
      clear CF CO
      rcases unhide HRT with hp | he
      · have d0 : decide (0 < ou) = true := decide_eq_true hp
        clear HRT hp
        obtain ⟨q0, q1, q2, q3, q4, -⟩ := vcells HWG
        have k0 := cell_regrown q0
        have k1 := cell_regrown q1
        have k2 := cell_regrown q2
        have k3 := cell_regrown q3
        have k4 := cell_regrown q4
        clear q0 q1 q2 q3 q4 HWG
        refine wp_region_quiet_below (by kernel_rfl) (by kernel_rfl) ?_
        repeat (go_big_quiet_step (first | (go_at_call 16; exact cf _ _) | (go_at_call 15; exact co _ _)))
        refine wpQuiet_nil ?_
        rintro _ ⟨⟨dq, osq⟩, rfl⟩
        have HB5 := hide (grown_then (unhide HB) dq osq)
        clear k0 k1 k2 k3 k4 cf co
        go_wp2_with fail
        go_ret
        exact ⟨rfl, unhide HB5⟩
      · simp only [Vc.mk.injEq] at he
        obtain ⟨rfl, rfl, rfl, rfl, rfl⟩ := he
        have EQ := eql_vec_at (du : Int) 0 (du : Int) 0 0 (du : Int) 0 (du : Int) 0 0 true (decide_eq_true ⟨rfl, rfl, rfl, rfl, rfl⟩)
        clear HRT
        obtain ⟨q0, q1, q2, q3, q4, -⟩ := vcells HWG
        have k0 := cell_regrown q0
        have k1 := cell_regrown q1
        have k2 := cell_regrown q2
        have k3 := cell_regrown q3
        have k4 := cell_regrown q4
        clear q0 q1 q2 q3 q4 HWG
        refine wp_region_quiet_below (by kernel_rfl) (by kernel_rfl) ?_
        repeat (go_big_quiet_step (first | (go_at_call 16; exact cf _ _) | (go_at_call 15; exact co _ _)))
        refine wpQuiet_nil ?_
        rintro _ ⟨⟨dq, osq⟩, rfl⟩
        have HB5 := hide (grown_then (unhide HB) dq osq)
        clear k0 k1 k2 k3 k4 cf co
        go_wp2_with fail
        go_ret
        exact ⟨rfl, unhide HB5⟩
set_option maxRecDepth 100000 in
theorem lifted (os : Os) (started : os.Started) (H : Type) (enc : TypeId × Value → H) :
    ReturnsInHanded {} Try.checked os 6 .any (Rows.rolesSaysSpec.pre6 enc Try.prog Try.f6 Rows.rolesSaysRow.domain false) (Rows.rolesSaysSpec.post enc Try.prog Try.f6 false true false false) := by
  refine returnsInHanded_of_change (C := Try.checked) own started (by kernel_rfl) Try.func6
    (ChangeSpec.witness6 (enc := enc) (C := Try.checked) false ⟨#[], #[.int .u64 0, .slice none 0 0], []⟩ 8 (by kernel_rfl) (by kernel_rfl) (by kernel_rfl) (by kernel_rfl)) ?_
  intro W base args ds gs before hval0 hW _ _
  have hval : ∀ (j : Nat) t v, Try.f6.params[j]? = some t → args[j]? = some v → Value.okWide Try.prog W .any base t v := hval0
  have hW' := hW
  obtain ⟨p, q, hA0, hV, rfl, hfz, hnd⟩ := hW
  have hA : DataW.TrodAll enc Try.prog W 0 (fun _ => true) true Try.f6.params.toList args.toList ds p := hA0
  rw [Try.params6] at hA hval
  obtain ⟨v0, v1, d0, d1, p0, p1, rfl, rfl, rfl, h0, h1⟩ := trodAll_two hA
  obtain ⟨a0, rfl, rfl, rfl, w0⟩ := open_int Try.underlying22 (hval 0 22 v0 rfl rfl) h0
  have q0 := bnd_u64 w0
  obtain ⟨z0, rfl⟩ : ∃ m : Nat, a0 = m := ⟨a0.toNat, by omega⟩
  have y1 : ∀ x ∈ p1, x.block < W.heap.size := fun x hx => hW'.lt x (by simp [hx])
  obtain ⟨ao1, n1, cap1, S1, rfl, hs1, hz1⟩ := open_views (hval 1 23 v1 rfl rfl) h1
  obtain ⟨rfl, rfl⟩ := trodVars_none hV
  have e1 : Rows.rolesSaysSpec.fn H ([.lit (.int .u64 (z0 : Int)), d1] ++ []) = { results := [.lit (.bool true)], args := [.lit (.int .u64 (z0 : Int)), d1] } := by simp [Rows.rolesSaysSpec]
  refine (walk z0 ao1 n1 cap1 S1 W (by omega) hs1).mono fun e W' ⟨he, hb⟩ => ?_
  subst he
  refine ⟨_, rfl, _, _, _, [], [] ++ p1, [], hW', ?_, ?_, ?_, hb.frame _, fun h => by cases h⟩
  · rw [e1]; exact trodAll_mk1 (shut_bool Try.underlying4 true)
  · rw [e1]; exact trodAll_mk2 (shut_int Try.underlying22 w0) (stay_views h1 y1 hb)
  · rw [e1]; rfl
theorem said : Rows.RolesSaysSaid :=
  OpenClaim.holds_of_wide 6 Try.f6 rfl rfl rfl rfl rfl rfl rfl ⟨rfl, rfl, rfl, rfl, rfl⟩ rfl rfl rfl rfl rfl (by kernel_rfl) Try.func6 (by kernel_rfl)
    (of_decide_eq_true (by kernel_rfl)) (by unfold Func.isWrapper; rw [if_neg (of_decide_eq_false (by kernel_rfl))]; exact ⟨rfl, rfl⟩)
    (fun os started H enc _ => lifted os started H enc)
end Go.Proofs.Ytagfaaciakbnbaa.rolesSays
namespace Go.Proofs.Ytagfaaciakbnbaa
theorem rolesSays_holds : Rows.RolesSaysSaid := rolesSays.said
end Go.Proofs.Ytagfaaciakbnbaa
