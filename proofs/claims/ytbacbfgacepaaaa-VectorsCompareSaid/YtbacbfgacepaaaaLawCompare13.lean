/-
  VectorsCompare: how any two stand, and whether any may be, is as the document says. No condition.
-/
import Derived.Test.YtbacbfgacepaaaaFixed13
import Derived.Test.YtbacbfgacepaaaaVcRef2
import Derived.Test.YtbacbfgacepaaaaRow13
import Derived.BigQuiet
import Derived.Lib.QuietBelow
namespace Go.Proofs.Ytbacbfgacepaaaa.vectorsCompare
open Go.ChangeShapes Go.WideShapes Go.ChangeAt Go.RowKit Go.Deep Go.Sort

set_option maxHeartbeats 2000000 in
set_option maxRecDepth 100000 in
theorem walk_at (ra da rb db : Nat) (ca pa oa cb pb ob t : Int) (is : Bool) (w : World)
    (C1 : Hid (∀ W, Calls Try.prog 9 #[.agg #[.int .u64 (ra : Int), .int .i64 ca, .int .u64 (da : Int), .int .i64 pa, .int .i64 oa], .agg #[.int .u64 (rb : Int), .int .i64 cb, .int .u64 (db : Int), .int .i64 pb, .int .i64 ob]] W fun e w' => e = .returned (.int .i64 t) ∧ Below W.heap.size W w'))
    (C2 : Hid (∀ W, Calls Try.prog 10 #[.agg #[.int .u64 (ra : Int), .int .i64 ca, .int .u64 (da : Int), .int .i64 pa, .int .i64 oa], .agg #[.int .u64 (rb : Int), .int .i64 cb, .int .u64 (db : Int), .int .i64 pb, .int .i64 ob]] W fun e w' => e = .returned (.int .i64 t) ∧ Below W.heap.size W w'))
    (C3 : Hid (∀ W, Calls Try.prog 11 #[.agg #[.int .u64 (ra : Int), .int .i64 ca, .int .u64 (da : Int), .int .i64 pa, .int .i64 oa]] W fun e w' => e = .returned (.bool is) ∧ Below W.heap.size W w'))
    (C4 : Hid (∀ W, Calls Try.prog 12 #[.agg #[.int .u64 (ra : Int), .int .i64 ca, .int .u64 (da : Int), .int .i64 pa, .int .i64 oa]] W fun e w' => e = .returned (.bool is) ∧ Below W.heap.size W w')) :
    Calls Try.prog 3 #[.agg #[.int .u64 (ra : Int), .int .i64 ca, .int .u64 (da : Int), .int .i64 pa, .int .i64 oa], .agg #[.int .u64 (rb : Int), .int .i64 cb, .int .u64 (db : Int), .int .i64 pb, .int .i64 ob]] w fun e w' => e = .returned (.bool true) ∧ Below w.heap.size w w' := by
  have hA := heap_alloc2_old w (.cells #[.int .u64 (ra : Int), .int .i64 ca, .int .u64 (da : Int), .int .i64 pa, .int .i64 oa] 24) (.cells #[.int .u64 (rb : Int), .int .i64 cb, .int .u64 (db : Int), .int .i64 pb, .int .i64 ob] 24)
  have hB := heap_alloc2_new w (.cells #[.int .u64 (ra : Int), .int .i64 ca, .int .u64 (da : Int), .int .i64 pa, .int .i64 oa] 24) (.cells #[.int .u64 (rb : Int), .int .i64 cb, .int .u64 (db : Int), .int .i64 pb, .int .i64 ob] 24)
  have hb := alloc_then (o := (.cells #[.int .u64 (rb : Int), .int .i64 cb, .int .u64 (db : Int), .int .i64 pb, .int .i64 ob] 24)) (alloc_below w (.cells #[.int .u64 (ra : Int), .int .i64 ca, .int .u64 (da : Int), .int .i64 pa, .int .i64 oa] 24))
  go_enter Try.func3, Try.ntmps3
  go_upto_region 1 with fail
  generalize (w.alloc (.cells #[.int .u64 (ra : Int), .int .i64 ca, .int .u64 (da : Int), .int .i64 pa, .int .i64 oa] 24)).alloc (.cells #[.int .u64 (rb : Int), .int .i64 cb, .int .u64 (db : Int), .int .i64 pb, .int .i64 ob] 24) = W2 at *
  have k0 := cell_regrown (vcells hA).1
  have k1 := cell_regrown (vcells hA).2.1
  have k2 := cell_regrown (vcells hA).2.2.1
  have k3 := cell_regrown (vcells hA).2.2.2.1
  have k4 := cell_regrown (vcells hA).2.2.2.2.1
  have l0 := cell_regrown (vcells hB).1
  have l1 := cell_regrown (vcells hB).2.1
  have l2 := cell_regrown (vcells hB).2.2.1
  have l3 := cell_regrown (vcells hB).2.2.2.1
  have l4 := cell_regrown (vcells hB).2.2.2.2.1
  have HB := hide hb
  have cF := at_grown fixed_any W2
  have c1 := at_grown (unhide C1) W2
  have c2 := at_grown (unhide C2) W2
  have c3 := at_grown (unhide C3) W2
  have c4 := at_grown (unhide C4) W2
  clear hA hB hb C1 C2 C3 C4
  refine wp_region_quiet_below (by kernel_rfl) (by kernel_rfl) ?_
  repeat (go_big_quiet_step (first | (go_at_call 8; exact cF _ _) | (go_at_call 9; exact c1 _ _) | (go_at_call 10; exact c2 _ _) | (go_at_call 11; exact c3 _ _) | (go_at_call 12; exact c4 _ _)))
  refine wpQuiet_nil ?_
  rintro _ ⟨⟨dq, osq⟩, rfl⟩
  have HB3 := hide (grown_then (unhide HB) dq osq)
  go_wp2_with fail
  go_ret
  exact ⟨rfl, unhide HB3⟩
theorem walk (a b : Vc) (w : World) (ha : a.fits) (hb : b.fits) : Calls Try.prog 3 #[a.val, b.val] w fun e w' => e = .returned (.bool true) ∧ Below w.heap.size w w' :=
  walk_at a.root a.bridge b.root b.bridge a.cost a.port a.on b.cost b.port b.on (a.cmp b) a.right w (hide fun W => vcmp_any a b W ha hb) (hide fun W => wcmp_any a b W) (hide fun W => vright_any a W) (hide fun W => wright_any a W)
set_option maxRecDepth 100000 in
theorem lifted (os : Os) (started : os.Started) (H : Type) (enc : TypeId × Value → H) :
    ReturnsInHanded {} Try.checked os 3 .any (Rows.vectorsCompareSpec.pre6 enc Try.prog Try.f3 Rows.vectorsCompareRow.domain false) (Rows.vectorsCompareSpec.post enc Try.prog Try.f3 false true false false) := by
  refine returnsInHanded_of_change (C := Try.checked) own started (by kernel_rfl) Try.func3
    (ChangeSpec.witness6 (enc := enc) (C := Try.checked) false ⟨#[], #[.agg #[.int .u64 0, .int .i64 0, .int .u64 0, .int .i64 0, .int .i64 0], .agg #[.int .u64 0, .int .i64 0, .int .u64 0, .int .i64 0, .int .i64 0]], []⟩ 8 (by kernel_rfl) (by kernel_rfl) (by kernel_rfl) (by kernel_rfl)) ?_
  intro W base args ds gs before hval0 hW _ _
  have hval : ∀ (j : Nat) t v, Try.f3.params[j]? = some t → args[j]? = some v → Value.okWide Try.prog W .any base t v := hval0
  have hW' := hW
  obtain ⟨p, q, hA0, hV, rfl, hfz, hnd⟩ := hW
  have hA : DataW.TrodAll enc Try.prog W 0 (fun _ => true) true Try.f3.params.toList args.toList ds p := hA0
  rw [Try.params3] at hA hval
  obtain ⟨v0, v1, d0, d1, p0, p1, rfl, rfl, rfl, h0, h1⟩ := trodAll_two hA
  obtain ⟨a0, rfl, rfl, rfl, w0, k0⟩ := open_vec (hval 0 24 v0 rfl rfl) h0
  obtain ⟨a1, rfl, rfl, rfl, w1, k1⟩ := open_vec (hval 1 24 v1 rfl rfl) h1
  obtain ⟨rfl, rfl⟩ := trodVars_none hV
  have e1 : Rows.vectorsCompareSpec.fn H ([vecD a0, vecD a1] ++ []) = { results := [.lit (.bool true)], args := [vecD a0, vecD a1] } := by simp [Rows.vectorsCompareSpec]
  refine (walk a0 a1 W k0 k1).mono fun e W' ⟨he, hb⟩ => ?_
  subst he
  refine ⟨_, rfl, _, _, _, [], [], [], hW', ?_, ?_, ?_, hb.frame _, fun h => by cases h⟩
  · rw [e1]; exact trodAll_mk1 (shut_bool Try.underlying4 true)
  · rw [e1]; exact trodAll_mk2 (shut_vec a0 w0) (shut_vec a1 w1)
  · rw [e1]; rfl
theorem said : Rows.VectorsCompareSaid :=
  OpenClaim.holds_of_wide 3 Try.f3 rfl rfl rfl rfl rfl rfl rfl ⟨rfl, rfl, rfl, rfl, rfl⟩ rfl rfl rfl rfl rfl (by kernel_rfl) Try.func3 (by kernel_rfl)
    (of_decide_eq_true (by kernel_rfl)) (by unfold Func.isWrapper; rw [if_neg (of_decide_eq_false (by kernel_rfl))]; exact ⟨rfl, rfl⟩)
    (fun os started H enc _ => lifted os started H enc)
end Go.Proofs.Ytbacbfgacepaaaa.vectorsCompare
namespace Go.Proofs.Ytbacbfgacepaaaa
theorem vectorsCompare_holds : Rows.VectorsCompareSaid := vectorsCompare.said
end Go.Proofs.Ytbacbfgacepaaaa
