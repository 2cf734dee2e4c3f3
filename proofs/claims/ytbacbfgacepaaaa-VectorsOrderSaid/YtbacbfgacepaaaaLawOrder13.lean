/-
  VectorsOrder: of any two one is better, or they are one; of three the order goes on. No condition.
-/
import Derived.Test.YtbacbfgacepaaaaFixed13
import Derived.Test.YtbacbfgacepaaaaSame13
import Derived.Test.YtbacbfgacepaaaaRow13
import Derived.BigQuiet
import Derived.Lib.QuietBelow
namespace Go.Proofs.Ytbacbfgacepaaaa.vectorsOrder
open Go.ChangeShapes Go.WideShapes Go.ChangeAt Go.RowKit Go.Deep Go.Sort

/-- how three can stand -/
def Three (x y z : Int) : Prop :=
  (x = -1 ∧ y = -1 ∧ z = -1) ∨ (x = -1 ∧ y = 0 ∧ z = -1) ∨ (x = -1 ∧ y = 1 ∧ z = -1) ∨ (x = -1 ∧ y = 1 ∧ z = 0) ∨ (x = -1 ∧ y = 1 ∧ z = 1) ∨ (x = 0 ∧ y = -1 ∧ z = -1) ∨ (x = 0 ∧ y = 0 ∧ z = 0) ∨ (x = 0 ∧ y = 1 ∧ z = 1) ∨
  (x = 1 ∧ y = -1 ∧ z = -1) ∨ (x = 1 ∧ y = -1 ∧ z = 0) ∨ (x = 1 ∧ y = -1 ∧ z = 1) ∨ (x = 1 ∧ y = 0 ∧ z = 1) ∨ (x = 1 ∧ y = 1 ∧ z = 1)
theorem three {a b c : Vc} (ha : a.fits) (hb : b.fits) (hc : c.fits) : Three (a.cmp b) (b.cmp c) (a.cmp c) := by
  have h1 := cmp_cases ha hb
  have h2 := cmp_cases hb hc
  have h3 := cmp_cases ha hc
  generalize a.cmp b = x at *
  generalize b.cmp c = y at *
  generalize a.cmp c = z at *
  generalize a.key = ka at *
  generalize b.key = kb at *
  generalize c.key = kc at *
  unfold Three
  rcases h1 with ⟨rfl, l1⟩ | ⟨rfl, l1⟩ | ⟨rfl, l1⟩ <;> rcases h2 with ⟨rfl, l2⟩ | ⟨rfl, l2⟩ | ⟨rfl, l2⟩ <;> rcases h3 with ⟨rfl, l3⟩ | ⟨rfl, l3⟩ | ⟨rfl, l3⟩ <;> first | (exfalso; omega) | simp
set_option maxHeartbeats 4000000 in
set_option maxRecDepth 100000 in
theorem walk_at (ra da rb db re de ca pa oa cb pb ob ce pe oe x y z u : Int) (is : Bool) (w : World) (hu : u = -x) (hi : decide (x = 0) = is) (h : Three x y z)
    (EQ : ∀ W, (binOp .eql 24 (.agg #[.int .u64 ra, .int .i64 ca, .int .u64 da, .int .i64 pa, .int .i64 oa]) (.agg #[.int .u64 rb, .int .i64 cb, .int .u64 db, .int .i64 pb, .int .i64 ob])).run Try.prog W = .ok (.bool is) W)
    (C1 : Hid (∀ W, Calls Try.prog 9 #[.agg #[.int .u64 ra, .int .i64 ca, .int .u64 da, .int .i64 pa, .int .i64 oa], .agg #[.int .u64 rb, .int .i64 cb, .int .u64 db, .int .i64 pb, .int .i64 ob]] W fun e w' => e = .returned (.int .i64 x) ∧ Below W.heap.size W w'))
    (C2 : Hid (∀ W, Calls Try.prog 9 #[.agg #[.int .u64 rb, .int .i64 cb, .int .u64 db, .int .i64 pb, .int .i64 ob], .agg #[.int .u64 re, .int .i64 ce, .int .u64 de, .int .i64 pe, .int .i64 oe]] W fun e w' => e = .returned (.int .i64 y) ∧ Below W.heap.size W w'))
    (C3 : Hid (∀ W, Calls Try.prog 9 #[.agg #[.int .u64 ra, .int .i64 ca, .int .u64 da, .int .i64 pa, .int .i64 oa], .agg #[.int .u64 re, .int .i64 ce, .int .u64 de, .int .i64 pe, .int .i64 oe]] W fun e w' => e = .returned (.int .i64 z) ∧ Below W.heap.size W w'))
    (C4 : Hid (∀ W, Calls Try.prog 9 #[.agg #[.int .u64 rb, .int .i64 cb, .int .u64 db, .int .i64 pb, .int .i64 ob], .agg #[.int .u64 ra, .int .i64 ca, .int .u64 da, .int .i64 pa, .int .i64 oa]] W fun e w' => e = .returned (.int .i64 u) ∧ Below W.heap.size W w')) :
    Calls Try.prog 5 #[.agg #[.int .u64 ra, .int .i64 ca, .int .u64 da, .int .i64 pa, .int .i64 oa], .agg #[.int .u64 rb, .int .i64 cb, .int .u64 db, .int .i64 pb, .int .i64 ob], .agg #[.int .u64 re, .int .i64 ce, .int .u64 de, .int .i64 pe, .int .i64 oe]] w fun e w' => e = .returned (.bool true) ∧ Below w.heap.size w w' := by
  have hA := Below.row (alloc_below _ (.cells #[.int .u64 re, .int .i64 ce, .int .u64 de, .int .i64 pe, .int .i64 oe] 24)) (heap_alloc2_old w (.cells #[.int .u64 ra, .int .i64 ca, .int .u64 da, .int .i64 pa, .int .i64 oa] 24) (.cells #[.int .u64 rb, .int .i64 cb, .int .u64 db, .int .i64 pb, .int .i64 ob] 24))
  have hB := Below.row (alloc_below _ (.cells #[.int .u64 re, .int .i64 ce, .int .u64 de, .int .i64 pe, .int .i64 oe] 24)) (heap_alloc2_new w (.cells #[.int .u64 ra, .int .i64 ca, .int .u64 da, .int .i64 pa, .int .i64 oa] 24) (.cells #[.int .u64 rb, .int .i64 cb, .int .u64 db, .int .i64 pb, .int .i64 ob] 24))
  have hE : (((w.alloc (.cells #[.int .u64 ra, .int .i64 ca, .int .u64 da, .int .i64 pa, .int .i64 oa] 24)).alloc (.cells #[.int .u64 rb, .int .i64 cb, .int .u64 db, .int .i64 pb, .int .i64 ob] 24)).alloc (.cells #[.int .u64 re, .int .i64 ce, .int .u64 de, .int .i64 pe, .int .i64 oe] 24)).heap[w.heap.size + 1 + 1]? = some (.cells #[.int .u64 re, .int .i64 ce, .int .u64 de, .int .i64 pe, .int .i64 oe] 24 (0, 0)) := heap_last _ _ _ (sizes2 _ _ _)
  have hb := alloc_then (o := (.cells #[.int .u64 re, .int .i64 ce, .int .u64 de, .int .i64 pe, .int .i64 oe] 24)) (alloc_then (o := (.cells #[.int .u64 rb, .int .i64 cb, .int .u64 db, .int .i64 pb, .int .i64 ob] 24)) (alloc_below w (.cells #[.int .u64 ra, .int .i64 ca, .int .u64 da, .int .i64 pa, .int .i64 oa] 24)))
  have CF := hide fixed_any
  go_enter Try.func5, Try.ntmps5
  go_upto_region 1 with fail
  generalize ((w.alloc (.cells #[.int .u64 ra, .int .i64 ca, .int .u64 da, .int .i64 pa, .int .i64 oa] 24)).alloc (.cells #[.int .u64 rb, .int .i64 cb, .int .u64 db, .int .i64 pb, .int .i64 ob] 24)).alloc (.cells #[.int .u64 re, .int .i64 ce, .int .u64 de, .int .i64 pe, .int .i64 oe] 24) = W2 at *
  have k0 := cell_regrown (vcells hA).1
  have k1 := cell_regrown (vcells hA).2.1
  have k2 := cell_regrown (vcells hA).2.2.1
  have k3 := cell_regrown (vcells hA).2.2.2.1
  have k4 := cell_regrown (vcells hA).2.2.2.2.1
  have l0 := cell_regrown (vcells hB).1
  have l1 := cell_regrown (vcells hB).2.1
  have l2 := cell_regrown (vcells hB).2.2.1
  have l3 := cell_regrown (vcells hB).2.2.2.1
  have l4 := cell_regrown (vcells hB).2.2.2.2.1
  have m0 := cell_regrown (vcells hE).1
  have m1 := cell_regrown (vcells hE).2.1
  have m2 := cell_regrown (vcells hE).2.2.1
  have m3 := cell_regrown (vcells hE).2.2.2.1
  have m4 := cell_regrown (vcells hE).2.2.2.2.1
  have HA := hide hA
  have HB := hide hB
  have HL := hide hb
  have c1 := at_grown (unhide C1) W2
  have c2 := at_grown (unhide C2) W2
  have c3 := at_grown (unhide C3) W2
  have HT := hide h
  have HU := hide hu
  have HI := hide hi
  clear hA hB hE hb C1 C2 C3 h hu hi
  refine wp_region_quiet_below (by kernel_rfl) (by kernel_rfl) ?_
  repeat (go_big_quiet_step (first | (go_at_call_of 9 (#[.agg #[.int .u64 ra, .int .i64 ca, .int .u64 da, .int .i64 pa, .int .i64 oa], .agg #[.int .u64 rb, .int .i64 cb, .int .u64 db, .int .i64 pb, .int .i64 ob]] : Array Value); exact c1 _ _) | (go_at_call_of 9 (#[.agg #[.int .u64 rb, .int .i64 cb, .int .u64 db, .int .i64 pb, .int .i64 ob], .agg #[.int .u64 re, .int .i64 ce, .int .u64 de, .int .i64 pe, .int .i64 oe]] : Array Value); exact c2 _ _) | (go_at_call_of 9 (#[.agg #[.int .u64 ra, .int .i64 ca, .int .u64 da, .int .i64 pa, .int .i64 oa], .agg #[.int .u64 re, .int .i64 ce, .int .u64 de, .int .i64 pe, .int .i64 oe]] : Array Value); exact c3 _ _)))
  refine wpQuiet_nil ?_
  rintro _ ⟨⟨dq, osq⟩, rfl⟩
  have bg := below_regrown W2 dq osq
  have HL1 := hide (bthen (unhide HL) bg)
  obtain ⟨q0, q1, q2, q3, q4, -⟩ := vcells (Below.row bg (unhide HA))
  obtain ⟨s0, s1, s2, s3, s4, -⟩ := vcells (Below.row bg (unhide HB))
  have HA1 := hide (Below.row bg (unhide HA))
  have HB1 := hide (Below.row bg (unhide HB))
  clear bg k0 k1 k2 k3 k4 l0 l1 l2 l3 l4 m0 m1 m2 m3 m4 c1 c2 c3 HA HB HL
  generalize grow (redrawn W2 dq) osq = W3 at *
  have HT2 := unhide HT
  unfold Three at HT2
  obtain rfl := unhide HU
  obtain rfl := unhide HI
  clear HT HU HI
  rcases HT2 with ⟨rfl, rfl, rfl⟩ | ⟨rfl, rfl, rfl⟩ | ⟨rfl, rfl, rfl⟩ | ⟨rfl, rfl, rfl⟩ | ⟨rfl, rfl, rfl⟩ | ⟨rfl, rfl, rfl⟩ | ⟨rfl, rfl, rfl⟩ | ⟨rfl, rfl, rfl⟩ | ⟨rfl, rfl, rfl⟩ | ⟨rfl, rfl, rfl⟩ | ⟨rfl, rfl, rfl⟩ | ⟨rfl, rfl, rfl⟩ | ⟨rfl, rfl, rfl⟩
  all_goals
    go_wp2_with fail
    refine (unhide C4 _).mono ?_
    rintro e w1 ⟨rfl, b1⟩
    clear q0 q1 q2 q3 q4 s0 s1 s2 s3 s4
    obtain ⟨q0, q1, q2, q3, q4, -⟩ := vcells (Below.row b1 (unhide HA1))
    obtain ⟨s0, s1, s2, s3, s4, -⟩ := vcells (Below.row b1 (unhide HB1))
    have HL2 := hide (bthen (unhide HL1) b1)
    clear b1 HA1 HB1
    go_wp2_with fail
    refine (unhide CF _).mono ?_
    rintro e w2 ⟨rfl, b2⟩
    have HL3 := hide (bthen (unhide HL2) b2)
    clear b2
    go_wp2_with fail
    go_ret
    exact ⟨rfl, unhide HL3⟩
theorem walk (a b c : Vc) (w : World) (ha : a.fits) (hb : b.fits) (hc : c.fits) : Calls Try.prog 5 #[a.val, b.val, c.val] w fun e w' => e = .returned (.bool true) ∧ Below w.heap.size w w' := by
  have h1 := cmp_cases ha hb
  have h2 := cmp_cases hb ha
  have h3 := cmp_one ha hb
  exact walk_at a.root a.bridge b.root b.bridge c.root c.bridge a.cost a.port a.on b.cost b.port b.on c.cost c.port c.on (a.cmp b) (b.cmp c) (a.cmp c) (b.cmp a) _ w (by omega) rfl (three ha hb hc)
    (fun W => eql_vec a b _ (by rw [decide_eq_true_iff]; exact h3) W) (hide fun W => vcmp_any a b W ha hb) (hide fun W => vcmp_any b c W hb hc) (hide fun W => vcmp_any a c W ha hc) (hide fun W => vcmp_any b a W hb ha)
set_option maxRecDepth 100000 in
theorem lifted (os : Os) (started : os.Started) (H : Type) (enc : TypeId × Value → H) :
    ReturnsInHanded {} Try.checked os 5 .any (Rows.vectorsOrderSpec.pre6 enc Try.prog Try.f5 Rows.vectorsOrderRow.domain false) (Rows.vectorsOrderSpec.post enc Try.prog Try.f5 false true false false) := by
  refine returnsInHanded_of_change (C := Try.checked) own started (by kernel_rfl) Try.func5
    (ChangeSpec.witness6 (enc := enc) (C := Try.checked) false ⟨#[], #[.agg #[.int .u64 0, .int .i64 0, .int .u64 0, .int .i64 0, .int .i64 0], .agg #[.int .u64 0, .int .i64 0, .int .u64 0, .int .i64 0, .int .i64 0], .agg #[.int .u64 0, .int .i64 0, .int .u64 0, .int .i64 0, .int .i64 0]], []⟩ 8 (by kernel_rfl) (by kernel_rfl) (by kernel_rfl) (by kernel_rfl)) ?_
  intro W base args ds gs before hval0 hW _ _
  have hval : ∀ (j : Nat) t v, Try.f5.params[j]? = some t → args[j]? = some v → Value.okWide Try.prog W .any base t v := hval0
  have hW' := hW
  obtain ⟨p, q, hA0, hV, rfl, hfz, hnd⟩ := hW
  have hA : DataW.TrodAll enc Try.prog W 0 (fun _ => true) true Try.f5.params.toList args.toList ds p := hA0
  rw [Try.params5] at hA hval
  obtain ⟨v0, v1, v2, d0, d1, d2, p0, p1, p2, rfl, rfl, rfl, h0, h1, h2⟩ := trodAll_three hA
  obtain ⟨a0, rfl, rfl, rfl, w0, k0⟩ := open_vec (hval 0 24 v0 rfl rfl) h0
  obtain ⟨a1, rfl, rfl, rfl, w1, k1⟩ := open_vec (hval 1 24 v1 rfl rfl) h1
  obtain ⟨a2, rfl, rfl, rfl, w2, k2⟩ := open_vec (hval 2 24 v2 rfl rfl) h2
  obtain ⟨rfl, rfl⟩ := trodVars_none hV
  have e1 : Rows.vectorsOrderSpec.fn H ([vecD a0, vecD a1, vecD a2] ++ []) = { results := [.lit (.bool true)], args := [vecD a0, vecD a1, vecD a2] } := by simp [Rows.vectorsOrderSpec]
  refine (walk a0 a1 a2 W k0 k1 k2).mono fun e W' ⟨he, hb⟩ => ?_
  subst he
  refine ⟨_, rfl, _, _, _, [], [], [], hW', ?_, ?_, ?_, hb.frame _, fun h => by cases h⟩
  · rw [e1]; exact trodAll_mk1 (shut_bool Try.underlying4 true)
  · rw [e1]; exact trodAll_mk3 (shut_vec a0 w0) (shut_vec a1 w1) (shut_vec a2 w2)
  · rw [e1]; rfl
theorem said : Rows.VectorsOrderSaid :=
  OpenClaim.holds_of_wide 5 Try.f5 rfl rfl rfl rfl rfl rfl rfl ⟨rfl, rfl, rfl, rfl, rfl⟩ rfl rfl rfl rfl rfl (by kernel_rfl) Try.func5 (by kernel_rfl)
    (of_decide_eq_true (by kernel_rfl)) (by unfold Func.isWrapper; rw [if_neg (of_decide_eq_false (by kernel_rfl))]; exact ⟨rfl, rfl⟩)
    (fun os started H enc _ => lifted os started H enc)
end Go.Proofs.Ytbacbfgacepaaaa.vectorsOrder
namespace Go.Proofs.Ytbacbfgacepaaaa
theorem vectorsOrder_holds : Rows.VectorsOrderSaid := vectorsOrder.said
end Go.Proofs.Ytbacbfgacepaaaa
