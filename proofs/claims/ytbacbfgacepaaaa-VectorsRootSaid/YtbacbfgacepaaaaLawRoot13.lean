/-
  VectorsRoot: a better root is better, whatever else; of one root the one that is less far. No condition.
-/
import Derived.Test.YtbacbfgacepaaaaFixed13
import Derived.Test.YtbacbfgacepaaaaRow13
import Derived.BigQuiet
import Derived.Lib.QuietBelow
namespace Go.Proofs.Ytbacbfgacepaaaa.vectorsRoot
open Go.ChangeShapes Go.WideShapes Go.ChangeAt Go.RowKit Go.Deep Go.Sort

set_option maxHeartbeats 2000000 in
set_option maxRecDepth 100000 in
theorem walk_at (ra da rb db ca pa oa cb pb ob t : Int) (z : Bool) (w : World) (hz : decide (t < 0) = z)
    (h : ((ra == rb) = false ∧ decide (ra < rb) = z) ∨ (ra = rb ∧ (ca == cb) = false ∧ decide (ca < cb) = z) ∨ (ra = rb ∧ ca = cb ∧ (da == db) = false ∧ decide (da < db) = z) ∨ (ra = rb ∧ ca = cb ∧ da = db))
    (C1 : Hid (∀ W, Calls Try.prog 9 #[.agg #[.int .u64 ra, .int .i64 ca, .int .u64 da, .int .i64 pa, .int .i64 oa], .agg #[.int .u64 rb, .int .i64 cb, .int .u64 db, .int .i64 pb, .int .i64 ob]] W fun e w' => e = .returned (.int .i64 t) ∧ Below W.heap.size W w')) :
    Calls Try.prog 7 #[.agg #[.int .u64 ra, .int .i64 ca, .int .u64 da, .int .i64 pa, .int .i64 oa], .agg #[.int .u64 rb, .int .i64 cb, .int .u64 db, .int .i64 pb, .int .i64 ob]] w fun e w' => e = .returned (.bool true) ∧ Below w.heap.size w w' := by
  have hA := heap_alloc2_old w (.cells #[.int .u64 ra, .int .i64 ca, .int .u64 da, .int .i64 pa, .int .i64 oa] 24) (.cells #[.int .u64 rb, .int .i64 cb, .int .u64 db, .int .i64 pb, .int .i64 ob] 24)
  have hB := heap_alloc2_new w (.cells #[.int .u64 ra, .int .i64 ca, .int .u64 da, .int .i64 pa, .int .i64 oa] 24) (.cells #[.int .u64 rb, .int .i64 cb, .int .u64 db, .int .i64 pb, .int .i64 ob] 24)
  have hb := alloc_then (o := (.cells #[.int .u64 rb, .int .i64 cb, .int .u64 db, .int .i64 pb, .int .i64 ob] 24)) (alloc_below w (.cells #[.int .u64 ra, .int .i64 ca, .int .u64 da, .int .i64 pa, .int .i64 oa] 24))
  obtain ⟨k0, k1, k2, k3, k4, -⟩ := vcells hA
  obtain ⟨l0, l1, l2, l3, l4, -⟩ := vcells hB
  have HA := hide hA
  have HB := hide hB
  have HL := hide hb
  have CF := hide fixed_any
  clear hA hB hb
  go_enter Try.func7, Try.ntmps7
  go_wp2_with fail
  generalize (w.alloc (.cells #[.int .u64 ra, .int .i64 ca, .int .u64 da, .int .i64 pa, .int .i64 oa] 24)).alloc (.cells #[.int .u64 rb, .int .i64 cb, .int .u64 db, .int .i64 pb, .int .i64 ob] 24) = W2 at *
  refine (unhide C1 _).mono ?_
  rintro e w1 ⟨rfl, b1⟩
  clear k0 k1 k2 k3 k4 l0 l1 l2 l3 l4
  obtain ⟨k0, k1, k2, k3, k4, -⟩ := vcells (Below.row b1 (unhide HA))
  obtain ⟨l0, l1, l2, l3, l4, -⟩ := vcells (Below.row b1 (unhide HB))
  have HL1 := hide (bthen (unhide HL) b1)
  clear b1 HA HB HL C1
  rcases h with ⟨hr, hd⟩ | ⟨rfl, hr, hd⟩ | ⟨rfl, rfl, hr, hd⟩ | ⟨rfl, rfl, rfl⟩
  · go_wp2_with fail
    refine (unhide CF _).mono ?_
    rintro e w2 ⟨rfl, b2⟩
    have HL2 := hide (bthen (unhide HL1) b2)
    clear b2
    go_wp2_with fail
    go_ret
    exact ⟨rfl, unhide HL2⟩
  · go_wp2_with fail
    refine (unhide CF _).mono ?_
    rintro e w2 ⟨rfl, b2⟩
    have HL2 := hide (bthen (unhide HL1) b2)
    clear b2
    go_wp2_with fail
    go_ret
    exact ⟨rfl, unhide HL2⟩
  · go_wp2_with fail
    refine (unhide CF _).mono ?_
    rintro e w2 ⟨rfl, b2⟩
    have HL2 := hide (bthen (unhide HL1) b2)
    clear b2
    go_wp2_with fail
    go_ret
    exact ⟨rfl, unhide HL2⟩
  · go_wp2_with fail
    refine (unhide CF _).mono ?_
    rintro e w2 ⟨rfl, b2⟩
    have HL2 := hide (bthen (unhide HL1) b2)
    clear b2
    go_wp2_with fail
    go_ret
    exact ⟨rfl, unhide HL2⟩
theorem walk (a b : Vc) (w : World) (ha : a.fits) (hb : b.fits) : Calls Try.prog 7 #[a.val, b.val] w fun e w' => e = .returned (.bool true) ∧ Below w.heap.size w w' := by
  refine walk_at a.root a.bridge b.root b.bridge a.cost a.port a.on b.cost b.port b.on (a.cmp b) _ w rfl ?_ (hide fun W => vcmp_any a b W ha hb)
  by_cases h0 : a.root = b.root
  · by_cases h1 : a.cost = b.cost
    · by_cases h2 : a.bridge = b.bridge
      · exact .inr (.inr (.inr ⟨by rw [h0], h1, by rw [h2]⟩))
      · refine .inr (.inr (.inl ⟨by rw [h0], h1, by rw [beq_eq_false_iff_ne]; omega, decide_eq_decide.2 ?_⟩))
        rw [cmp_bridge h0 h1 h2]; omega
    · refine .inr (.inl ⟨by rw [h0], by simpa using h1, decide_eq_decide.2 ?_⟩)
      rw [cmp_cost h0 h1]
  · refine .inl ⟨by rw [beq_eq_false_iff_ne]; omega, decide_eq_decide.2 ?_⟩
    rw [cmp_root h0]; omega
set_option maxRecDepth 100000 in
theorem lifted (os : Os) (started : os.Started) (H : Type) (enc : TypeId × Value → H) :
    ReturnsInHanded {} Try.checked os 7 .any (Rows.vectorsRootSpec.pre6 enc Try.prog Try.f7 Rows.vectorsRootRow.domain false) (Rows.vectorsRootSpec.post enc Try.prog Try.f7 false true false false) := by
  refine returnsInHanded_of_change (C := Try.checked) own started (by kernel_rfl) Try.func7
    (ChangeSpec.witness6 (enc := enc) (C := Try.checked) false ⟨#[], #[.agg #[.int .u64 0, .int .i64 0, .int .u64 0, .int .i64 0, .int .i64 0], .agg #[.int .u64 0, .int .i64 0, .int .u64 0, .int .i64 0, .int .i64 0]], []⟩ 8 (by kernel_rfl) (by kernel_rfl) (by kernel_rfl) (by kernel_rfl)) ?_
  intro W base args ds gs before hval0 hW _ _
  have hval : ∀ (j : Nat) t v, Try.f7.params[j]? = some t → args[j]? = some v → Value.okWide Try.prog W .any base t v := hval0
  have hW' := hW
  obtain ⟨p, q, hA0, hV, rfl, hfz, hnd⟩ := hW
  have hA : DataW.TrodAll enc Try.prog W 0 (fun _ => true) true Try.f7.params.toList args.toList ds p := hA0
  rw [Try.params7] at hA hval
  obtain ⟨v0, v1, d0, d1, p0, p1, rfl, rfl, rfl, h0, h1⟩ := trodAll_two hA
  obtain ⟨a0, rfl, rfl, rfl, w0, k0⟩ := open_vec (hval 0 24 v0 rfl rfl) h0
  obtain ⟨a1, rfl, rfl, rfl, w1, k1⟩ := open_vec (hval 1 24 v1 rfl rfl) h1
  obtain ⟨rfl, rfl⟩ := trodVars_none hV
  have e1 : Rows.vectorsRootSpec.fn H ([vecD a0, vecD a1] ++ []) = { results := [.lit (.bool true)], args := [vecD a0, vecD a1] } := by simp [Rows.vectorsRootSpec]
  refine (walk a0 a1 W k0 k1).mono fun e W' ⟨he, hb⟩ => ?_
  subst he
  refine ⟨_, rfl, _, _, _, [], [], [], hW', ?_, ?_, ?_, hb.frame _, fun h => by cases h⟩
  · rw [e1]; exact trodAll_mk1 (shut_bool Try.underlying4 true)
  · rw [e1]; exact trodAll_mk2 (shut_vec a0 w0) (shut_vec a1 w1)
  · rw [e1]; rfl
theorem said : Rows.VectorsRootSaid :=
  OpenClaim.holds_of_wide 7 Try.f7 rfl rfl rfl rfl rfl rfl rfl ⟨rfl, rfl, rfl, rfl, rfl⟩ rfl rfl rfl rfl rfl (by kernel_rfl) Try.func7 (by kernel_rfl)
    (of_decide_eq_true (by kernel_rfl)) (by unfold Func.isWrapper; rw [if_neg (of_decide_eq_false (by kernel_rfl))]; exact ⟨rfl, rfl⟩)
    (fun os started H enc _ => lifted os started H enc)
end Go.Proofs.Ytbacbfgacepaaaa.vectorsRoot
namespace Go.Proofs.Ytbacbfgacepaaaa
theorem vectorsRoot_holds : Rows.VectorsRootSaid := vectorsRoot.said
end Go.Proofs.Ytbacbfgacepaaaa
