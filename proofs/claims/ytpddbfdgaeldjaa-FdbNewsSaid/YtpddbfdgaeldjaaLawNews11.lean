/-
  FdbNews: whether any table may be is as the document says. No condition.
-/
import Derived.Test.YtpddbfdgaeldjaaFixed11
import Derived.Test.YtpddbfdgaeldjaaRef11
import Derived.Test.YtpddbfdgaeldjaaRow11
namespace Go.Proofs.Ytpddbfdgaeldjaa.fdbNews
open Go.ChangeShapes Go.WideShapes Go.ChangeAt Go.RowKit Go.Deep Go.Sort

set_option maxHeartbeats 1000000 in
set_option maxRecDepth 100000 in
theorem walk_ok (a b c d : Int) (w : World) (h : keepOk a b c d) : Calls Try.prog 3 #[.agg #[.int .i64 a, .int .i64 b, .int .i64 c, .int .i64 d]] w fun e w' => e = .returned (.bool true) ∧ Below w.heap.size w w' := by
  have b0 := alloc_below w (.cells #[.int .i64 a, .int .i64 b, .int .i64 c, .int .i64 d] 23)
  have r0 := hide (heap_alloc_new w (.cells #[.int .i64 a, .int .i64 b, .int .i64 c, .int .i64 d] 23))
  have C0 := hide (fnew_ok (w := w) a b c d b0 h)
  have CR := hide (fun W => qnew_ok a b c d W h)
  have CE := hide (fun g p bb mr v W (h : Fdb w g p bb mr v c d a b [] [] W) => places_any W 0 h rfl)
  have CF := hide (fun W => fixed_any W)
  obtain ⟨q0, q1, q2, q3, _⟩ := cells4 (unhide r0)
  clear b0 h
  go_enter Try.func3, Try.ntmps3
  go_wp2_with fail
  refine (unhide C0).mono ?_
  rintro e w1 ⟨g, rfl, ⟨p, bb, h1⟩, b1, _⟩
  obtain ⟨s0, s1, s2, s3, _⟩ := cells4 (Below.row b1 (unhide r0))
  have H1 := hide h1
  clear h1 b1 C0 r0 q0 q1 q2 q3
  go_wp2_with fail
  refine (unhide CR _).mono ?_
  rintro e w2 ⟨q, r, rfl, b2, _, _⟩
  have H2 := hide ((unhide H1).below b2)
  clear b2 H1 CR s0 s1 s2 s3
  go_wp2_with fail
  refine (unhide CE _ _ _ _ _ _ (unhide H2)).mono ?_
  rintro e w3 ⟨r3, rfl, b3⟩
  have H3 := hide ((unhide H2).below b3)
  clear b3 H2 CE
  go_wp2_with fail
  refine (unhide CF _).mono ?_
  rintro e w4 ⟨rfl, b4⟩
  have H4 := hide ((unhide H3).below b4)
  clear b4 H3 CF
  go_wp2_with fail
  go_ret
  exact ⟨rfl, (unhide H4).has.1⟩
set_option maxHeartbeats 1000000 in
set_option maxRecDepth 100000 in
theorem walk_no (a b c d : Int) (w : World) (h : ¬ keepOk a b c d) : Calls Try.prog 3 #[.agg #[.int .i64 a, .int .i64 b, .int .i64 c, .int .i64 d]] w fun e w' => e = .returned (.bool true) ∧ Below w.heap.size w w' := by
  have b0 := alloc_below w (.cells #[.int .i64 a, .int .i64 b, .int .i64 c, .int .i64 d] 23)
  have r0 := hide (heap_alloc_new w (.cells #[.int .i64 a, .int .i64 b, .int .i64 c, .int .i64 d] 23))
  have C0 := hide (fun W => fnew_no (W := W) a b c d h)
  have CR := hide (fun W => qnew_no a b c d W h)
  have CF := hide (fun W => fixed_any W)
  have B0 := hide b0
  obtain ⟨q0, q1, q2, q3, _⟩ := cells4 (unhide r0)
  clear b0 h
  go_enter Try.func3, Try.ntmps3
  go_wp2_with fail
  refine (unhide C0 _).mono ?_
  rintro e w1 ⟨rfl, b1⟩
  obtain ⟨s0, s1, s2, s3, _⟩ := cells4 (Below.row b1 (unhide r0))
  have B1 := hide (bthen (unhide B0) b1)
  clear b1 C0 r0 q0 q1 q2 q3
  go_wp2_with fail
  refine (unhide CR _).mono ?_
  rintro e w2 ⟨rfl, b2⟩
  have B2 := hide (bthen (unhide B1) b2)
  clear b2 CR s0 s1 s2 s3
  go_wp2_with fail
  refine (unhide CF _).mono ?_
  rintro e w4 ⟨rfl, b4⟩
  have B4 := hide (bthen (unhide B2) b4)
  clear b4 CF
  go_wp2_with fail
  go_ret
  exact ⟨rfl, unhide B4⟩
theorem walk (a b c d : Int) (w : World) : Calls Try.prog 3 #[.agg #[.int .i64 a, .int .i64 b, .int .i64 c, .int .i64 d]] w fun e w' => e = .returned (.bool true) ∧ Below w.heap.size w w' := by
  by_cases h : keepOk a b c d
  · exact walk_ok a b c d w h
  · exact walk_no a b c d w h
set_option maxRecDepth 100000 in
theorem lifted (os : Os) (started : os.Started) (H : Type) (enc : TypeId × Value → H) :
    ReturnsInHanded {} Try.checked os 3 .any (Rows.fdbNewsSpec.pre6 enc Try.prog Try.f3 Rows.fdbNewsRow.domain false) (Rows.fdbNewsSpec.post enc Try.prog Try.f3 false true false false) := by
  refine returnsInHanded_of_change (C := Try.checked) own started (by kernel_rfl) Try.func3
    (ChangeSpec.witness6 (enc := enc) (C := Try.checked) false ⟨#[], #[.agg #[.int .i64 0, .int .i64 0, .int .i64 0, .int .i64 0]], []⟩ 8 (by kernel_rfl) (by kernel_rfl) (by kernel_rfl) (by kernel_rfl)) ?_
  intro W base args ds gs before hval0 hW _ _
  have hval : ∀ (j : Nat) t v, Try.f3.params[j]? = some t → args[j]? = some v → Value.okWide Try.prog W .any base t v := hval0
  have hW' := hW
  obtain ⟨p, q, hA0, hV, rfl, hfz, hnd⟩ := hW
  have hA : DataW.TrodAll enc Try.prog W 0 (fun _ => true) true Try.f3.params.toList args.toList ds p := hA0
  rw [Try.params3] at hA hval
  obtain ⟨v0, d0, rfl, rfl, h0⟩ := trodAll_one hA
  obtain ⟨a0, c0, d0', f0, rfl, rfl, rfl, w0, x0, y0', z0⟩ := open_keep (hval 0 23 v0 rfl rfl) h0
  obtain ⟨rfl, rfl⟩ := trodVars_none hV
  have e1 : Rows.fdbNewsSpec.fn H ([keepD a0 c0 d0' f0] ++ []) = { results := [.lit (.bool true)], args := [keepD a0 c0 d0' f0] } := by simp [Rows.fdbNewsSpec]
  refine (walk a0 c0 d0' f0 W).mono fun e W' ⟨he, hb⟩ => ?_
  subst he
  refine ⟨_, rfl, _, _, _, [], [], [], hW', ?_, ?_, ?_, hb.frame _, fun h => by cases h⟩
  · rw [e1]; exact trodAll_mk1 (shut_bool Try.underlying4 true)
  · rw [e1]; exact trodAll_mk1 (shut_keep a0 c0 d0' f0 w0 x0 y0' z0)
  · rw [e1]; rfl
theorem said : Rows.FdbNewsSaid :=
  OpenClaim.holds_of_wide 3 Try.f3 rfl rfl rfl rfl rfl rfl rfl ⟨rfl, rfl, rfl, rfl, rfl⟩ rfl rfl rfl rfl rfl (by kernel_rfl) Try.func3 (by kernel_rfl)
    (of_decide_eq_true (by kernel_rfl)) (by unfold Func.isWrapper; rw [if_neg (of_decide_eq_false (by kernel_rfl))]; exact ⟨rfl, rfl⟩)
    (fun os started H enc _ => lifted os started H enc)
end Go.Proofs.Ytpddbfdgaeldjaa.fdbNews
namespace Go.Proofs.Ytpddbfdgaeldjaa
theorem fdbNews_holds : Rows.FdbNewsSaid := fdbNews.said
end Go.Proofs.Ytpddbfdgaeldjaa
