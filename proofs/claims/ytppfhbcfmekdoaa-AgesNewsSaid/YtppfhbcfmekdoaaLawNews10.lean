/-
  AgesNews: whether any room, and life, may be is as the document says. No condition.
-/
import Derived.Test.YtppfhbcfmekdoaaFixed10
import Derived.Test.YtppfhbcfmekdoaaRef10a
import Derived.Test.YtppfhbcfmekdoaaRow10
namespace Go.Proofs.Ytppfhbcfmekdoaa.agesNews
open Go.ChangeShapes Go.WideShapes Go.ChangeAt Go.RowKit Go.Deep Go.Sort

set_option maxRecDepth 100000 in
theorem walk_ok (a b : Int) (w : World) (h : newOk a b) : Calls Try.prog 4 #[.agg #[.int .i64 a, .int .i64 b]] w fun e w' => e = .returned (.bool true) ∧ Below w.heap.size w w' := by
  have b0 := alloc_below w (.cells #[.int .i64 a, .int .i64 b] 23)
  have r0 := hide (heap_alloc_new w (.cells #[.int .i64 a, .int .i64 b] 23))
  have C0 := hide (has_new (w := w) a b b0 h)
  have CR := hide (fun W => rnew_ok 0 a b W h (Nat.zero_le _))
  have CE := hide (fun g W h => has_entries (w := w) (W := W) (g := g) (room := a) (life := b) (L := []) h)
  have CF := hide (fun W => fixed_any W)
  clear b0
  go_enter Try.func4, Try.ntmps4
  go_wp2_with fail
  refine (unhide C0).mono ?_
  rintro e w1 ⟨rfl, h1, b1⟩
  have c1 := cells2 (Below.row b1 (unhide r0))
  have H1 := hide h1
  have r1 := hide (Below.row b1 (unhide r0))
  generalize (w.alloc (.cells #[.int .i64 a, .int .i64 b] 23)).heap.size = g at *
  clear h1 b1 C0 r0
  go_wp2_with fail
  refine (unhide CR _).mono ?_
  rintro e w2 ⟨rfl, b2, _⟩
  have H2 := hide ((unhide H1).below b2)
  clear b2 H1 CR c1 r1
  go_wp2_with fail
  refine (unhide CE _ _ (unhide H2)).mono ?_
  rintro e w3 ⟨rfl, _, b3⟩
  have H3 := hide ((unhide H2).below b3)
  clear b3 H2 CE
  go_wp2_with fail
  refine (unhide CF _).mono ?_
  rintro e w4 ⟨rfl, b4⟩
  have H4 := hide ((unhide H3).below b4)
  clear b4 H3 CF
  go_wp2_with fail
  go_ret
  exact ⟨rfl, (unhide H4).1⟩
set_option maxRecDepth 100000 in
theorem walk_no (a b : Int) (w : World) (h : ¬ newOk a b) : Calls Try.prog 4 #[.agg #[.int .i64 a, .int .i64 b]] w fun e w' => e = .returned (.bool true) ∧ Below w.heap.size w w' := by
  have C0 := hide (fun W => new_no a b W h)
  have CR := hide (fun W => rnew_no a b W h)
  have CF := hide (fun W => fixed_any W)
  have b0 := hide (alloc_below w (.cells #[.int .i64 a, .int .i64 b] 23))
  clear h
  go_enter Try.func4, Try.ntmps4
  go_wp2_with fail
  refine (unhide C0 _).mono ?_
  rintro e w1 ⟨rfl, rfl⟩
  clear C0
  go_wp2_with fail
  refine (unhide CR _).mono ?_
  rintro e w2 ⟨rfl, rfl⟩
  clear CR
  go_wp2_with fail
  refine (unhide CF _).mono ?_
  rintro e w4 ⟨rfl, b4⟩
  have H4 := hide (bthen (unhide b0) b4)
  clear b4 CF
  go_wp2_with fail
  go_ret
  exact ⟨rfl, unhide H4⟩
theorem walk (a b : Int) (w : World) : Calls Try.prog 4 #[.agg #[.int .i64 a, .int .i64 b]] w fun e w' => e = .returned (.bool true) ∧ Below w.heap.size w w' := by
  by_cases h : newOk a b
  · exact walk_ok a b w h
  · exact walk_no a b w h
set_option maxRecDepth 100000 in
theorem lifted (os : Os) (started : os.Started) (H : Type) (enc : TypeId × Value → H) :
    ReturnsInHanded {} Try.checked os 4 .any (Rows.agesNewsSpec.pre6 enc Try.prog Try.f4 Rows.agesNewsRow.domain false) (Rows.agesNewsSpec.post enc Try.prog Try.f4 false true false false) := by
  refine returnsInHanded_of_change (C := Try.checked) own started (by kernel_rfl) Try.func4
    (ChangeSpec.witness6 (enc := enc) (C := Try.checked) false ⟨#[], #[.agg #[.int .i64 0, .int .i64 0]], []⟩ 8 (by kernel_rfl) (by kernel_rfl) (by kernel_rfl) (by kernel_rfl)) ?_
  intro W base args ds gs before hval0 hW _ _
  have hval : ∀ (j : Nat) t v, Try.f4.params[j]? = some t → args[j]? = some v → Value.okWide Try.prog W .any base t v := hval0
  have hW' := hW
  obtain ⟨p, q, hA0, hV, rfl, hfz, hnd⟩ := hW
  have hA : DataW.TrodAll enc Try.prog W 0 (fun _ => true) true Try.f4.params.toList args.toList ds p := hA0
  rw [Try.params4] at hA hval
  obtain ⟨v0, d0, rfl, rfl, h0⟩ := trodAll_one hA
  obtain ⟨a0, c0, rfl, rfl, rfl, w0, x0⟩ := open_size (hval 0 23 v0 rfl rfl) h0
  obtain ⟨rfl, rfl⟩ := trodVars_none hV
  have e1 : Rows.agesNewsSpec.fn H ([sizeD a0 c0] ++ []) = { results := [.lit (.bool true)], args := [sizeD a0 c0] } := by simp [Rows.agesNewsSpec]
  refine (walk a0 c0 W).mono fun e W' ⟨he, hb⟩ => ?_
  subst he
  refine ⟨_, rfl, _, _, _, [], [], [], hW', ?_, ?_, ?_, hb.frame _, fun h => by cases h⟩
  · rw [e1]; exact trodAll_mk1 (shut_bool Try.underlying4 true)
  · rw [e1]; exact trodAll_mk1 (shut_size a0 c0 w0 x0)
  · rw [e1]; rfl
theorem said : Rows.AgesNewsSaid :=
  OpenClaim.holds_of_wide 4 Try.f4 rfl rfl rfl rfl rfl rfl rfl ⟨rfl, rfl, rfl, rfl, rfl⟩ rfl rfl rfl rfl rfl (by kernel_rfl) Try.func4 (by kernel_rfl)
    (of_decide_eq_true (by kernel_rfl)) (by unfold Func.isWrapper; rw [if_neg (of_decide_eq_false (by kernel_rfl))]; exact ⟨rfl, rfl⟩)
    (fun os started H enc _ => lifted os started H enc)
end Go.Proofs.Ytppfhbcfmekdoaa.agesNews
namespace Go.Proofs.Ytppfhbcfmekdoaa
theorem agesNews_holds : Rows.AgesNewsSaid := agesNews.said
end Go.Proofs.Ytppfhbcfmekdoaa
