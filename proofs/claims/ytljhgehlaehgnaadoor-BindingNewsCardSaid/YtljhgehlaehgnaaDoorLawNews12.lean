/-
  BindingNews: whether any room, and life, may be is as the document says. No condition.
-/
import Derived.Test.YtljhgehlaehgnaaDoorFixed12
import Derived.Test.YtljhgehlaehgnaaDoorRef12a
import Derived.Test.YtljhgehlaehgnaaDoorRow12
namespace Go.Proofs.YtljhgehlaehgnaaDoor.bindingNews
open Go.ChangeShapes Go.WideShapes Go.ChangeAt Go.RowKit Go.Deep Go.Sort

set_option maxRecDepth 100000 in
theorem walk_ok (a b : Int) (w : World) (h : newOk a b) : Calls Tryd.prog 3 #[.agg #[.int .i64 a, .int .i64 b]] w fun e w' => e = .returned (.bool true) ∧ Below w.heap.size w w' := by
  have b0 := alloc_below w (.cells #[.int .i64 a, .int .i64 b] 23)
  have r0 := hide (heap_alloc_new w (.cells #[.int .i64 a, .int .i64 b] 23))
  have C0 := hide (bnew_ok (w := w) a b b0 h)
  have CR := hide (fun W => hnew_ok a b W h)
  have CF := hide (fun W => fixed_any W)
  have B0 := hide b0
  clear b0
  go_enter Tryd.func3, Tryd.ntmps3
  go_wp2_with fail
  refine (unhide C0).mono ?_
  rintro e w1 ⟨g, p, rfl, h1, b1⟩
  have c1 := cells2 (Below.row b1 (unhide r0))
  have B1 := hide (bthen (unhide B0) b1)
  clear h1 b1 C0 r0 B0
  go_wp2_with fail
  refine (unhide CR _).mono ?_
  rintro e w2 ⟨rfl, rfl⟩
  have B2 := hide (alloc_then (o := .cells #[.slice none 0 0, .int .i64 a, .int .i64 b] 57) (unhide B1))
  clear B1 CR c1
  go_wp2_with fail
  refine (unhide CF _).mono ?_
  rintro e w4 ⟨rfl, b4⟩
  have B4 := hide (bthen (unhide B2) b4)
  clear b4 B2 CF
  go_wp2_with fail
  go_ret
  exact ⟨rfl, unhide B4⟩
set_option maxRecDepth 100000 in
theorem walk_no (a b : Int) (w : World) (h : ¬ newOk a b) : Calls Tryd.prog 3 #[.agg #[.int .i64 a, .int .i64 b]] w fun e w' => e = .returned (.bool true) ∧ Below w.heap.size w w' := by
  have C0 := hide (fun W => bnew_no (W := W) a b h)
  have CR := hide (fun W => hnew_no a b W h)
  have CF := hide (fun W => fixed_any W)
  have b0 := hide (alloc_below w (.cells #[.int .i64 a, .int .i64 b] 23))
  have r0 := hide (heap_alloc_new w (.cells #[.int .i64 a, .int .i64 b] 23))
  clear h
  go_enter Tryd.func3, Tryd.ntmps3
  go_wp2_with fail
  refine (unhide C0 _).mono ?_
  rintro e w1 ⟨rfl, b1⟩
  have c1 := cells2 (Below.row b1 (unhide r0))
  have B1 := hide (bthen (unhide b0) b1)
  clear C0 b1 r0
  go_wp2_with fail
  refine (unhide CR _).mono ?_
  rintro e w2 ⟨rfl, rfl⟩
  clear CR
  go_wp2_with fail
  refine (unhide CF _).mono ?_
  rintro e w4 ⟨rfl, b4⟩
  have B4 := hide (bthen (unhide B1) b4)
  clear b4 CF
  go_wp2_with fail
  go_ret
  exact ⟨rfl, unhide B4⟩
theorem walk (a b : Int) (w : World) : Calls Tryd.prog 3 #[.agg #[.int .i64 a, .int .i64 b]] w fun e w' => e = .returned (.bool true) ∧ Below w.heap.size w w' := by
  by_cases h : newOk a b
  · exact walk_ok a b w h
  · exact walk_no a b w h
set_option maxRecDepth 100000 in
theorem lifted (os : Os) (started : os.Started) (H : Type) (enc : TypeId × Value → H) :
    ReturnsInHanded {} Tryd.checked os 3 .any (fun w args => (Rows.bindingNewsSpec.pre enc Tryd.prog Tryd.f3 [] false w args ∧ laidMetH Tryd.prog [("errors.errorType", Rows.laid_errors_errorType)] w) ∧ sizedMet enc Tryd.prog Tryd.f3 (OpenSpec.ofChange Rows.bindingNewsSpec) false w args)
      (Rows.bindingNewsSpec.post enc Tryd.prog Tryd.f3 false true false false) := by
  refine returnsInHanded_of_change_and (C := Tryd.checked) (X := fun w _ => laidMetH Tryd.prog [("errors.errorType", Rows.laid_errors_errorType)] w) (fun _ _ _ hh h => h.of_heap hh) own started (by kernel_rfl) Tryd.func3
    (ChangeSpec.witness_at (enc := enc) (C := Tryd.checked) (os := os) (X := fun w _ => laidMetH Tryd.prog [("errors.errorType", Rows.laid_errors_errorType)] w) false
      { World.holding Tryd.prog os ⟨#[], #[], []⟩ with heap := (World.holding Tryd.prog os ⟨#[], #[], []⟩).heap.modify 0 fun
        | .cells _ t frozen => .cells #[.iface 161 (.agg #[.pointer (some ⟨1, 132, none⟩)])] t frozen
        | o => o } #[.agg #[.int .i64 0, .int .i64 0]] 8 rfl (by kernel_rfl) (by kernel_rfl) (by kernel_rfl) (by kernel_rfl) (by kernel_rfl) (laid_met os _)) ?_
  intro W base args ds gs before hval0 hW _ _ _ _
  have hval : ∀ (j : Nat) t v, Tryd.f3.params[j]? = some t → args[j]? = some v → Value.okWide Tryd.prog W .any base t v := hval0
  have hW' := hW
  obtain ⟨p, q, hA0, hV0, rfl, hfz, hnd⟩ := hW
  have hA : DataW.TrodAll enc Tryd.prog W 0 (fun _ => true) true Tryd.f3.params.toList args.toList ds p := hA0
  have hV : DataW.TrodVars enc Tryd.prog W (fun _ => true) [] gs q := hV0
  rw [Tryd.params3] at hA hval
  obtain ⟨v0, d0, rfl, rfl, h0⟩ := trodAll_one hA
  obtain ⟨a0, c0, rfl, rfl, rfl, w0, x0⟩ := open_size (hval 0 23 v0 rfl rfl) h0
  obtain ⟨rfl, rfl⟩ := trodVars_none hV
  have e1 : Rows.bindingNewsSpec.fn H ([sizeD a0 c0] ++ []) = { results := [.lit (.bool true)], args := [sizeD a0 c0] } := by simp [Rows.bindingNewsSpec]
  refine (walk a0 c0 W).mono fun e W' ⟨he, hb⟩ => ?_
  subst he
  refine ⟨_, rfl, _, _, _, [], [], [], hW', ?_, ?_, ?_, hb.frame _, fun h => by cases h⟩
  · rw [e1]; exact trodAll_mk1 (shut_bool Tryd.underlying4 true)
  · rw [e1]; exact trodAll_mk1 (shut_size a0 c0 w0 x0)
  · rw [e1]; rfl
theorem said : Rows.BindingNewsSaid :=
  OpenClaim.holds_of_wide 3 Tryd.f3 rfl rfl rfl rfl rfl rfl rfl ⟨rfl, rfl, rfl, rfl, rfl⟩ rfl rfl rfl rfl rfl (by kernel_rfl) Tryd.func3 (by kernel_rfl)
    (of_decide_eq_true (by kernel_rfl)) (by unfold Func.isWrapper; rw [if_neg (of_decide_eq_false (by kernel_rfl))]; exact ⟨rfl, rfl⟩)
    (fun os started H enc _ => lifted os started H enc)
theorem plain (f : FuncId) (fn : Func) (hf : Tryd.pinned.checked.prog.funcNamed Rows.bindingNewsRow.func = some f) (hfn : Tryd.pinned.checked.prog.funcs[f]? = some fn) :
    true = Tryd.pinned.checked.prog.looks [] ∧ ∀ (j : Nat) t, fn.params[j]? = some t → Tryd.pinned.checked.prog.wantsStandIn t = false := by
  obtain rfl : f = 3 := Option.some.inj ((show Tryd.prog.funcNamed Rows.bindingNewsRow.func = some 3 by kernel_rfl).symm.trans hf) |>.symm
  obtain rfl : fn = Tryd.f3 := (Option.some.inj (Tryd.func3.symm.trans hfn)).symm
  refine ⟨by kernel_rfl, fun j t ht => ?_⟩
  rw [Tryd.params3] at ht
  have hm := Array.mem_of_getElem? ht
  simp only [List.mem_toArray, List.mem_cons, List.not_mem_nil, or_false] at hm
  subst hm
  · exact (show Tryd.prog.wantsStandIn 23 = false by kernel_rfl)
theorem card : Rows.BindingNewsCardSaid :=
  Claim7.holds_tied_plain_at .later [] _ _ _ _ said (fun _ h => by cases h) (by kernel_rfl) (fun _ h => by cases h) bindingNews_row_tie rfl ⟨rfl, rfl⟩ (by kernel_rfl) rfl plain (by kernel_rfl)
end Go.Proofs.YtljhgehlaehgnaaDoor.bindingNews
namespace Go.Proofs.YtljhgehlaehgnaaDoor
theorem bindingNews_card_holds : Rows.BindingNewsCardSaid := bindingNews.card
end Go.Proofs.YtljhgehlaehgnaaDoor
