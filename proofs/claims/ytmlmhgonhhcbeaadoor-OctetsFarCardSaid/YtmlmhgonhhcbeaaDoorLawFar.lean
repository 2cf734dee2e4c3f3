/-
  Proved: for every text and every number, gangwaylaw01.OctetsFar answers true (no number and no part lies behind the bytes or ahead of them, P1.1; of texts the first 1000 bytes) and its arguments read afterwards as before. Conditions: errors.errorType holds what the program's own text lays (tied by the card).
-/
import Derived.Test.YtmlmhgonhhcbeaaDoorRow
import Derived.Test.YtmlmhgonhhcbeaaDoorAid
namespace Go.Proofs.YtmlmhgonhhcbeaaDoor.octetsFar
open Go.ChangeShapes Go.WideShapes Go.ChangeAt Go.RowKit
open Go.ChangeMaps (open_string shut_string)

set_option maxHeartbeats 2000000 in
theorem walk (s : ByteArray) (x : Int) (w : World) (hg : Et w) (hs : s.size ≤ maxLen) (_ : -9223372036854775808 ≤ x) (_ : x ≤ 9223372036854775807) :
    Calls Tryd.prog 8 #[.string s, .int .i64 x] w fun e w' => e = .returned (.bool true) ∧ Below w.heap.size w w' := by
  unfold maxLen at hs
  obtain ⟨m, ha, hm⟩ := and_mask x 65535 (by decide)
  rw [show ((65535 : Nat) : Int) = 65535 from rfl] at ha
  obtain ⟨p, hp, hc⟩ := shortened s
  have hpm : p.size ≤ maxLen := by unfold maxLen; omega
  have HPM := hide hpm
  clear hpm
  by_cases h0 : m = 0
  · subst h0
    rcases hc with ⟨rfl, hc, hmn, hxa⟩ | ⟨he, hc, hmn⟩
    all_goals
      go_enter Tryd.func8, Tryd.ntmps8
      go_wp2_with fail
      refine (get_short _ _ 1 _ hg (unhide HPM) (by decide) (by decide) (by omega) (by omega) (by omega)).mono ?_
      rintro e w1 ⟨rfl, b1⟩
      have g1 : Et w1 := hg.next b1
      go_wp2_with fail
      refine (get_ahead _ _ 1 _ g1 (by decide) (by decide) (by omega)).mono ?_
      rintro e w2 ⟨rfl, b2⟩
      have c2 := bthen b1 b2
      have g2 : Et w2 := hg.next c2
      clear b1 b2 g1
      go_wp2_with fail
      refine (cut_end _ _ hp).mono ?_
      rintro e w3 ⟨rfl, b3⟩
      have c3 := bthen c2 b3
      have g3 : Et w3 := hg.next c3
      clear c2 b3 g2
      go_wp2_with fail
      refine (fixed_any _ g3).mono ?_
      rintro e w4 ⟨rfl, b4⟩
      have c4 := bthen c3 b4
      clear c3 b4 g3
      go_wp2
      go_ret
      exact ⟨rfl, c4⟩
  · rcases hc with ⟨rfl, hc, hmn, hxa⟩ | ⟨he, hc, hmn⟩
    all_goals
      go_enter Tryd.func8, Tryd.ntmps8
      go_wp2_with fail
      refine (get_short _ _ 1 _ hg (unhide HPM) (by decide) (by decide) (by omega) (by omega) (by omega)).mono ?_
      rintro e w1 ⟨rfl, b1⟩
      have g1 : Et w1 := hg.next b1
      go_wp2_with fail
      refine (get_ahead _ _ 1 _ g1 (by decide) (by decide) (by omega)).mono ?_
      rintro e w2 ⟨rfl, b2⟩
      have c2 := bthen b1 b2
      have g2 : Et w2 := hg.next c2
      clear b1 b2 g1
      go_wp2_with fail
      refine (cut_short _ _ 0 _ g2 (unhide HPM) (by omega) (by decide) (by omega) (by omega)).mono ?_
      rintro e w3 ⟨rfl, b3⟩
      have c3 := bthen c2 b3
      have g3 : Et w3 := hg.next c3
      clear c2 b3 g2
      go_wp2_with fail
      refine (fixed_any _ g3).mono ?_
      rintro e w4 ⟨rfl, b4⟩
      have c4 := bthen c3 b4
      clear c3 b4 g3
      go_wp2
      go_ret
      exact ⟨rfl, c4⟩

set_option maxRecDepth 100000 in
theorem lifted (os : Os) (started : os.Started) (H : Type) (enc : TypeId × Value → H) :
    ReturnsInHanded {} Tryd.checked os 8 .any (fun w args => (Rows.octetsFarSpec.pre enc Tryd.prog Tryd.f8 [] false w args ∧ laidMetH Tryd.prog [("errors.errorType", Rows.laid_errors_errorType)] w) ∧ sizedMet enc Tryd.prog Tryd.f8 (OpenSpec.ofChange Rows.octetsFarSpec) false w args)
      (Rows.octetsFarSpec.post enc Tryd.prog Tryd.f8 false true false false) := by
  refine returnsInHanded_of_change_and (C := Tryd.checked) (X := fun w _ => laidMetH Tryd.prog [("errors.errorType", Rows.laid_errors_errorType)] w) (fun _ _ _ hh h => h.of_heap hh) own started (by kernel_rfl) Tryd.func8
    (ChangeSpec.witness_at (enc := enc) (C := Tryd.checked) (os := os) (X := fun w _ => laidMetH Tryd.prog [("errors.errorType", Rows.laid_errors_errorType)] w) false
      { World.holding Tryd.prog os ⟨#[], #[], []⟩ with heap := (World.holding Tryd.prog os ⟨#[], #[], []⟩).heap.modify 0 fun
        | .cells _ t frozen => .cells #[.iface 69 (.agg #[.pointer (some ⟨2, 39, none⟩)])] t frozen
        | o => o } #[.string ByteArray.empty, .int .i64 0] 8 rfl (by kernel_rfl) (by kernel_rfl) (by kernel_rfl) (by kernel_rfl) (by kernel_rfl) (laid_met os _)) ?_
  intro W base args ds gs before hval0 hW _ _ hL _
  have hval : ∀ (j : Nat) t v, Tryd.f8.params[j]? = some t → args[j]? = some v → Value.okWide Tryd.prog W .any base t v := hval0
  have hW' := hW
  obtain ⟨p, q, hA0, hV0, rfl, hfz, hnd⟩ := hW
  have hA : DataW.TrodAll enc Tryd.prog W 0 (fun _ => true) true Tryd.f8.params.toList args.toList ds p := hA0
  have hV : DataW.TrodVars enc Tryd.prog W (fun _ => true) [] gs q := hV0
  rw [Tryd.params8] at hA hval
  obtain ⟨v0, v1, d0, d1, p0, p1, rfl, rfl, rfl, h0, h1⟩ := trodAll_two hA
  obtain ⟨a0, rfl, rfl, rfl, w0⟩ := open_string Tryd.underlying9 (hval 0 9 v0 rfl rfl) h0
  obtain ⟨a1, rfl, rfl, rfl, w1⟩ := open_int Tryd.underlying3 (hval 1 3 v1 rfl rfl) h1
  obtain ⟨rfl, rfl⟩ := trodVars_none hV
  have hg := et_of_laid hL
  have b1 := bounds_i64 w1
  have e1 : Rows.octetsFarSpec.fn H ([.lit (.string a0.data.toList), .lit (.int .i64 a1)] ++ []) = { results := [.lit (.bool true)], args := [.lit (.string a0.data.toList), .lit (.int .i64 a1)] } := by simp [Rows.octetsFarSpec]
  refine (walk a0 a1 W hg w0 (by omega) (by omega)).mono fun e W' ⟨he, hb⟩ => ?_
  subst he
  refine ⟨_, rfl, _, _, _, [], [], [], hW', ?_, ?_, ?_, hb.frame _, fun h => by cases h⟩
  · rw [e1]; exact trodAll_mk1 (shut_bool Tryd.underlying4 true)
  · rw [e1]; exact trodAll_mk2 (shut_string Tryd.underlying9 w0) (shut_int Tryd.underlying3 w1)
  · rw [e1]; rfl

theorem said : Rows.OctetsFarSaid :=
  OpenClaim.holds_of_wide 8 Tryd.f8 rfl rfl rfl rfl rfl rfl rfl ⟨rfl, rfl, rfl, rfl, rfl⟩ rfl rfl rfl rfl rfl (by kernel_rfl) Tryd.func8 (by kernel_rfl)
    (of_decide_eq_true (by kernel_rfl)) (by unfold Func.isWrapper; rw [if_neg (of_decide_eq_false (by kernel_rfl))]; exact ⟨rfl, rfl⟩)
    (fun os started H enc _ => lifted os started H enc)

theorem plain (f : FuncId) (fn : Func) (hf : Tryd.pinned.checked.prog.funcNamed Rows.octetsFarRow.func = some f) (hfn : Tryd.pinned.checked.prog.funcs[f]? = some fn) :
    true = Tryd.pinned.checked.prog.looks [] ∧ ∀ (j : Nat) t, fn.params[j]? = some t → Tryd.pinned.checked.prog.wantsStandIn t = false := by
  obtain rfl : f = 8 := Option.some.inj ((show Tryd.prog.funcNamed Rows.octetsFarRow.func = some 8 by kernel_rfl).symm.trans hf) |>.symm
  obtain rfl : fn = Tryd.f8 := (Option.some.inj (Tryd.func8.symm.trans hfn)).symm
  refine ⟨by kernel_rfl, fun j t ht => ?_⟩
  rw [Tryd.params8] at ht
  have hm := Array.mem_of_getElem? ht
  simp only [List.mem_toArray, List.mem_cons, List.not_mem_nil, or_false] at hm
  rcases hm with rfl | rfl
  · exact (show Tryd.prog.wantsStandIn 9 = false by kernel_rfl)
  · exact (show Tryd.prog.wantsStandIn 3 = false by kernel_rfl)

theorem card : Rows.OctetsFarCardSaid :=
  Claim7.holds_tied_plain_at .later [] _ _ _ _ said (fun _ h => by cases h) (by kernel_rfl) (fun _ h => by cases h) octetsFar_row_tie rfl ⟨rfl, rfl⟩ (by kernel_rfl) rfl plain (by kernel_rfl)
end Go.Proofs.YtmlmhgonhhcbeaaDoor.octetsFar
namespace Go.Proofs.YtmlmhgonhhcbeaaDoor
theorem octetsFar_card_holds : Rows.OctetsFarCardSaid := octetsFar.card
end Go.Proofs.YtmlmhgonhhcbeaaDoor

