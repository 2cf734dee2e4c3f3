/-
  Proved: for every two texts, gangwaylaw01.OctetsHex answers true (Hex and Unhex answer as the document says, P1.2; of each text the first 1000 bytes) and its arguments read afterwards as before. Conditions: errors.errorType holds what the program's own text lays (tied by the card).
-/
import Derived.Test.YtmlmhgonhhcbeaaDoorRow
import Derived.Test.YtmlmhgonhhcbeaaDoorAid
import Derived.Test.YtmlmhgonhhcbeaaDoorRefUnhex
namespace Go.Proofs.YtmlmhgonhhcbeaaDoor.octetsHex
open Go.ChangeShapes Go.WideShapes Go.ChangeAt Go.RowKit
open Go.ChangeMaps (open_string shut_string)

set_option maxHeartbeats 4000000 in
theorem walk (s t : ByteArray) (w : World) (hg : Et w) (hs : s.size ≤ maxLen) (ht : t.size ≤ maxLen) :
    Calls Tryd.prog 4 #[.string s, .string t] w fun e w' => e = .returned (.bool true) ∧ Below w.heap.size w w' := by
  unfold maxLen at hs ht
  obtain ⟨p, hp, hc⟩ := shortened s
  obtain ⟨q, hq, hd⟩ := shortened t
  have U1 := hide (fun W g => unhex_any q W g (by omega))
  have U2 := hide (fun W => runhex_any q W hq)
  have H1 := hide (fun W => hex_any p W (by omega))
  have H2 := hide (fun W => rhex_any p W hp)
  unfold unhV at U1 U2
  generalize bs ((unh q.data.toList).getD []) = S at U1 U2
  generalize (if (unh q.data.toList).isSome = true then (0 : Int) else 11) = E at U1 U2
  generalize bs (hexs p.data.toList) = X at H1 H2
  rcases hc with ⟨rfl, hc, hmn, hxa⟩ | ⟨he, hc, hmn⟩ <;> rcases hd with ⟨rfl, hd, hmm, hxb⟩ | ⟨hf, hd, hmm⟩
  all_goals
    go_enter Tryd.func4, Tryd.ntmps4
    go_wp2_with fail
    refine (unhide U1 _ hg).mono ?_
    rintro e w1 ⟨rfl, b1⟩
    go_wp2_with fail
    refine (unhide U2 _).mono ?_
    rintro e w2 ⟨rfl, b2⟩
    have c2 := bthen b1 b2
    have g2 : Et w2 := hg.next c2
    clear b1 b2
    go_wp2_with fail
    refine (fixed_any _ g2).mono ?_
    rintro e w3 ⟨rfl, b3⟩
    have c3 := bthen c2 b3
    clear c2 b3 g2
    go_wp2_with fail
    refine (unhide H1 _).mono ?_
    rintro e w4 ⟨rfl, b4⟩
    have c4 := bthen c3 b4
    clear c3 b4
    go_wp2_with fail
    refine (unhide H2 _).mono ?_
    rintro e w5 ⟨rfl, b5⟩
    have c5 := bthen c4 b5
    clear c4 b5
    go_wp2
    go_ret
    exact ⟨rfl, c5⟩

set_option maxRecDepth 100000 in
theorem lifted (os : Os) (started : os.Started) (H : Type) (enc : TypeId × Value → H) :
    ReturnsInHanded {} Tryd.checked os 4 .any (fun w args => (Rows.octetsHexSpec.pre enc Tryd.prog Tryd.f4 [] false w args ∧ laidMetH Tryd.prog [("errors.errorType", Rows.laid_errors_errorType)] w) ∧ sizedMet enc Tryd.prog Tryd.f4 (OpenSpec.ofChange Rows.octetsHexSpec) false w args)
      (Rows.octetsHexSpec.post enc Tryd.prog Tryd.f4 false true false false) := by
  refine returnsInHanded_of_change_and (C := Tryd.checked) (X := fun w _ => laidMetH Tryd.prog [("errors.errorType", Rows.laid_errors_errorType)] w) (fun _ _ _ hh h => h.of_heap hh) own started (by kernel_rfl) Tryd.func4
    (ChangeSpec.witness_at (enc := enc) (C := Tryd.checked) (os := os) (X := fun w _ => laidMetH Tryd.prog [("errors.errorType", Rows.laid_errors_errorType)] w) false
      { World.holding Tryd.prog os ⟨#[], #[], []⟩ with heap := (World.holding Tryd.prog os ⟨#[], #[], []⟩).heap.modify 0 fun
        | .cells _ t frozen => .cells #[.iface 69 (.agg #[.pointer (some ⟨2, 39, none⟩)])] t frozen
        | o => o } #[.string ByteArray.empty, .string ByteArray.empty] 8 rfl (by kernel_rfl) (by kernel_rfl) (by kernel_rfl) (by kernel_rfl) (by kernel_rfl) (laid_met os _)) ?_
  intro W base args ds gs before hval0 hW _ _ hL _
  have hval : ∀ (j : Nat) t v, Tryd.f4.params[j]? = some t → args[j]? = some v → Value.okWide Tryd.prog W .any base t v := hval0
  have hW' := hW
  obtain ⟨p, q, hA0, hV0, rfl, hfz, hnd⟩ := hW
  have hA : DataW.TrodAll enc Tryd.prog W 0 (fun _ => true) true Tryd.f4.params.toList args.toList ds p := hA0
  have hV : DataW.TrodVars enc Tryd.prog W (fun _ => true) [] gs q := hV0
  rw [Tryd.params4] at hA hval
  obtain ⟨v0, v1, d0, d1, p0, p1, rfl, rfl, rfl, h0, h1⟩ := trodAll_two hA
  obtain ⟨a0, rfl, rfl, rfl, w0⟩ := open_string Tryd.underlying9 (hval 0 9 v0 rfl rfl) h0
  obtain ⟨a1, rfl, rfl, rfl, w1⟩ := open_string Tryd.underlying9 (hval 1 9 v1 rfl rfl) h1
  obtain ⟨rfl, rfl⟩ := trodVars_none hV
  have hg := et_of_laid hL
  have e1 : Rows.octetsHexSpec.fn H ([.lit (.string a0.data.toList), .lit (.string a1.data.toList)] ++ []) = { results := [.lit (.bool true)], args := [.lit (.string a0.data.toList), .lit (.string a1.data.toList)] } := by simp [Rows.octetsHexSpec]
  refine (walk a0 a1 W hg w0 w1).mono fun e W' ⟨he, hb⟩ => ?_
  subst he
  refine ⟨_, rfl, _, _, _, [], [], [], hW', ?_, ?_, ?_, hb.frame _, fun h => by cases h⟩
  · rw [e1]; exact trodAll_mk1 (shut_bool Tryd.underlying4 true)
  · rw [e1]; exact trodAll_mk2 (shut_string Tryd.underlying9 w0) (shut_string Tryd.underlying9 w1)
  · rw [e1]; rfl

theorem said : Rows.OctetsHexSaid :=
  OpenClaim.holds_of_wide 4 Tryd.f4 rfl rfl rfl rfl rfl rfl rfl ⟨rfl, rfl, rfl, rfl, rfl⟩ rfl rfl rfl rfl rfl (by kernel_rfl) Tryd.func4 (by kernel_rfl)
    (of_decide_eq_true (by kernel_rfl)) (by unfold Func.isWrapper; rw [if_neg (of_decide_eq_false (by kernel_rfl))]; exact ⟨rfl, rfl⟩)
    (fun os started H enc _ => lifted os started H enc)

theorem plain (f : FuncId) (fn : Func) (hf : Tryd.pinned.checked.prog.funcNamed Rows.octetsHexRow.func = some f) (hfn : Tryd.pinned.checked.prog.funcs[f]? = some fn) :
    true = Tryd.pinned.checked.prog.looks [] ∧ ∀ (j : Nat) t, fn.params[j]? = some t → Tryd.pinned.checked.prog.wantsStandIn t = false := by
  obtain rfl : f = 4 := Option.some.inj ((show Tryd.prog.funcNamed Rows.octetsHexRow.func = some 4 by kernel_rfl).symm.trans hf) |>.symm
  obtain rfl : fn = Tryd.f4 := (Option.some.inj (Tryd.func4.symm.trans hfn)).symm
  refine ⟨by kernel_rfl, fun j t ht => ?_⟩
  rw [Tryd.params4] at ht
  have hm := Array.mem_of_getElem? ht
  simp only [List.mem_toArray, List.mem_cons, List.not_mem_nil, or_false] at hm
  rcases hm with rfl | rfl
  · exact (show Tryd.prog.wantsStandIn 9 = false by kernel_rfl)
  · exact (show Tryd.prog.wantsStandIn 9 = false by kernel_rfl)

theorem card : Rows.OctetsHexCardSaid :=
  Claim7.holds_tied_plain_at .later [] _ _ _ _ said (fun _ h => by cases h) (by kernel_rfl) (fun _ h => by cases h) octetsHex_row_tie rfl ⟨rfl, rfl⟩ (by kernel_rfl) rfl plain (by kernel_rfl)
end Go.Proofs.YtmlmhgonhhcbeaaDoor.octetsHex
namespace Go.Proofs.YtmlmhgonhhcbeaaDoor
theorem octetsHex_card_holds : Rows.OctetsHexCardSaid := octetsHex.card
end Go.Proofs.YtmlmhgonhhcbeaaDoor

