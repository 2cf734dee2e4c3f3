/-
  Proved: for every number and every n, gangwaylaw01.OctetsPut answers true (octets.Put answers as the document says, P1.1) and its arguments read afterwards as before. Conditions: errors.errorType holds what the program's own text lays (tied by the card).
-/
import Derived.Test.YtmlmhgonhhcbeaaDoorRow
import Derived.Test.YtmlmhgonhhcbeaaDoorRefPut
namespace Go.Proofs.YtmlmhgonhhcbeaaDoor.octetsPut
open Go.ChangeShapes Go.WideShapes Go.ChangeAt Go.RowKit

set_option maxHeartbeats 1000000 in
/-- The walk, where both Puts hand back one and the same answer. -/
theorem walk_of (v n : Int) (s : ByteArray) (x : Int) (w : World) (hg : Et w)
    (hp : ∀ W, Et W → Calls Tryd.prog 9 #[.int .u64 v, .int .i64 n] W fun e w' => e = .returned (.tuple #[.string s, .int .i64 x]) ∧ Below W.heap.size W w')
    (hr : ∀ W, Calls Tryd.prog 10 #[.int .u64 v, .int .i64 n] W fun e w' => e = .returned (.tuple #[.string s, .int .i64 x]) ∧ Below W.heap.size W w') :
    Calls Tryd.prog 3 #[.int .u64 v, .int .i64 n] w fun e w' => e = .returned (.bool true) ∧ Below w.heap.size w w' := by
  have HP := hide hp
  have HR := hide hr
  clear hp hr
  go_enter Tryd.func3, Tryd.ntmps3
  go_wp2_with fail
  refine (unhide HP _ hg).mono ?_
  rintro e w1 ⟨rfl, b1⟩
  go_wp2_with fail
  refine (unhide HR _).mono ?_
  rintro e w2 ⟨rfl, b2⟩
  have c2 := bthen b1 b2
  have g2 : Et w2 := hg.next c2
  clear b1 b2
  go_wp2_with fail
  refine (fixed_any _ g2).mono ?_
  rintro e w3 ⟨rfl, b3⟩
  have c3 := bthen c2 b3
  clear c2 b3 g2
  go_wp2
  go_ret
  exact ⟨rfl, c3⟩

theorem walk (v n : Int) (w : World) (hg : Et w) (h0 : 0 ≤ v) (h1 : v < 18446744073709551616) :
    Calls Tryd.prog 3 #[.int .u64 v, .int .i64 n] w fun e w' => e = .returned (.bool true) ∧ Below w.heap.size w w' := by
  by_cases hn : n < 1 ∨ 8 < n
  · exact walk_of v n _ _ w hg (fun W g => put_wide v n W g hn) (fun W => rput_wide v n W hn)
  · obtain ⟨v', rfl⟩ := Int.eq_ofNat_of_zero_le h0
    obtain ⟨n', rfl⟩ := Int.eq_ofNat_of_zero_le (show 0 ≤ n by omega)
    have hr := fun W => rput_some v' n' W (by omega) (by omega) (by omega)
    by_cases hv : v' < 256 ^ n'
    · simp only [if_pos hv] at hr
      exact walk_of v' n' _ _ w hg (fun W _ => put_ok v' n' W (by omega) (by omega) hv) hr
    · simp only [if_neg hv] at hr
      exact walk_of v' n' _ _ w hg (fun W g => put_great v' n' W g (by omega) (by omega) (by omega)) hr

set_option maxRecDepth 100000 in
theorem lifted (os : Os) (started : os.Started) (H : Type) (enc : TypeId × Value → H) :
    ReturnsInHanded {} Tryd.checked os 3 .any (fun w args => (Rows.octetsPutSpec.pre enc Tryd.prog Tryd.f3 [] false w args ∧ laidMetH Tryd.prog [("errors.errorType", Rows.laid_errors_errorType)] w) ∧ sizedMet enc Tryd.prog Tryd.f3 (OpenSpec.ofChange Rows.octetsPutSpec) false w args)
      (Rows.octetsPutSpec.post enc Tryd.prog Tryd.f3 false true false false) := by
  refine returnsInHanded_of_change_and (C := Tryd.checked) (X := fun w _ => laidMetH Tryd.prog [("errors.errorType", Rows.laid_errors_errorType)] w) (fun _ _ _ hh h => h.of_heap hh) own started (by kernel_rfl) Tryd.func3
    (ChangeSpec.witness_at (enc := enc) (C := Tryd.checked) (os := os) (X := fun w _ => laidMetH Tryd.prog [("errors.errorType", Rows.laid_errors_errorType)] w) false
      { World.holding Tryd.prog os ⟨#[], #[], []⟩ with heap := (World.holding Tryd.prog os ⟨#[], #[], []⟩).heap.modify 0 fun
        | .cells _ t frozen => .cells #[.iface 69 (.agg #[.pointer (some ⟨2, 39, none⟩)])] t frozen
        | o => o } #[.int .u64 0, .int .i64 0] 8 rfl (by kernel_rfl) (by kernel_rfl) (by kernel_rfl) (by kernel_rfl) (by kernel_rfl) (laid_met os _)) ?_
  intro W base args ds gs before hval0 hW _ _ hL _
  have hval : ∀ (j : Nat) t v, Tryd.f3.params[j]? = some t → args[j]? = some v → Value.okWide Tryd.prog W .any base t v := hval0
  have hW' := hW
  obtain ⟨p, q, hA0, hV0, rfl, hfz, hnd⟩ := hW
  have hA : DataW.TrodAll enc Tryd.prog W 0 (fun _ => true) true Tryd.f3.params.toList args.toList ds p := hA0
  have hV : DataW.TrodVars enc Tryd.prog W (fun _ => true) [] gs q := hV0
  rw [Tryd.params3] at hA hval
  obtain ⟨v0, v1, d0, d1, p0, p1, rfl, rfl, rfl, h0, h1⟩ := trodAll_two hA
  obtain ⟨v, rfl, rfl, rfl, hwv⟩ := open_int Tryd.underlying22 (hval 0 22 v0 rfl rfl) h0
  obtain ⟨n, rfl, rfl, rfl, hwn⟩ := open_int Tryd.underlying3 (hval 1 3 v1 rfl rfl) h1
  obtain ⟨rfl, rfl⟩ := trodVars_none hV
  have hg := et_of_laid hL
  have bv := bounds_u64 hwv
  have e1 : Rows.octetsPutSpec.fn H ([.lit (.int .u64 v), .lit (.int .i64 n)] ++ []) = { results := [.lit (.bool true)], args := [.lit (.int .u64 v), .lit (.int .i64 n)] } := by simp [Rows.octetsPutSpec]
  refine (walk v n W hg (by omega) (by omega)).mono fun e W' ⟨he, hb⟩ => ?_
  subst he
  refine ⟨_, rfl, _, _, _, [], [], [], hW', ?_, ?_, ?_, hb.frame _, fun h => by cases h⟩
  · rw [e1]; exact trodAll_mk1 (shut_bool Tryd.underlying4 true)
  · rw [e1]; exact trodAll_mk2 (shut_int Tryd.underlying22 hwv) (shut_int Tryd.underlying3 hwn)
  · rw [e1]; rfl

theorem said : Rows.OctetsPutSaid :=
  OpenClaim.holds_of_wide 3 Tryd.f3 rfl rfl rfl rfl rfl rfl rfl ⟨rfl, rfl, rfl, rfl, rfl⟩ rfl rfl rfl rfl rfl (by kernel_rfl) Tryd.func3 (by kernel_rfl)
    (of_decide_eq_true (by kernel_rfl)) (by unfold Func.isWrapper; rw [if_neg (of_decide_eq_false (by kernel_rfl))]; exact ⟨rfl, rfl⟩)
    (fun os started H enc _ => lifted os started H enc)

theorem plain (f : FuncId) (fn : Func) (hf : Tryd.pinned.checked.prog.funcNamed Rows.octetsPutRow.func = some f) (hfn : Tryd.pinned.checked.prog.funcs[f]? = some fn) :
    true = Tryd.pinned.checked.prog.looks [] ∧ ∀ (j : Nat) t, fn.params[j]? = some t → Tryd.pinned.checked.prog.wantsStandIn t = false := by
  obtain rfl : f = 3 := Option.some.inj ((show Tryd.prog.funcNamed Rows.octetsPutRow.func = some 3 by kernel_rfl).symm.trans hf) |>.symm
  obtain rfl : fn = Tryd.f3 := (Option.some.inj (Tryd.func3.symm.trans hfn)).symm
  refine ⟨by kernel_rfl, fun j t ht => ?_⟩
  rw [Tryd.params3] at ht
  have hm := Array.mem_of_getElem? ht
  simp only [List.mem_toArray, List.mem_cons, List.not_mem_nil, or_false] at hm
  rcases hm with rfl | rfl
  · exact (show Tryd.prog.wantsStandIn 22 = false by kernel_rfl)
  · exact (show Tryd.prog.wantsStandIn 3 = false by kernel_rfl)

theorem card : Rows.OctetsPutCardSaid :=
  Claim7.holds_tied_plain_at .later [] _ _ _ _ said (fun _ h => by cases h) (by kernel_rfl) (fun _ h => by cases h) octetsPut_row_tie rfl ⟨rfl, rfl⟩ (by kernel_rfl) rfl plain (by kernel_rfl)
end Go.Proofs.YtmlmhgonhhcbeaaDoor.octetsPut
namespace Go.Proofs.YtmlmhgonhhcbeaaDoor
theorem octetsPut_card_holds : Rows.OctetsPutCardSaid := octetsPut.card
end Go.Proofs.YtmlmhgonhhcbeaaDoor
