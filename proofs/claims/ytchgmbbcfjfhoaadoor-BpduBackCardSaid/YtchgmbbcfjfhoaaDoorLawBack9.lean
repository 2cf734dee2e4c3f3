/-
  Proved: what is built is parsed as it was, whatever stands behind; what is parsed may be, and is parsed again, as it is, and the arguments read afterwards as before. Conditions: errors.errorType holds what the program's own text lays (tied by the card; the walk asks nothing of it).
-/
import Derived.Test.YtchgmbbcfjfhoaaDoorRow9
import Derived.Test.YtchgmbbcfjfhoaaDoorFixed9
import Derived.Test.YtchgmbbcfjfhoaaDoorLoad9
import Derived.Test.YtchgmbbcfjfhoaaDoorBack9a
import Derived.Test.YtchgmbbcfjfhoaaDoorBack9b
import Derived.Test.YtchgmbbcfjfhoaaDoorBack9c
namespace Go.Proofs.YtchgmbbcfjfhoaaDoor.bpduBack
open Go.ChangeShapes Go.WideShapes Go.ChangeAt Go.RowKit Go.Sort
open Go.ChangeMaps (open_string shut_string)

theorem walk (b : Bp) (S0 : ByteArray) (w : World) (hf : b.fits) (_ : S0.size ≤ maxLen) :
    Calls Tryd.prog 6 #[b.val, .string S0] w fun e w' => e = .returned (.bool true) ∧ Below w.heap.size w w' := by
  obtain ⟨i, l, hl, ms, ss⟩ := firstN 200 S0
  have CB := fun W => bpBuild_any b W hf
  have CQ := fun W => bpParse_any l W (by omega)
  obtain ⟨pd, p1, p2⟩ := Bp.parsed l
  generalize Bp.parse l = r at *
  obtain ⟨m, q⟩ := r
  simp only at pd p1 p2 CQ
  unfold Bp.built at CB
  have CF := hide fun W => fixed_true W
  by_cases h : b.check = 0
  · rw [if_pos h, h] at CB
    have hk := Bp.check_ok.1 h
    have hbl := b.bytes_length
    have hbl2 : b.bytes.length ≤ 39 := by rw [hbl]; split <;> (try split) <;> omega
    have CP := fun W => bpParse_any (b.bytes ++ l) W (by rw [List.length_append]; omega)
    rw [b.parse_built l hk hf.1 hf.2] at CP
    have g := fun W => add_bs b.bytes l (by omega) W
    rcases pd with ⟨rfl, o, ol⟩ | ⟨e, rfl⟩
    · have C4 := fun W => bpBuild_any m W ⟨p1, p2⟩
      have c0 := Bp.check_ok.2 o
      unfold Bp.built at C4
      rw [if_pos c0, c0] at C4
      have C5 := fun W => bpParse_any m.bytes W (by omega)
      rw [m.parse_back o p1 p2] at C5
      have C6 := fun W => bpCheck_any m W
      rw [c0] at C6
      exact walk_11 b.kind b.change b.propose b.learn b.forward b.agree b.ack b.role b.root b.cost b.bridge b.port b.age b.maxAge b.hello b.delay m.kind m.change m.propose m.learn m.forward m.agree m.ack m.role m.root m.cost m.bridge m.port m.age m.maxAge m.hello m.delay S0 (bs l) i _ _ _ w ms ss (hide CB) g (hide CP) (hide CQ) (hide C4) (hide C5) (hide C6) (by rw [bs_size, bs_size]; omega) CF
    · exact walk_10 b.kind b.change b.propose b.learn b.forward b.agree b.ack b.role b.root b.cost b.bridge b.port b.age b.maxAge b.hello b.delay q S0 (bs l) i _ _ w (by rcases e with rfl | rfl <;> rfl) ms ss (hide CB) g (hide CP) (hide CQ) CF
  · rw [if_neg h] at CB
    have hE : (b.check == 0) = false := by simpa using h
    rcases pd with ⟨rfl, o, ol⟩ | ⟨e, rfl⟩
    · have C4 := fun W => bpBuild_any m W ⟨p1, p2⟩
      have c0 := Bp.check_ok.2 o
      unfold Bp.built at C4
      rw [if_pos c0, c0] at C4
      have C5 := fun W => bpParse_any m.bytes W (by omega)
      rw [m.parse_back o p1 p2] at C5
      have C6 := fun W => bpCheck_any m W
      rw [c0] at C6
      exact walk_01 b.kind b.change b.propose b.learn b.forward b.agree b.ack b.role b.root b.cost b.bridge b.port b.age b.maxAge b.hello b.delay m.kind m.change m.propose m.learn m.forward m.agree m.ack m.role m.root m.cost m.bridge m.port m.age m.maxAge m.hello m.delay _ S0 (bs l) i _ w hE ms ss (hide CB) (hide CQ) (hide C4) (hide C5) (hide C6) (by rw [bs_size, bs_size]; omega) CF
    · exact walk_00 b.kind b.change b.propose b.learn b.forward b.agree b.ack b.role b.root b.cost b.bridge b.port b.age b.maxAge b.hello b.delay _ q S0 (bs l) i w hE (by rcases e with rfl | rfl <;> rfl) ms ss (hide CB) (hide CQ) CF
set_option maxRecDepth 100000 in
theorem lifted (os : Os) (started : os.Started) (H : Type) (enc : TypeId × Value → H) :
    ReturnsInHanded {} Tryd.checked os 6 .any (fun w args => (Rows.bpduBackSpec.pre enc Tryd.prog Tryd.f6 [] false w args ∧ laidMetH Tryd.prog [("errors.errorType", Rows.laid_errors_errorType)] w) ∧ sizedMet enc Tryd.prog Tryd.f6 (OpenSpec.ofChange Rows.bpduBackSpec) false w args)
      (Rows.bpduBackSpec.post enc Tryd.prog Tryd.f6 false true false false) := by
  refine returnsInHanded_of_change_and (C := Tryd.checked) (X := fun w _ => laidMetH Tryd.prog [("errors.errorType", Rows.laid_errors_errorType)] w) (fun _ _ _ hh h => h.of_heap hh) own started (by kernel_rfl) Tryd.func6
    (ChangeSpec.witness_at (enc := enc) (C := Tryd.checked) (os := os) (X := fun w _ => laidMetH Tryd.prog [("errors.errorType", Rows.laid_errors_errorType)] w) false
      { World.holding Tryd.prog os ⟨#[], #[], []⟩ with heap := (World.holding Tryd.prog os ⟨#[], #[], []⟩).heap.modify 0 fun
        | .cells _ t frozen => .cells #[.iface 111 (.agg #[.pointer (some ⟨1, 61, none⟩)])] t frozen
        | o => o } #[.agg #[.int .i64 0, .bool false, .bool false, .bool false, .bool false, .bool false, .bool false, .int .i64 0, .int .u64 0, .int .i64 0, .int .u64 0, .int .i64 0, .int .i64 0, .int .i64 0, .int .i64 0, .int .i64 0], .string ByteArray.empty] 8 rfl (by kernel_rfl) (by kernel_rfl) (by kernel_rfl) (by kernel_rfl) (by kernel_rfl) (laid_met os _)) ?_
  intro W base args ds gs before hval0 hW _ _ _ _
  have hval : ∀ (j : Nat) t v, Tryd.f6.params[j]? = some t → args[j]? = some v → Value.okWide Tryd.prog W .any base t v := hval0
  have hW' := hW
  obtain ⟨p, q, hA0, hV0, rfl, hfz, hnd⟩ := hW
  have hA : DataW.TrodAll enc Tryd.prog W 0 (fun _ => true) true Tryd.f6.params.toList args.toList ds p := hA0
  have hV : DataW.TrodVars enc Tryd.prog W (fun _ => true) [] gs q := hV0
  rw [Tryd.params6] at hA hval
  obtain ⟨v0, v1, d0, d1, p0, p1, rfl, rfl, rfl, h0, h1⟩ := trodAll_two hA
  obtain ⟨a0, rfl, rfl, rfl, hw0, hf0⟩ := open_bp (hval 0 24 v0 rfl rfl) h0
  obtain ⟨a1, rfl, rfl, rfl, w1⟩ := open_string Tryd.underlying9 (hval 1 9 v1 rfl rfl) h1
  obtain ⟨rfl, rfl⟩ := trodVars_none hV
  have e1 : Rows.bpduBackSpec.fn H ([bpD a0, .lit (.string a1.data.toList)] ++ []) = { results := [.lit (.bool true)], args := [bpD a0, .lit (.string a1.data.toList)] } := by simp [Rows.bpduBackSpec]
  refine (walk a0 a1 W hf0 w1).mono fun e W' ⟨he, hb⟩ => ?_
  subst he
  refine ⟨_, rfl, _, _, _, [], [], [], hW', ?_, ?_, ?_, hb.frame _, fun h => by cases h⟩
  · rw [e1]; exact trodAll_mk1 (shut_bool Tryd.underlying4 true)
  · rw [e1]; exact trodAll_mk2 (shut_bp a0 hw0) (shut_string Tryd.underlying9 w1)
  · rw [e1]; rfl

theorem said : Rows.BpduBackSaid :=
  OpenClaim.holds_of_wide 6 Tryd.f6 rfl rfl rfl rfl rfl rfl rfl ⟨rfl, rfl, rfl, rfl, rfl⟩ rfl rfl rfl rfl rfl (by kernel_rfl) Tryd.func6 (by kernel_rfl)
    (of_decide_eq_true (by kernel_rfl)) (by unfold Func.isWrapper; rw [if_neg (of_decide_eq_false (by kernel_rfl))]; exact ⟨rfl, rfl⟩)
    (fun os started H enc _ => lifted os started H enc)

theorem plain (f : FuncId) (fn : Func) (hf : Tryd.pinned.checked.prog.funcNamed Rows.bpduBackRow.func = some f) (hfn : Tryd.pinned.checked.prog.funcs[f]? = some fn) :
    true = Tryd.pinned.checked.prog.looks [] ∧ ∀ (j : Nat) t, fn.params[j]? = some t → Tryd.pinned.checked.prog.wantsStandIn t = false := by
  obtain rfl : f = 6 := Option.some.inj ((show Tryd.prog.funcNamed Rows.bpduBackRow.func = some 6 by kernel_rfl).symm.trans hf) |>.symm
  obtain rfl : fn = Tryd.f6 := (Option.some.inj (Tryd.func6.symm.trans hfn)).symm
  refine ⟨by kernel_rfl, fun j t ht => ?_⟩
  rw [Tryd.params6] at ht
  have hm := Array.mem_of_getElem? ht
  simp only [List.mem_toArray, List.mem_cons, List.not_mem_nil, or_false] at hm
  rcases hm with rfl | rfl
  · exact (show Tryd.prog.wantsStandIn 24 = false by kernel_rfl)
  · exact (show Tryd.prog.wantsStandIn 9 = false by kernel_rfl)

theorem card : Rows.BpduBackCardSaid :=
  Claim7.holds_tied_plain_at .later [] _ _ _ _ said (fun _ h => by cases h) (by kernel_rfl) (fun _ h => by cases h) bpduBack_row_tie rfl ⟨rfl, rfl⟩ (by kernel_rfl) rfl plain (by kernel_rfl)
end Go.Proofs.YtchgmbbcfjfhoaaDoor.bpduBack
namespace Go.Proofs.YtchgmbbcfjfhoaaDoor
theorem bpduBack_card_holds : Rows.BpduBackCardSaid := bpduBack.card
end Go.Proofs.YtchgmbbcfjfhoaaDoor
