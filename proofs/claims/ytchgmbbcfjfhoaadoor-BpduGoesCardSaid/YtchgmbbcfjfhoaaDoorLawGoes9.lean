/-
  Proved: a message that goes in a frame is in it, built and parsed; with a tag it is none, and the arguments read afterwards as before. Conditions: errors.errorType holds what the program's own text lays (tied by the card; the walk asks nothing of it).
-/
import Derived.Test.YtchgmbbcfjfhoaaDoorRow9
import Derived.Test.YtchgmbbcfjfhoaaDoorFixed9
import Derived.Test.YtchgmbbcfjfhoaaDoorLoad9
import Derived.Test.YtchgmbbcfjfhoaaDoorGoes9a
import Derived.Test.YtchgmbbcfjfhoaaDoorGoes9b
namespace Go.Proofs.YtchgmbbcfjfhoaaDoor.bpduGoes
open Go.ChangeShapes Go.WideShapes Go.ChangeAt Go.RowKit Go.Sort
open Go.ChangeMaps (open_string shut_string)

theorem walk (s : Nat) (b : Bp) (z : Int) (w : World) (hs : s < 18446744073709551616) (hf : b.fits) (_ : -9223372036854775808 ≤ z) (_ : z ≤ 9223372036854775807) :
    Calls Tryd.prog 7 #[.int .u64 (s : Int), b.val, .int .i64 z] w fun e w' => e = .returned (.bool true) ∧ Below w.heap.size w w' := by
  have k := fun W => frame_any s b W hs hf
  have CC := fun W => bpCheck_any b W
  have CO := fun W => rown s W hs
  have CF := hide fun W => fixed_true W
  unfold framed at k
  by_cases h : b.check = 0
  · rw [h] at CC
    cases ho : ownH s
    · rw [ho] at CO
      rw [if_neg (by simp [ho])] at k
      exact walk_b2 s z b.kind b.change b.propose b.learn b.forward b.agree b.ack b.role b.root b.cost b.bridge b.port b.age b.maxAge b.hello b.delay 91 w (by decide) (hide k) (hide CC) (hide CO) CF
    · rw [if_pos ⟨h, ho⟩] at k
      have hk := Bp.check_ok.1 h
      have hs6 : s < 281474976710656 := by
        unfold ownH at ho
        simp only [Bool.and_eq_true, decide_eq_true_eq] at ho
        exact ho.1.1
      have hl : b.bytes.length ≤ 39 := by rw [b.bytes_length]; split <;> (try split) <;> omega
      have C3 := fun W => of_any (bpFr s b) W (by show b.bytes.length ≤ 10000; omega)
      have e3 : ofFr (bpFr s b) = (b, true) := by
        unfold ofFr bpFr
        simp only
        rw [if_pos ⟨trivial, trivial, trivial⟩, b.parse_back hk hf.1 hf.2]
        rfl
      rw [e3] at C3
      obtain ⟨V, hV⟩ : ∃ V, bits BinOp.and IntKind.i64 z 4095 = V := ⟨_, rfl⟩
      have C4 := fun W => of_any ⟨1652522221568, s, true, 0, false, V, 0, b.bytes⟩ W (by show b.bytes.length ≤ 10000; omega)
      have e4 : ofFr ⟨1652522221568, s, true, 0, false, V, 0, b.bytes⟩ = (Bp.none, false) := by
        unfold ofFr
        rw [if_neg (by simp)]
      rw [e4] at C4
      exact walk_good s z b.kind b.change b.propose b.learn b.forward b.agree b.ack b.role b.root b.cost b.bridge b.port b.age b.maxAge b.hello b.delay _ V _ _ w hV (hide k) (hide fun W => ebuild_bp s b hs6 W) (hide fun W => eparse_bp s b hs6 W) (hide C3) (hide fun W => tagged_any _ _ _ _ _ _ _ _ _ _ _ _ W) (hide C4) CF
  · rw [if_neg (fun q => h q.1)] at k
    exact walk_b1 s z b.kind b.change b.propose b.learn b.forward b.agree b.ack b.role b.root b.cost b.bridge b.port b.age b.maxAge b.hello b.delay 91 _ w (by decide) (by simpa using h) (hide k) (hide CC) CF
set_option maxRecDepth 100000 in
theorem lifted (os : Os) (started : os.Started) (H : Type) (enc : TypeId × Value → H) :
    ReturnsInHanded {} Tryd.checked os 7 .any (fun w args => (Rows.bpduGoesSpec.pre enc Tryd.prog Tryd.f7 [] false w args ∧ laidMetH Tryd.prog [("errors.errorType", Rows.laid_errors_errorType)] w) ∧ sizedMet enc Tryd.prog Tryd.f7 (OpenSpec.ofChange Rows.bpduGoesSpec) false w args)
      (Rows.bpduGoesSpec.post enc Tryd.prog Tryd.f7 false true false false) := by
  refine returnsInHanded_of_change_and (C := Tryd.checked) (X := fun w _ => laidMetH Tryd.prog [("errors.errorType", Rows.laid_errors_errorType)] w) (fun _ _ _ hh h => h.of_heap hh) own started (by kernel_rfl) Tryd.func7
    (ChangeSpec.witness_at (enc := enc) (C := Tryd.checked) (os := os) (X := fun w _ => laidMetH Tryd.prog [("errors.errorType", Rows.laid_errors_errorType)] w) false
      { World.holding Tryd.prog os ⟨#[], #[], []⟩ with heap := (World.holding Tryd.prog os ⟨#[], #[], []⟩).heap.modify 0 fun
        | .cells _ t frozen => .cells #[.iface 111 (.agg #[.pointer (some ⟨1, 61, none⟩)])] t frozen
        | o => o } #[.int .u64 0, .agg #[.int .i64 0, .bool false, .bool false, .bool false, .bool false, .bool false, .bool false, .int .i64 0, .int .u64 0, .int .i64 0, .int .u64 0, .int .i64 0, .int .i64 0, .int .i64 0, .int .i64 0, .int .i64 0], .int .i64 0] 8 rfl (by kernel_rfl) (by kernel_rfl) (by kernel_rfl) (by kernel_rfl) (by kernel_rfl) (laid_met os _)) ?_
  intro W base args ds gs before hval0 hW _ _ _ _
  have hval : ∀ (j : Nat) t v, Tryd.f7.params[j]? = some t → args[j]? = some v → Value.okWide Tryd.prog W .any base t v := hval0
  have hW' := hW
  obtain ⟨p, q, hA0, hV0, rfl, hfz, hnd⟩ := hW
  have hA : DataW.TrodAll enc Tryd.prog W 0 (fun _ => true) true Tryd.f7.params.toList args.toList ds p := hA0
  have hV : DataW.TrodVars enc Tryd.prog W (fun _ => true) [] gs q := hV0
  rw [Tryd.params7] at hA hval
  obtain ⟨v0, v1, v2, d0, d1, d2, p0, p1, p2, rfl, rfl, rfl, h0, h1, h2⟩ := trodAll_three hA
  obtain ⟨a0, rfl, rfl, rfl, w0⟩ := open_int Tryd.underlying22 (hval 0 22 v0 rfl rfl) h0
  have b0 := bounds_u64 w0
  obtain ⟨m0, rfl⟩ : ∃ m : Nat, a0 = m := ⟨a0.toNat, by omega⟩
  obtain ⟨a1, rfl, rfl, rfl, hw1, hf1⟩ := open_bp (hval 1 24 v1 rfl rfl) h1
  obtain ⟨a2, rfl, rfl, rfl, w2⟩ := open_int Tryd.underlying3 (hval 2 3 v2 rfl rfl) h2
  have b2 := bounds_i64 w2
  obtain ⟨rfl, rfl⟩ := trodVars_none hV
  have e1 : Rows.bpduGoesSpec.fn H ([.lit (.int .u64 (m0 : Int)), bpD a1, .lit (.int .i64 a2)] ++ []) = { results := [.lit (.bool true)], args := [.lit (.int .u64 (m0 : Int)), bpD a1, .lit (.int .i64 a2)] } := by simp [Rows.bpduGoesSpec]
  refine (walk m0 a1 a2 W (by omega) hf1 (by omega) (by omega)).mono fun e W' ⟨he, hb⟩ => ?_
  subst he
  refine ⟨_, rfl, _, _, _, [], [], [], hW', ?_, ?_, ?_, hb.frame _, fun h => by cases h⟩
  · rw [e1]; exact trodAll_mk1 (shut_bool Tryd.underlying4 true)
  · rw [e1]; exact trodAll_mk3 (shut_int Tryd.underlying22 w0) (shut_bp a1 hw1) (shut_int Tryd.underlying3 w2)
  · rw [e1]; rfl

theorem said : Rows.BpduGoesSaid :=
  OpenClaim.holds_of_wide 7 Tryd.f7 rfl rfl rfl rfl rfl rfl rfl ⟨rfl, rfl, rfl, rfl, rfl⟩ rfl rfl rfl rfl rfl (by kernel_rfl) Tryd.func7 (by kernel_rfl)
    (of_decide_eq_true (by kernel_rfl)) (by unfold Func.isWrapper; rw [if_neg (of_decide_eq_false (by kernel_rfl))]; exact ⟨rfl, rfl⟩)
    (fun os started H enc _ => lifted os started H enc)

theorem plain (f : FuncId) (fn : Func) (hf : Tryd.pinned.checked.prog.funcNamed Rows.bpduGoesRow.func = some f) (hfn : Tryd.pinned.checked.prog.funcs[f]? = some fn) :
    true = Tryd.pinned.checked.prog.looks [] ∧ ∀ (j : Nat) t, fn.params[j]? = some t → Tryd.pinned.checked.prog.wantsStandIn t = false := by
  obtain rfl : f = 7 := Option.some.inj ((show Tryd.prog.funcNamed Rows.bpduGoesRow.func = some 7 by kernel_rfl).symm.trans hf) |>.symm
  obtain rfl : fn = Tryd.f7 := (Option.some.inj (Tryd.func7.symm.trans hfn)).symm
  refine ⟨by kernel_rfl, fun j t ht => ?_⟩
  rw [Tryd.params7] at ht
  have hm := Array.mem_of_getElem? ht
  simp only [List.mem_toArray, List.mem_cons, List.not_mem_nil, or_false] at hm
  rcases hm with rfl | rfl | rfl
  · exact (show Tryd.prog.wantsStandIn 22 = false by kernel_rfl)
  · exact (show Tryd.prog.wantsStandIn 24 = false by kernel_rfl)
  · exact (show Tryd.prog.wantsStandIn 3 = false by kernel_rfl)

theorem card : Rows.BpduGoesCardSaid :=
  Claim7.holds_tied_plain_at .later [] _ _ _ _ said (fun _ h => by cases h) (by kernel_rfl) (fun _ h => by cases h) bpduGoes_row_tie rfl ⟨rfl, rfl⟩ (by kernel_rfl) rfl plain (by kernel_rfl)
end Go.Proofs.YtchgmbbcfjfhoaaDoor.bpduGoes
namespace Go.Proofs.YtchgmbbcfjfhoaaDoor
theorem bpduGoes_card_holds : Rows.BpduGoesCardSaid := bpduGoes.card
end Go.Proofs.YtchgmbbcfjfhoaaDoor
