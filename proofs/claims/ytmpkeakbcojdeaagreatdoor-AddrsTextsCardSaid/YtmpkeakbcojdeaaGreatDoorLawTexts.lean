/-
  The law gangwaylaw02.AddrsTexts holds for every number, address and text: it answers true, and they are as they were.
-/
import Derived.Test.YtmpkeakbcojdeaaGreatDoorRefReadIp
import Derived.Deep.RegionWith
namespace Go.Proofs.YtmpkeakbcojdeaaGreatDoor.addrsTexts
open Go.ChangeShapes Go.WideShapes Go.ChangeAt Go.RowKit
open Go.ChangeMaps (open_string shut_string)

set_option maxRecDepth 20000 in
set_option maxHeartbeats 8000000 in
theorem walk_at (M A D g H i : Int) (S1 S2 P s : ByteArray) (w : World) (hs : s.size ≤ maxLen) (hc : Shortened s P) (hP : P.size ≤ 60)
    (cM : Hid (∀ W, Below w.heap.size w W → Calls Tryz.prog 14 #[.int .u64 M] W fun e W' => e = .returned (.string S1) ∧ Below w.heap.size w W'))
    (cM' : Hid (∀ W, Below w.heap.size w W → Calls Tryz.prog 15 #[.int .u64 M] W fun e W' => e = .returned (.string S1) ∧ Below w.heap.size w W'))
    (cI : Hid (∀ W, Below w.heap.size w W → Calls Tryz.prog 16 #[.int .u32 A] W fun e W' => e = .returned (.string S2) ∧ Below w.heap.size w W'))
    (cI' : Hid (∀ W, Below w.heap.size w W → Calls Tryz.prog 17 #[.int .u32 A] W fun e W' => e = .returned (.string S2) ∧ Below w.heap.size w W'))
    (cD : Hid (∀ W, Below w.heap.size w W → Calls Tryz.prog 9 #[.string P] W fun e W' => e = .returned (.tuple #[.int .u64 D, .int .i64 g]) ∧ Below w.heap.size w W'))
    (cD' : Hid (∀ W, Below w.heap.size w W → Calls Tryz.prog 10 #[.string P] W fun e W' => e = .returned (.tuple #[.int .u64 D, .int .i64 g]) ∧ Below w.heap.size w W'))
    (cH : Hid (∀ W, Below w.heap.size w W → Calls Tryz.prog 11 #[.string P] W fun e W' => e = .returned (.tuple #[.int .u32 H, .int .i64 i]) ∧ Below w.heap.size w W'))
    (cH' : Hid (∀ W, Below w.heap.size w W → Calls Tryz.prog 12 #[.string P] W fun e W' => e = .returned (.tuple #[.int .u32 H, .int .i64 i]) ∧ Below w.heap.size w W'))
    (cF : Hid (∀ W, Below w.heap.size w W → Calls Tryz.prog 13 #[] W fun e W' => e = .returned (.bool true) ∧ Below w.heap.size w W')) :
    Calls Tryz.prog 3 #[.int .u64 M, .int .u32 A, .string s] w fun e w' => e = .returned (.bool true) ∧ Below w.heap.size w w' := by
  unfold maxLen at hs
  have B0 := Below.refl w.heap.size w
  rcases hc with ⟨rfl, h1, h2, h3⟩ | ⟨h1, h2, h3⟩
  all_goals
    go_enter Tryz.func3, Tryz.ntmps3
    go_wp2_with (first
      | (go_at_call 14; refine (unhide cM _ (by assumption)).mono ?_; rintro e w5 ⟨rfl, B5⟩)
      | (go_at_call 15; refine (unhide cM' _ (by assumption)).mono ?_; rintro e w5 ⟨rfl, B5⟩)
      | (go_at_call 16; refine (unhide cI _ (by assumption)).mono ?_; rintro e w5 ⟨rfl, B5⟩)
      | (go_at_call 17; refine (unhide cI' _ (by assumption)).mono ?_; rintro e w5 ⟨rfl, B5⟩)
      | (go_at_call 9; refine (unhide cD _ (by assumption)).mono ?_; rintro e w5 ⟨rfl, B5⟩)
      | (go_at_call 10; refine (unhide cD' _ (by assumption)).mono ?_; rintro e w5 ⟨rfl, B5⟩)
      | (go_at_call 11; refine (unhide cH _ (by assumption)).mono ?_; rintro e w5 ⟨rfl, B5⟩)
      | (go_at_call 12; refine (unhide cH' _ (by assumption)).mono ?_; rintro e w5 ⟨rfl, B5⟩)
      | (go_at_call 13; refine (unhide cF _ (by assumption)).mono ?_; rintro e w5 ⟨rfl, B5⟩))
    go_ret
    exact ⟨rfl, by assumption⟩
theorem walk (m a : Nat) (s : ByteArray) (w : World) (hw : St w) (hm : m < 18446744073709551616) (ha : a < 4294967296) (hs : s.size ≤ maxLen) :
    Calls Tryz.prog 3 #[.int .u64 m, .int .u32 a, .string s] w fun e w' => e = .returned (.bool true) ∧ Below w.heap.size w w' := by
  obtain ⟨p, hp, hc⟩ := shortened s
  exact walk_at (m : Int) (a : Int) _ _ _ _ _ _ p s w hs hc hp
    (hide fun W hb => behind hb (mac_any m W hm)) (hide fun W hb => behind hb (rmac m W hm)) (hide fun W hb => behind hb (ip_any a W (hw.next hb) ha)) (hide fun W hb => behind hb (rip a W ha))
    (hide fun W hb => behind hb (readMac_any p W (hw.next hb) (by omega))) (hide fun W hb => behind hb (rreadMac p W)) (hide fun W hb => behind hb (readIp_any p W (hw.next hb) (by omega))) (hide fun W hb => behind hb (rreadIp p W))
    (hide fun W hb => behind hb (fixed_any W (hw.next hb)))

set_option maxRecDepth 100000 in
theorem lifted (os : Os) (started : os.Started) (H : Type) (enc : TypeId × Value → H) :
    ReturnsInHanded {} Tryz.checked os 3 .any (fun w args => (Rows.addrsTextsSpec.pre enc Tryz.prog Tryz.f3 [] false w args ∧ laidMetH Tryz.prog Rows.addrsTextsRow.laid w) ∧ sizedMet enc Tryz.prog Tryz.f3 (OpenSpec.ofChange Rows.addrsTextsSpec) false w args)
      (Rows.addrsTextsSpec.post enc Tryz.prog Tryz.f3 false true false false) := by
  refine handed_shaped (C := Tryz.checked) (X := fun w _ => laidMetH Tryz.prog Rows.addrsTextsRow.laid w) (fun _ _ _ hh h => h.of_heap hh) own started (by kernel_rfl) Tryz.func3
    (ChangeSpec.witness_shaped (enc := enc) (C := Tryz.checked) (os := os) (X := fun w _ => laidMetH Tryz.prog Rows.addrsTextsRow.laid w) false
      (({ World.holding Tryz.prog os ⟨#[], #[], []⟩ with heap := (World.holding Tryz.prog os ⟨#[], #[], []⟩).heap.modify 0 fun
        | .cells _ t frozen => .cells #[.iface 121 (.agg #[.pointer (some ⟨9, 64, none⟩)])] t frozen
        | o => o } : World).layVars Tryz.prog (Rows.addrsTextsRow.laid.filter fun x => x.2.handleName?.isNone)) #[.int .u64 0, .int .u32 0, .string ByteArray.empty] 8 (World.layVars_os _ _ _)
      (World.shaped_of_ZipB (by kernel_rfl) (by kernel_rfl)) (by kernel_rfl) (by kernel_rfl) (by kernel_rfl) (laid_met os _)) ?_
  intro W base args ds gs before hval0 hW hL hsh
  have hval : ∀ (j : Nat) t v, Tryz.f3.params[j]? = some t → args[j]? = some v → Value.okWide Tryz.prog W .any base t v := hval0
  have hW' := hW
  obtain ⟨p, q, hA0, hV0, rfl, hfz, hnd⟩ := hW
  have hA : DataW.TrodAll enc Tryz.prog W 0 (fun _ => true) true Tryz.f3.params.toList args.toList ds p := hA0
  have hV : DataW.TrodVars enc Tryz.prog W (fun _ => true) [] gs q := hV0
  rw [Tryz.params3] at hA hval
  obtain ⟨v0, v1, v2, d0, d1, d2, p0, p1, p2, rfl, rfl, rfl, h0, h1, h2⟩ := trodAll_three hA
  obtain ⟨a0, rfl, rfl, rfl, w0⟩ := open_int Tryz.underlying22 (hval 0 22 v0 rfl rfl) h0
  have b0 := bounds_u64 w0
  obtain ⟨m0, rfl⟩ : ∃ m : Nat, a0 = m := ⟨a0.toNat, by omega⟩
  obtain ⟨a1, rfl, rfl, rfl, w1⟩ := open_int Tryz.underlying23 (hval 1 23 v1 rfl rfl) h1
  have b1 := bounds_u32 w1
  obtain ⟨m1, rfl⟩ : ∃ m : Nat, a1 = m := ⟨a1.toNat, by omega⟩
  obtain ⟨a2, rfl, rfl, rfl, w2⟩ := open_string Tryz.underlying9 (hval 2 9 v2 rfl rfl) h2
  obtain ⟨rfl, rfl⟩ := trodVars_none hV
  have hg := st_of_laid hL hsh
  have e1 : Rows.addrsTextsSpec.fn H ([.lit (.int .u64 (m0 : Int)), .lit (.int .u32 (m1 : Int)), .lit (.string a2.data.toList)] ++ []) = { results := [.lit (.bool true)], args := [.lit (.int .u64 (m0 : Int)), .lit (.int .u32 (m1 : Int)), .lit (.string a2.data.toList)] } := by simp [Rows.addrsTextsSpec]
  refine (walk m0 m1 a2 W hg (by omega) (by omega) w2).mono fun e W' ⟨he, hb⟩ => ?_
  subst he
  refine ⟨_, rfl, _, _, _, [], [], [], hW', ?_, ?_, ?_, hb.frame _, fun h => by cases h⟩
  · rw [e1]; exact trodAll_mk1 (shut_bool Tryz.underlying4 true)
  · rw [e1]; exact trodAll_mk3 (shut_int Tryz.underlying22 w0) (shut_int Tryz.underlying23 w1) (shut_string Tryz.underlying9 w2)
  · rw [e1]; rfl

theorem said : Rows.AddrsTextsSaid :=
  OpenClaim.holds_of_wide 3 Tryz.f3 rfl rfl rfl rfl rfl rfl rfl ⟨rfl, rfl, rfl, rfl, rfl⟩ rfl rfl rfl rfl rfl (by kernel_rfl) Tryz.func3 (by kernel_rfl)
    (of_decide_eq_true (by kernel_rfl)) (by unfold Func.isWrapper; rw [if_neg (of_decide_eq_false (by kernel_rfl))]; exact ⟨rfl, rfl⟩)
    (fun os started H enc _ => lifted os started H enc)

theorem plain (f : FuncId) (fn : Func) (hf : Tryz.pinned.checked.prog.funcNamed Rows.addrsTextsRow.func = some f) (hfn : Tryz.pinned.checked.prog.funcs[f]? = some fn) :
    true = Tryz.pinned.checked.prog.looks [] ∧ ∀ (j : Nat) t, fn.params[j]? = some t → Tryz.pinned.checked.prog.wantsStandIn t = false := by
  obtain rfl : f = 3 := Option.some.inj ((show Tryz.prog.funcNamed Rows.addrsTextsRow.func = some 3 by kernel_rfl).symm.trans hf) |>.symm
  obtain rfl : fn = Tryz.f3 := (Option.some.inj (Tryz.func3.symm.trans hfn)).symm
  refine ⟨by kernel_rfl, fun j t ht => ?_⟩
  rw [Tryz.params3] at ht
  have hm := Array.mem_of_getElem? ht
  simp only [List.mem_toArray, List.mem_cons, List.not_mem_nil, or_false] at hm
  rcases hm with rfl | rfl | rfl
  · exact (show Tryz.prog.wantsStandIn 22 = false by kernel_rfl)
  · exact (show Tryz.prog.wantsStandIn 23 = false by kernel_rfl)
  · exact (show Tryz.prog.wantsStandIn 9 = false by kernel_rfl)

theorem card : Rows.AddrsTextsCardSaid :=
  Claim7.holds_tied_plain_at .later [] _ _ _ _ said (fun _ h => by cases h) (by kernel_rfl) (fun _ h => by cases h) addrsTexts_row_tie rfl ⟨rfl, rfl⟩ (by kernel_rfl) rfl plain (by kernel_rfl)
end Go.Proofs.YtmpkeakbcojdeaaGreatDoor.addrsTexts
namespace Go.Proofs.YtmpkeakbcojdeaaGreatDoor
theorem addrsTexts_card_holds : Rows.AddrsTextsCardSaid := addrsTexts.card
end Go.Proofs.YtmpkeakbcojdeaaGreatDoor

