/-
  The law gangwaylaw02.AddrsBack holds for every number, address and text: it answers true, and they are as they were.
-/
import Derived.Test.YtmpkeakbcojdeaaGreatDoorShort
import Derived.Deep.RegionWith
namespace Go.Proofs.YtmpkeakbcojdeaaGreatDoor.addrsBack
open Go.ChangeShapes Go.WideShapes Go.ChangeAt Go.RowKit
open Go.ChangeMaps (open_string shut_string)

set_option maxRecDepth 20000 in
set_option maxHeartbeats 8000000 in
theorem walk_at (M K D A H g i : Int) (S1 S2 P s : ByteArray) (w : World) (hs : s.size ≤ maxLen) (hc : Shortened s P) (hP : P.size ≤ 60)
    (hk : bits BinOp.and IntKind.u64 M 281474976710655 = K)
    (cM : Hid (∀ W, Below w.heap.size w W → Calls Tryz.prog 14 #[.int .u64 M] W fun e W' => e = .returned (.string S1) ∧ Below w.heap.size w W'))
    (cK : Hid (∀ W, Below w.heap.size w W → Calls Tryz.prog 14 #[.int .u64 K] W fun e W' => e = .returned (.string S1) ∧ Below w.heap.size w W'))
    (cR : Hid (∀ W, Below w.heap.size w W → Calls Tryz.prog 9 #[.string S1] W fun e W' => e = .returned (.tuple #[.int .u64 K, .int .i64 0]) ∧ Below w.heap.size w W'))
    (cI : Hid (∀ W, Below w.heap.size w W → Calls Tryz.prog 16 #[.int .u32 A] W fun e W' => e = .returned (.string S2) ∧ Below w.heap.size w W'))
    (cS : Hid (∀ W, Below w.heap.size w W → Calls Tryz.prog 11 #[.string S2] W fun e W' => e = .returned (.tuple #[.int .u32 A, .int .i64 0]) ∧ Below w.heap.size w W'))
    (cD : Hid (∀ W, Below w.heap.size w W → Calls Tryz.prog 9 #[.string P] W fun e W' => e = .returned (.tuple #[.int .u64 D, .int .i64 g]) ∧ Below w.heap.size w W'))
    (cH : Hid (∀ W, Below w.heap.size w W → Calls Tryz.prog 11 #[.string P] W fun e W' => e = .returned (.tuple #[.int .u32 H, .int .i64 i]) ∧ Below w.heap.size w W'))
    (cF : Hid (∀ W, Below w.heap.size w W → Calls Tryz.prog 13 #[] W fun e W' => e = .returned (.bool true) ∧ Below w.heap.size w W'))
    (hg : g = 20 ∧ D = 0 ∨ g = 0 ∧ decide (D < 281474976710656) = true ∧ Hid (∀ W, Below w.heap.size w W → Calls Tryz.prog 14 #[.int .u64 D] W fun e W' => e = .returned (.string P) ∧ Below w.heap.size w W'))
    (hi : i = 20 ∧ H = 0 ∨ i = 0 ∧ Hid (∀ W, Below w.heap.size w W → Calls Tryz.prog 16 #[.int .u32 H] W fun e W' => e = .returned (.string P) ∧ Below w.heap.size w W')) :
    Calls Tryz.prog 5 #[.int .u64 M, .int .u32 A, .string s] w fun e w' => e = .returned (.bool true) ∧ Below w.heap.size w w' := by
  unfold maxLen at hs
  have B0 := Below.refl w.heap.size w
  rcases hc with ⟨rfl, h1, h2, h3⟩ | ⟨h1, h2, h3⟩
  all_goals
    rcases hg with ⟨rfl, rfl⟩ | ⟨rfl, hd, cN⟩
    all_goals
      rcases hi with ⟨rfl, rfl⟩ | ⟨rfl, cJ⟩
      all_goals
        go_enter Tryz.func5, Tryz.ntmps5
        go_wp2_with (first
          | (go_at_call_of 14 M; refine (unhide cM _ (by assumption)).mono ?_; rintro e w5 ⟨rfl, B5⟩)
          | (go_at_call_of 14 K; refine (unhide cK _ (by assumption)).mono ?_; rintro e w5 ⟨rfl, B5⟩)
          | (go_at_call_of 14 D; refine (unhide cN _ (by assumption)).mono ?_; rintro e w5 ⟨rfl, B5⟩)
          | (go_at_call_of 9 S1; refine (unhide cR _ (by assumption)).mono ?_; rintro e w5 ⟨rfl, B5⟩)
          | (go_at_call 9; refine (unhide cD _ (by assumption)).mono ?_; rintro e w5 ⟨rfl, B5⟩)
          | (go_at_call_of 16 A; refine (unhide cI _ (by assumption)).mono ?_; rintro e w5 ⟨rfl, B5⟩)
          | (go_at_call_of 16 H; refine (unhide cJ _ (by assumption)).mono ?_; rintro e w5 ⟨rfl, B5⟩)
          | (go_at_call_of 11 S2; refine (unhide cS _ (by assumption)).mono ?_; rintro e w5 ⟨rfl, B5⟩)
          | (go_at_call 11; refine (unhide cH _ (by assumption)).mono ?_; rintro e w5 ⟨rfl, B5⟩)
          | (go_at_call 13; refine (unhide cF _ (by assumption)).mono ?_; rintro e w5 ⟨rfl, B5⟩))
        go_ret
        exact ⟨rfl, by assumption⟩
theorem low48 (m : Nat) (hm : m < 18446744073709551616) : bits BinOp.and IntKind.u64 (m : Int) 281474976710655 = ((m % 281474976710656 : Nat) : Int) := by
  rw [show (281474976710655 : Int) = ((281474976710655 : Nat) : Int) from rfl, u64_and_nat _ _ hm (by omega)]
  rw [show (281474976710655 : Nat) = 2 ^ 48 - 1 by decide, Nat.and_two_pow_sub_one_eq_mod]
theorem walk (m a : Nat) (s : ByteArray) (w : World) (hw : St w) (hm : m < 18446744073709551616) (ha : a < 4294967296) (hs : s.size ≤ maxLen) :
    Calls Tryz.prog 5 #[.int .u64 m, .int .u32 a, .string s] w fun e w' => e = .returned (.bool true) ∧ Below w.heap.size w w' := by
  obtain ⟨p, hp, hc⟩ := shortened s
  have e6 : num (be m 6) = m % 281474976710656 := num_be_mod m 6
  have e4 : num (be a 4) = a := num_be a 4 (by show a < 4294967296; exact ha)
  have hl6 : (macT (be m 6)).length ≤ 1000 := join_short _ two 58 (by rw [be_length]; omega) two_length
  have hl4 : (ipT (be a 4)).length ≤ 1000 := join_short _ ten 46 (by rw [be_length]; omega) ten_length
  refine walk_at (m : Int) ((m % 281474976710656 : Nat) : Int) ((num ((macR p.data.toList).getD []) : Nat) : Int) (a : Int) ((num ((ipR p.data.toList).getD []) : Nat) : Int)
    (if (macR p.data.toList).isSome then 0 else 20) (if (ipR p.data.toList).isSome then 0 else 20) (bs (macT (be m 6))) (bs (ipT (be a 4))) p s w hs hc hp (low48 m hm)
    (hide fun W hb => behind hb (mac_any m W hm)) (hide fun W hb => behind hb ?_) (hide fun W hb => behind hb ?_) (hide fun W hb => behind hb (ip_any a W (hw.next hb) ha)) (hide fun W hb => behind hb ?_)
    (hide fun W hb => behind hb (readMac_any p W (hw.next hb) (by omega))) (hide fun W hb => behind hb (readIp_any p W (hw.next hb) (by omega))) (hide fun W hb => behind hb (fixed_any W (hw.next hb))) ?_ ?_
  · have h := mac_any (m % 281474976710656) W (Nat.lt_of_le_of_lt (Nat.mod_le _ _) hm)
    rw [show be (m % 281474976710656) 6 = be m 6 from be_mod m 6] at h
    exact h
  · have h := readMac_any (bs (macT (be m 6))) W (hw.next hb) (by rw [bs_size]; exact hl6)
    rw [bs_toList, macR_of _ (be_length m 6), macV_some, e6] at h
    exact h
  · have h := readIp_any (bs (ipT (be a 4))) W (hw.next hb) (by rw [bs_size]; exact hl4)
    rw [bs_toList, ipR_of _ (be_length a 4)] at h
    have e : ipV (some (be a 4)) = .tuple #[.int .u32 (a : Int), .int .i64 0] := by
      show Value.tuple #[.int .u32 ((num (be a 4) : Nat) : Int), .int .i64 0] = _
      rw [e4]
    rw [e] at h
    exact h
  · cases hr : macR p.data.toList with
    | none => exact Or.inl ⟨rfl, rfl⟩
    | some l =>
      obtain ⟨h6, e⟩ := macR_some _ l hr
      refine Or.inr ⟨rfl, ?_, hide fun W hb => behind hb ?_⟩
      · have hlt := num_lt l
        rw [h6] at hlt
        exact decide_eq_true (show ((num l : Nat) : Int) < 281474976710656 from by
          have : num l < 281474976710656 := hlt
          omega)
      · have hlt := num_lt l
        rw [h6] at hlt
        have h := mac_any (num l) W (Nat.lt_trans hlt (by decide))
        rw [be_six l h6, ← e, bs_of] at h
        exact h
  · cases hr : ipR p.data.toList with
    | none => exact Or.inl ⟨rfl, rfl⟩
    | some l =>
      obtain ⟨h4, e⟩ := ipR_some _ l hr
      refine Or.inr ⟨rfl, hide fun W hb => behind hb ?_⟩
      have hlt := num_lt l
      rw [h4] at hlt
      have h := ip_any (num l) W (hw.next hb) hlt
      rw [be_four l h4, ← e, bs_of] at h
      exact h

set_option maxRecDepth 100000 in
theorem lifted (os : Os) (started : os.Started) (H : Type) (enc : TypeId × Value → H) :
    ReturnsInHanded {} Tryz.checked os 5 .any (fun w args => (Rows.addrsBackSpec.pre enc Tryz.prog Tryz.f5 [] false w args ∧ laidMetH Tryz.prog Rows.addrsTextsRow.laid w) ∧ sizedMet enc Tryz.prog Tryz.f5 (OpenSpec.ofChange Rows.addrsBackSpec) false w args)
      (Rows.addrsBackSpec.post enc Tryz.prog Tryz.f5 false true false false) := by
  refine handed_shaped (C := Tryz.checked) (X := fun w _ => laidMetH Tryz.prog Rows.addrsTextsRow.laid w) (fun _ _ _ hh h => h.of_heap hh) own started (by kernel_rfl) Tryz.func5
    (ChangeSpec.witness_shaped (enc := enc) (C := Tryz.checked) (os := os) (X := fun w _ => laidMetH Tryz.prog Rows.addrsTextsRow.laid w) false
      (({ World.holding Tryz.prog os ⟨#[], #[], []⟩ with heap := (World.holding Tryz.prog os ⟨#[], #[], []⟩).heap.modify 0 fun
        | .cells _ t frozen => .cells #[.iface 121 (.agg #[.pointer (some ⟨9, 64, none⟩)])] t frozen
        | o => o } : World).layVars Tryz.prog (Rows.addrsTextsRow.laid.filter fun x => x.2.handleName?.isNone)) #[.int .u64 0, .int .u32 0, .string ByteArray.empty] 8 (World.layVars_os _ _ _)
      (World.shaped_of_ZipB (by kernel_rfl) (by kernel_rfl)) (by kernel_rfl) (by kernel_rfl) (by kernel_rfl) (laid_met os _)) ?_
  intro W base args ds gs before hval0 hW hL hsh
  have hval : ∀ (j : Nat) t v, Tryz.f5.params[j]? = some t → args[j]? = some v → Value.okWide Tryz.prog W .any base t v := hval0
  have hW' := hW
  obtain ⟨p, q, hA0, hV0, rfl, hfz, hnd⟩ := hW
  have hA : DataW.TrodAll enc Tryz.prog W 0 (fun _ => true) true Tryz.f5.params.toList args.toList ds p := hA0
  have hV : DataW.TrodVars enc Tryz.prog W (fun _ => true) [] gs q := hV0
  rw [Tryz.params5] at hA hval
  obtain ⟨v0, v1, v2, d0, d1, d2, p0, p1, p2, rfl, rfl, rfl, h0, h1, h2⟩ := trodAll_three hA
  obtain ⟨a0, rfl, rfl, rfl, w0⟩ := open_int Tryz.underlying22 (hval 0 22 v0 rfl rfl) h0
  have b0 := bounds_u64 w0
  obtain ⟨m0, rfl⟩ : ∃ m : Nat, a0 = m := ⟨a0.toNat, by omega⟩
  obtain ⟨a1, rfl, rfl, rfl, w1⟩ := open_int Tryz.underlying23 (hval 1 23 v1 rfl rfl) h1
  have b1 := bounds_u32 w1
  obtain ⟨m1, rfl⟩ : ∃ m : Nat, a1 = m := ⟨a1.toNat, by omega⟩
  obtain ⟨a2, rfl, rfl, rfl, w2⟩ := open_string Tryz.underlying9 (hval 2 9 v2 rfl rfl) h2
  obtain ⟨rfl, rfl⟩ := trodVars_none hV
  have hg := st_of_laid hL hsh
  have e1 : Rows.addrsBackSpec.fn H ([.lit (.int .u64 (m0 : Int)), .lit (.int .u32 (m1 : Int)), .lit (.string a2.data.toList)] ++ []) = { results := [.lit (.bool true)], args := [.lit (.int .u64 (m0 : Int)), .lit (.int .u32 (m1 : Int)), .lit (.string a2.data.toList)] } := by simp [Rows.addrsBackSpec]
  refine (walk m0 m1 a2 W hg (by omega) (by omega) w2).mono fun e W' ⟨he, hb⟩ => ?_
  subst he
  refine ⟨_, rfl, _, _, _, [], [], [], hW', ?_, ?_, ?_, hb.frame _, fun h => by cases h⟩
  · rw [e1]; exact trodAll_mk1 (shut_bool Tryz.underlying4 true)
  · rw [e1]; exact trodAll_mk3 (shut_int Tryz.underlying22 w0) (shut_int Tryz.underlying23 w1) (shut_string Tryz.underlying9 w2)
  · rw [e1]; rfl

theorem said : Rows.AddrsBackSaid :=
  OpenClaim.holds_of_wide 5 Tryz.f5 rfl rfl rfl rfl rfl rfl rfl ⟨rfl, rfl, rfl, rfl, rfl⟩ rfl rfl rfl rfl rfl (by kernel_rfl) Tryz.func5 (by kernel_rfl)
    (of_decide_eq_true (by kernel_rfl)) (by unfold Func.isWrapper; rw [if_neg (of_decide_eq_false (by kernel_rfl))]; exact ⟨rfl, rfl⟩)
    (fun os started H enc _ => lifted os started H enc)

theorem plain (f : FuncId) (fn : Func) (hf : Tryz.pinned.checked.prog.funcNamed Rows.addrsBackRow.func = some f) (hfn : Tryz.pinned.checked.prog.funcs[f]? = some fn) :
    true = Tryz.pinned.checked.prog.looks [] ∧ ∀ (j : Nat) t, fn.params[j]? = some t → Tryz.pinned.checked.prog.wantsStandIn t = false := by
  obtain rfl : f = 5 := Option.some.inj ((show Tryz.prog.funcNamed Rows.addrsBackRow.func = some 5 by kernel_rfl).symm.trans hf) |>.symm
  obtain rfl : fn = Tryz.f5 := (Option.some.inj (Tryz.func5.symm.trans hfn)).symm
  refine ⟨by kernel_rfl, fun j t ht => ?_⟩
  rw [Tryz.params5] at ht
  have hm := Array.mem_of_getElem? ht
  simp only [List.mem_toArray, List.mem_cons, List.not_mem_nil, or_false] at hm
  rcases hm with rfl | rfl | rfl
  · exact (show Tryz.prog.wantsStandIn 22 = false by kernel_rfl)
  · exact (show Tryz.prog.wantsStandIn 23 = false by kernel_rfl)
  · exact (show Tryz.prog.wantsStandIn 9 = false by kernel_rfl)

theorem card : Rows.AddrsBackCardSaid :=
  Claim7.holds_tied_plain_at .later [] _ _ _ _ said (fun _ h => by cases h) (by kernel_rfl) (fun _ h => by cases h) addrsBack_row_tie rfl ⟨rfl, rfl⟩ (by kernel_rfl) rfl plain (by kernel_rfl)
end Go.Proofs.YtmpkeakbcojdeaaGreatDoor.addrsBack
namespace Go.Proofs.YtmpkeakbcojdeaaGreatDoor
theorem addrsBack_card_holds : Rows.AddrsBackCardSaid := addrsBack.card
end Go.Proofs.YtmpkeakbcojdeaaGreatDoor

