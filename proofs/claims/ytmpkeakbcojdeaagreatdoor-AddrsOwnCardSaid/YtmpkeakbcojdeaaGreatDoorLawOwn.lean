/-
  The law gangwaylaw02.AddrsOwn holds for every number: it answers true, and the number is as it was.
-/
import Derived.Test.YtmpkeakbcojdeaaGreatDoorRow2
namespace Go.Proofs.YtmpkeakbcojdeaaGreatDoor.addrsOwn
open Go.ChangeShapes Go.WideShapes Go.ChangeAt Go.RowKit

theorem lens_two : ∀ l : List UInt8, Lib.lens (l.map two) = 2 * l.length
  | [] => rfl
  | c :: l => by
    have e : Lib.lens (two c :: l.map two) = (two c).length + Lib.lens (l.map two) := by simp [Lib.lens]
    rw [List.map_cons, e, lens_two l, List.length_cons]
    simp [two]; omega
theorem mac_length (l : List UInt8) (h : l.length = 6) : (macT l).length = 17 := by
  cases l with
  | nil => cases h
  | cons c l =>
    have hl := lens_two (c :: l)
    rw [List.map_cons] at hl
    rw [macT, List.map_cons, Lib.join_length, hl, List.length_map]
    simp at h ⊢
    omega
theorem mac_second (m : Nat) : ∃ n : Nat, n < 16 ∧ (macT (be m 6))[1]? = some (hexd n) ∧ grp m = decide (n % 2 = 1) := by
  refine ⟨m / 256 ^ 5 % 256 % 16, by omega, ?_, ?_⟩
  · rw [be_cons, macT, List.map_cons, Lib.join_cons, two, UInt8.toNat_ofNat_of_lt' (by show _ < 256; omega)]
    rfl
  · unfold grp
    refine decide_eq_decide.2 ?_
    rw [show (256 : Nat) ^ 5 = 1099511627776 by decide]
    omega
theorem or_far (m : Nat) (h : m < 18446744073709551616) : bits BinOp.or IntKind.u64 (m : Int) 281474976710656 = ((m ||| 281474976710656 : Nat) : Int) := u64_or_nat m 281474976710656 h (by omega)
theorem or_many (m : Nat) (h : m < 18446744073709551616) : bits BinOp.or IntKind.u64 (m : Int) 1099511627776 = ((m ||| 1099511627776 : Nat) : Int) := u64_or_nat m 1099511627776 h (by omega)
theorem or_lt (m k : Nat) (h : m < 18446744073709551616) (hk : k < 18446744073709551616) : m ||| k < 18446744073709551616 := Nat.or_lt_two_pow (n := 64) h hk
theorem own_far (m : Nat) : ownH (m ||| 281474976710656) = false := by
  unfold ownH
  have : 281474976710656 ≤ m ||| 281474976710656 := Nat.right_le_or
  rw [decide_eq_false (by omega)]; rfl
theorem own_many (m : Nat) : ownH (m ||| 1099511627776) = false := by
  unfold ownH
  have : grp (m ||| 1099511627776) = true := by
    unfold grp
    refine decide_eq_true ?_
    have h1 : (m ||| 1099511627776).testBit 40 = true := by
      rw [Nat.testBit_or, show (1099511627776 : Nat).testBit 40 = true by decide +kernel, Bool.or_true]
    rw [Nat.testBit_eq_decide_div_mod_eq] at h1
    exact of_decide_eq_true h1
  rw [this]; simp
theorem own_says (m : Nat) (h : ownH m = true) : grp m = false ∧ (0 : Int) < m ∧ (m : Int) < 281474976710656 := by
  unfold ownH at h
  simp only [Bool.and_eq_true, decide_eq_true_eq, Bool.not_eq_true'] at h
  exact ⟨h.1.2, by omega, by omega⟩

set_option maxRecDepth 20000 in
set_option maxHeartbeats 8000000 in
theorem walk_at (m : Int) (w : World) (hw : St w) (x mf my : Nat) (S : ByteArray) (g o : Bool)
    (hM : Hid (Calls Tryz.prog 14 #[.int .u64 m] w fun e w' => e = .returned (.string S) ∧ Below w.heap.size w w')) (hS : S.size = 17) (hx : ∀ h : 1 < S.size, (S[1]'h).toNat = x)
    (hG : Hid (∀ w, Calls Tryz.prog 18 #[.int .u64 m] w fun e w' => e = .returned (.bool g) ∧ w' = w))
    (hO : Hid (∀ w, Calls Tryz.prog 20 #[.int .u64 m] w fun e w' => e = .returned (.bool o) ∧ w' = w))
    (hF : Hid (∀ w, Calls Tryz.prog 20 #[.int .u64 (mf : Int)] w fun e w' => e = .returned (.bool false) ∧ w' = w))
    (hY : Hid (∀ w, Calls Tryz.prog 20 #[.int .u64 (my : Int)] w fun e w' => e = .returned (.bool false) ∧ w' = w))
    (hd : (x = 48 ∨ x = 50 ∨ x = 52 ∨ x = 54 ∨ x = 56 ∨ x = 97 ∨ x = 99 ∨ x = 101) ∧ g = false ∨ (x = 49 ∨ x = 51 ∨ x = 53 ∨ x = 55 ∨ x = 57 ∨ x = 98 ∨ x = 100 ∨ x = 102) ∧ g = true)
    (hf : bits BinOp.or IntKind.u64 m 281474976710656 = (mf : Int)) (hy : bits BinOp.or IntKind.u64 m 1099511627776 = (my : Int))
    (ho : o = true → g = false ∧ 0 < m ∧ m < 281474976710656) :
    Calls Tryz.prog 8 #[.int .u64 m] w fun e w' => e = .returned (.bool true) ∧ Below w.heap.size w w' := by
  have hix := hx (by omega)
  clear hx
  rcases hd with ⟨hd, rfl⟩ | ⟨hd, rfl⟩
  · cases o with
    | false =>
      clear ho
      rcases hd with rfl | rfl | rfl | rfl | rfl | rfl | rfl | rfl
      all_goals
        go_enter Tryz.func8, Tryz.ntmps8
        go_wp2_with fail
        refine (unhide hM).mono ?_
        rintro e w1 ⟨rfl, b1⟩
        go_wp2_with fail
        refine (unhide hG _).mono ?_
        rintro e w2 ⟨rfl, rfl⟩
        go_wp2_with fail
        refine (unhide hO _).mono ?_
        rintro e w3 ⟨rfl, rfl⟩
        go_wp2_with fail
        refine (unhide hF _).mono ?_
        rintro e w4 ⟨rfl, rfl⟩
        go_wp2_with fail
        refine (unhide hY _).mono ?_
        rintro e w5 ⟨rfl, rfl⟩
        go_wp2_with fail
        refine (fixed_any _ (hw.next b1)).mono ?_
        rintro e w6 ⟨rfl, b6⟩
        go_wp2_with fail
        go_ret
        exact ⟨rfl, bthen b1 b6⟩
    | true =>
      obtain ⟨_, h1, h2⟩ := ho rfl
      have k1 : decide (0 < m) = true := decide_eq_true h1
      have k2 : decide (m < 281474976710656) = true := decide_eq_true h2
      clear ho h1 h2
      rcases hd with rfl | rfl | rfl | rfl | rfl | rfl | rfl | rfl
      all_goals
        go_enter Tryz.func8, Tryz.ntmps8
        go_wp2_with fail
        refine (unhide hM).mono ?_
        rintro e w1 ⟨rfl, b1⟩
        go_wp2_with fail
        refine (unhide hG _).mono ?_
        rintro e w2 ⟨rfl, rfl⟩
        go_wp2_with fail
        refine (unhide hO _).mono ?_
        rintro e w3 ⟨rfl, rfl⟩
        go_wp2_with fail
        refine (unhide hF _).mono ?_
        rintro e w4 ⟨rfl, rfl⟩
        go_wp2_with fail
        refine (unhide hY _).mono ?_
        rintro e w5 ⟨rfl, rfl⟩
        go_wp2_with fail
        refine (fixed_any _ (hw.next b1)).mono ?_
        rintro e w6 ⟨rfl, b6⟩
        go_wp2_with fail
        go_ret
        exact ⟨rfl, bthen b1 b6⟩
  · cases o with
    | true => exact absurd (ho rfl).1 (by decide)
    | false =>
      clear ho
      rcases hd with rfl | rfl | rfl | rfl | rfl | rfl | rfl | rfl
      all_goals
        go_enter Tryz.func8, Tryz.ntmps8
        go_wp2_with fail
        refine (unhide hM).mono ?_
        rintro e w1 ⟨rfl, b1⟩
        go_wp2_with fail
        refine (unhide hG _).mono ?_
        rintro e w2 ⟨rfl, rfl⟩
        go_wp2_with fail
        refine (unhide hO _).mono ?_
        rintro e w3 ⟨rfl, rfl⟩
        go_wp2_with fail
        refine (unhide hF _).mono ?_
        rintro e w4 ⟨rfl, rfl⟩
        go_wp2_with fail
        refine (unhide hY _).mono ?_
        rintro e w5 ⟨rfl, rfl⟩
        go_wp2_with fail
        refine (fixed_any _ (hw.next b1)).mono ?_
        rintro e w6 ⟨rfl, b6⟩
        go_wp2_with fail
        go_ret
        exact ⟨rfl, bthen b1 b6⟩
theorem digits_tell : ∀ n : Fin 16, ((hexd n.val).toNat = 48 ∨ (hexd n.val).toNat = 50 ∨ (hexd n.val).toNat = 52 ∨ (hexd n.val).toNat = 54 ∨ (hexd n.val).toNat = 56 ∨ (hexd n.val).toNat = 97 ∨ (hexd n.val).toNat = 99 ∨ (hexd n.val).toNat = 101) ∧ decide (n.val % 2 = 1) = false ∨
    ((hexd n.val).toNat = 49 ∨ (hexd n.val).toNat = 51 ∨ (hexd n.val).toNat = 53 ∨ (hexd n.val).toNat = 55 ∨ (hexd n.val).toNat = 57 ∨ (hexd n.val).toNat = 98 ∨ (hexd n.val).toNat = 100 ∨ (hexd n.val).toNat = 102) ∧ decide (n.val % 2 = 1) = true := by decide +kernel
theorem walk (m : Nat) (w : World) (hw : St w) (hm : m < 18446744073709551616) :
    Calls Tryz.prog 8 #[.int .u64 m] w fun e w' => e = .returned (.bool true) ∧ Below w.heap.size w w' := by
  obtain ⟨n, hn, h1, h2⟩ := mac_second m
  have hs : (bs (macT (be m 6))).size = 17 := by rw [bs_size]; exact mac_length _ (be_length m 6)
  refine walk_at (m : Int) w hw (hexd n).toNat (m ||| 281474976710656) (m ||| 1099511627776) _ (grp m) (ownH m) (hide (mac_any m w hm)) hs (fun h => ?_) (hide fun w => group_any m w hm) (hide fun w => own_any m w hm)
    (hide fun w => ?_) (hide fun w => ?_) ?_ (or_far m hm) (or_many m hm) (own_says m)
  · have e : (bs (macT (be m 6)))[1]'h = (macT (be m 6))[1]'(by rw [bs_size] at h; exact h) := rfl
    rw [e, (List.getElem?_eq_some_iff.1 h1).2]
  · have := own_any (m ||| 281474976710656) w (or_lt m _ hm (by omega))
    rw [own_far] at this; exact this
  · have := own_any (m ||| 1099511627776) w (or_lt m _ hm (by omega))
    rw [own_many] at this; exact this
  · rw [h2]; exact digits_tell ⟨n, hn⟩

set_option maxRecDepth 100000 in
theorem lifted (os : Os) (started : os.Started) (H : Type) (enc : TypeId × Value → H) :
    ReturnsInHanded {} Tryz.checked os 8 .any (fun w args => (Rows.addrsOwnSpec.pre enc Tryz.prog Tryz.f8 [] false w args ∧ laidMetH Tryz.prog Rows.addrsTextsRow.laid w) ∧ sizedMet enc Tryz.prog Tryz.f8 (OpenSpec.ofChange Rows.addrsOwnSpec) false w args)
      (Rows.addrsOwnSpec.post enc Tryz.prog Tryz.f8 false true false false) := by
  refine handed_shaped (C := Tryz.checked) (X := fun w _ => laidMetH Tryz.prog Rows.addrsTextsRow.laid w) (fun _ _ _ hh h => h.of_heap hh) own started (by kernel_rfl) Tryz.func8
    (ChangeSpec.witness_shaped (enc := enc) (C := Tryz.checked) (os := os) (X := fun w _ => laidMetH Tryz.prog Rows.addrsTextsRow.laid w) false
      (({ World.holding Tryz.prog os ⟨#[], #[], []⟩ with heap := (World.holding Tryz.prog os ⟨#[], #[], []⟩).heap.modify 0 fun
        | .cells _ t frozen => .cells #[.iface 121 (.agg #[.pointer (some ⟨9, 64, none⟩)])] t frozen
        | o => o } : World).layVars Tryz.prog (Rows.addrsTextsRow.laid.filter fun x => x.2.handleName?.isNone)) #[.int .u64 0] 8 (World.layVars_os _ _ _)
      (World.shaped_of_ZipB (by kernel_rfl) (by kernel_rfl)) (by kernel_rfl) (by kernel_rfl) (by kernel_rfl) (laid_met os _)) ?_
  intro W base args ds gs before hval0 hW hL hsh
  have hval : ∀ (j : Nat) t v, Tryz.f8.params[j]? = some t → args[j]? = some v → Value.okWide Tryz.prog W .any base t v := hval0
  have hW' := hW
  obtain ⟨p, q, hA0, hV0, rfl, hfz, hnd⟩ := hW
  have hA : DataW.TrodAll enc Tryz.prog W 0 (fun _ => true) true Tryz.f8.params.toList args.toList ds p := hA0
  have hV : DataW.TrodVars enc Tryz.prog W (fun _ => true) [] gs q := hV0
  rw [Tryz.params8] at hA hval
  obtain ⟨v0, d0, rfl, rfl, h0⟩ := trodAll_one hA
  obtain ⟨a0, rfl, rfl, rfl, w0⟩ := open_int Tryz.underlying22 (hval 0 22 v0 rfl rfl) h0
  have b0 := bounds_u64 w0
  obtain ⟨m0, rfl⟩ : ∃ m : Nat, a0 = m := ⟨a0.toNat, by omega⟩
  obtain ⟨rfl, rfl⟩ := trodVars_none hV
  have hg := st_of_laid hL hsh
  have e1 : Rows.addrsOwnSpec.fn H ([.lit (.int .u64 (m0 : Int))] ++ []) = { results := [.lit (.bool true)], args := [.lit (.int .u64 (m0 : Int))] } := by simp [Rows.addrsOwnSpec]
  refine (walk m0 W hg (by omega)).mono fun e W' ⟨he, hb⟩ => ?_
  subst he
  refine ⟨_, rfl, _, _, _, [], [], [], hW', ?_, ?_, ?_, hb.frame _, fun h => by cases h⟩
  · rw [e1]; exact trodAll_mk1 (shut_bool Tryz.underlying4 true)
  · rw [e1]; exact trodAll_mk1 (shut_int Tryz.underlying22 w0)
  · rw [e1]; rfl

theorem said : Rows.AddrsOwnSaid :=
  OpenClaim.holds_of_wide 8 Tryz.f8 rfl rfl rfl rfl rfl rfl rfl ⟨rfl, rfl, rfl, rfl, rfl⟩ rfl rfl rfl rfl rfl (by kernel_rfl) Tryz.func8 (by kernel_rfl)
    (of_decide_eq_true (by kernel_rfl)) (by unfold Func.isWrapper; rw [if_neg (of_decide_eq_false (by kernel_rfl))]; exact ⟨rfl, rfl⟩)
    (fun os started H enc _ => lifted os started H enc)

theorem plain (f : FuncId) (fn : Func) (hf : Tryz.pinned.checked.prog.funcNamed Rows.addrsOwnRow.func = some f) (hfn : Tryz.pinned.checked.prog.funcs[f]? = some fn) :
    true = Tryz.pinned.checked.prog.looks [] ∧ ∀ (j : Nat) t, fn.params[j]? = some t → Tryz.pinned.checked.prog.wantsStandIn t = false := by
  obtain rfl : f = 8 := Option.some.inj ((show Tryz.prog.funcNamed Rows.addrsOwnRow.func = some 8 by kernel_rfl).symm.trans hf) |>.symm
  obtain rfl : fn = Tryz.f8 := (Option.some.inj (Tryz.func8.symm.trans hfn)).symm
  refine ⟨by kernel_rfl, fun j t ht => ?_⟩
  rw [Tryz.params8] at ht
  have hm := Array.mem_of_getElem? ht
  simp only [List.mem_toArray, List.mem_cons, List.not_mem_nil, or_false] at hm
  subst hm
  · exact (show Tryz.prog.wantsStandIn 22 = false by kernel_rfl)

theorem card : Rows.AddrsOwnCardSaid :=
  Claim7.holds_tied_plain_at .later [] _ _ _ _ said (fun _ h => by cases h) (by kernel_rfl) (fun _ h => by cases h) addrsOwn_row_tie rfl ⟨rfl, rfl⟩ (by kernel_rfl) rfl plain (by kernel_rfl)
end Go.Proofs.YtmpkeakbcojdeaaGreatDoor.addrsOwn
namespace Go.Proofs.YtmpkeakbcojdeaaGreatDoor
theorem addrsOwn_card_holds : Rows.AddrsOwnCardSaid := addrsOwn.card
end Go.Proofs.YtmpkeakbcojdeaaGreatDoor

