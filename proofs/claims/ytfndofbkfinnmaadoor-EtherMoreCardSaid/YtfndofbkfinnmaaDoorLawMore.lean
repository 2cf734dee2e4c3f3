/-
  gangwaylaw04.EtherMore answers true, for every frame and every bytes behind it.
-/
import Derived.Test.YtfndofbkfinnmaaDoorFrame4
namespace Go.Proofs.YtfndofbkfinnmaaDoor.etherMore
open Go.ChangeShapes Go.WideShapes Go.ChangeAt Go.RowKit
open Go.ChangeMaps (open_string shut_string)

set_option maxRecDepth 20000 in
set_option maxHeartbeats 400000 in
theorem walk_bad (d s : Int) (has : Bool) (pri : Int) (dei : Bool) (vid ty : Int) (b x A X : ByteArray) (i j : Nat) (c : Int) (w : World) (hg : Et w) (hc : c ≠ 0)
    (mb : ∀ (ts : Array TypeId) (t : TypeId) (W : World), (Builtin.min_ ts t #[.int .i64 (b.size : Int), .int .i64 700]).run Tryd.prog W = .ok (.int .i64 (i : Int)) W)
    (sb : ∀ W : World, (Instr.slice 9 (.string b) none (some (.int .i64 (i : Int))) none).run Tryd.prog W = .ok (.string A) W)
    (mx : ∀ (ts : Array TypeId) (t : TypeId) (W : World), (Builtin.min_ ts t #[.int .i64 (x.size : Int), .int .i64 700]).run Tryd.prog W = .ok (.int .i64 (j : Int)) W)
    (sx : ∀ W : World, (Instr.slice 9 (.string x) none (some (.int .i64 (j : Int))) none).run Tryd.prog W = .ok (.string X) W)
    (B : Hid (∀ W, Et W → Calls Tryd.prog 8 #[.agg #[.int .u64 d, .int .u64 s, .bool has, .int .i64 pri, .bool dei, .int .i64 vid, .int .i64 ty, .string A]] W fun e W' => e = .returned (.tuple #[.string ⟨#[]⟩, .int .i64 c]) ∧ Below W.heap.size W W')) :
    Calls Tryd.prog 6 #[.agg #[.int .u64 d, .int .u64 s, .bool has, .int .i64 pri, .bool dei, .int .i64 vid, .int .i64 ty, .string b], .string x] w fun e w' => e = .returned (.bool true) ∧ Below w.heap.size w w' := by
  go_enter Tryd.func6, Tryd.ntmps6
  go_wp2_with fail
  refine (unhide B _ (hg.next (alloc_below _ _))).mono ?_
  rintro e w1 ⟨rfl, b1⟩
  have hb := bthen (alloc_below w _) b1
  clear b1 B
  go_wp2_with fail
  refine (fixed_true _ (hg.next hb)).mono ?_
  rintro e w2 ⟨rfl, b2⟩
  have hb2 := bthen hb b2
  go_wp2_with fail
  go_ret
  exact ⟨rfl, hb2⟩
/- good0 -/
set_option maxRecDepth 20000 in
set_option maxHeartbeats 400000 in
theorem walk_good0 (d s : Int) (has : Bool) (pri : Int) (dei : Bool) (vid : Int) (b x A X S SX : ByteArray) (i j : Nat) (w : World) (hg : Et w)
    (mb : ∀ (ts : Array TypeId) (t : TypeId) (W : World), (Builtin.min_ ts t #[.int .i64 (b.size : Int), .int .i64 700]).run Tryd.prog W = .ok (.int .i64 (i : Int)) W)
    (sb : ∀ W : World, (Instr.slice 9 (.string b) none (some (.int .i64 (i : Int))) none).run Tryd.prog W = .ok (.string A) W)
    (mx : ∀ (ts : Array TypeId) (t : TypeId) (W : World), (Builtin.min_ ts t #[.int .i64 (x.size : Int), .int .i64 700]).run Tryd.prog W = .ok (.int .i64 (j : Int)) W)
    (sx : ∀ W : World, (Instr.slice 9 (.string x) none (some (.int .i64 (j : Int))) none).run Tryd.prog W = .ok (.string X) W)
    (g1 : ∀ W, (Op.stringOp .add S X).run Tryd.prog W = .ok (.string SX) W)
    (B : Hid (∀ W, Et W → Calls Tryd.prog 8 #[.agg #[.int .u64 d, .int .u64 s, .bool has, .int .i64 pri, .bool dei, .int .i64 vid, .int .i64 0, .string A]] W fun e W' => e = .returned (.tuple #[.string S, .int .i64 0]) ∧ Below W.heap.size W W'))
    (P : Hid (∀ W, Et W → Calls Tryd.prog 15 #[.string SX] W fun e W' => e = .returned (.tuple #[.agg #[.int .u64 d, .int .u64 s, .bool has, .int .i64 pri, .bool dei, .int .i64 vid, .int .i64 0, .string A], .int .i64 0]) ∧ Below W.heap.size W W')) :
    Calls Tryd.prog 6 #[.agg #[.int .u64 d, .int .u64 s, .bool has, .int .i64 pri, .bool dei, .int .i64 vid, .int .i64 0, .string b], .string x] w fun e w' => e = .returned (.bool true) ∧ Below w.heap.size w w' := by
  have same := same_frame d s has pri dei vid 0 A
  go_enter Tryd.func6, Tryd.ntmps6
  go_wp2_with fail
  refine (unhide B _ (hg.next (alloc_below _ _))).mono ?_
  rintro e w1 ⟨rfl, b1⟩
  have hb := bthen (alloc_below w _) b1
  have hrow := Below.row b1 (heap_alloc_new w _)
  clear b1 B
  go_wp2_with fail
  refine (unhide P _ (hg.next hb)).mono ?_
  rintro e w2 ⟨rfl, b2⟩
  have hb2 := bthen hb b2
  have hrow2 := Below.row b2 hrow
  clear b2 P hb hrow
  have hrow3 := Below.row (alloc_below w2 (.cells #[.int .u64 d, .int .u64 s, .bool has, .int .i64 pri, .bool dei, .int .i64 vid, .int .i64 0, .string A] 26)) hrow2
  have hrow4 := Below.row (alloc_below (w2.alloc (.cells #[.int .u64 d, .int .u64 s, .bool has, .int .i64 pri, .bool dei, .int .i64 vid, .int .i64 0, .string A] 26)) (.cells #[.int .u64 d, .int .u64 s, .bool has, .int .i64 pri, .bool dei, .int .i64 vid, .int .i64 0, .string A] 26)) hrow3
  obtain ⟨c0, c1, c2, c3, c4, c5, c6, c7, _⟩ := cells8 hrow3
  obtain ⟨_, _, _, _, _, _, k6, k7, _⟩ := cells8 hrow4
  clear hrow2 hrow3 hrow4
  generalize w.heap.size = N at c0 c1 c2 c3 c4 c5 c6 c7 k6 k7 ⊢
  go_wp2_with fail
  refine (fixed_true _ (hg.next (alloc_then (alloc_then hb2)))).mono ?_
  rintro e w3 ⟨rfl, b3⟩
  have hb3 := bthen (alloc_then (alloc_then hb2)) b3
  go_wp2_with fail
  go_ret
  exact ⟨rfl, hb3⟩
/- good1 -/
set_option maxRecDepth 20000 in
set_option maxHeartbeats 400000 in
theorem walk_good1 (d s : Int) (has : Bool) (pri : Int) (dei : Bool) (vid ty : Int) (b x A X S SX AX : ByteArray) (i j : Nat) (w : World) (hg : Et w) (hty : ty ≠ 0)
    (mb : ∀ (ts : Array TypeId) (t : TypeId) (W : World), (Builtin.min_ ts t #[.int .i64 (b.size : Int), .int .i64 700]).run Tryd.prog W = .ok (.int .i64 (i : Int)) W)
    (sb : ∀ W : World, (Instr.slice 9 (.string b) none (some (.int .i64 (i : Int))) none).run Tryd.prog W = .ok (.string A) W)
    (mx : ∀ (ts : Array TypeId) (t : TypeId) (W : World), (Builtin.min_ ts t #[.int .i64 (x.size : Int), .int .i64 700]).run Tryd.prog W = .ok (.int .i64 (j : Int)) W)
    (sx : ∀ W : World, (Instr.slice 9 (.string x) none (some (.int .i64 (j : Int))) none).run Tryd.prog W = .ok (.string X) W)
    (g1 : ∀ W, (Op.stringOp .add S X).run Tryd.prog W = .ok (.string SX) W)
    (g2 : ∀ W, (Op.stringOp .add A X).run Tryd.prog W = .ok (.string AX) W)
    (B : Hid (∀ W, Et W → Calls Tryd.prog 8 #[.agg #[.int .u64 d, .int .u64 s, .bool has, .int .i64 pri, .bool dei, .int .i64 vid, .int .i64 ty, .string A]] W fun e W' => e = .returned (.tuple #[.string S, .int .i64 0]) ∧ Below W.heap.size W W'))
    (P : Hid (∀ W, Et W → Calls Tryd.prog 15 #[.string SX] W fun e W' => e = .returned (.tuple #[.agg #[.int .u64 d, .int .u64 s, .bool has, .int .i64 pri, .bool dei, .int .i64 vid, .int .i64 ty, .string AX], .int .i64 0]) ∧ Below W.heap.size W W')) :
    Calls Tryd.prog 6 #[.agg #[.int .u64 d, .int .u64 s, .bool has, .int .i64 pri, .bool dei, .int .i64 vid, .int .i64 ty, .string b], .string x] w fun e w' => e = .returned (.bool true) ∧ Below w.heap.size w w' := by
  have same := same_frame d s has pri dei vid ty AX
  go_enter Tryd.func6, Tryd.ntmps6
  go_wp2_with fail
  refine (unhide B _ (hg.next (alloc_below _ _))).mono ?_
  rintro e w1 ⟨rfl, b1⟩
  have hb := bthen (alloc_below w _) b1
  have hrow := Below.row b1 (heap_alloc_new w _)
  clear b1 B
  go_wp2_with fail
  refine (unhide P _ (hg.next hb)).mono ?_
  rintro e w2 ⟨rfl, b2⟩
  have hb2 := bthen hb b2
  have hrow2 := Below.row b2 hrow
  clear b2 P hb hrow
  have hrow3 := Below.row (alloc_below w2 (.cells #[.int .u64 d, .int .u64 s, .bool has, .int .i64 pri, .bool dei, .int .i64 vid, .int .i64 ty, .string AX] 26)) hrow2
  have hrow4 := Below.row (alloc_below (w2.alloc (.cells #[.int .u64 d, .int .u64 s, .bool has, .int .i64 pri, .bool dei, .int .i64 vid, .int .i64 ty, .string AX] 26)) (.cells #[.int .u64 d, .int .u64 s, .bool has, .int .i64 pri, .bool dei, .int .i64 vid, .int .i64 ty, .string A] 26)) hrow3
  obtain ⟨c0, c1, c2, c3, c4, c5, c6, c7, _⟩ := cells8 hrow3
  obtain ⟨_, _, _, _, _, _, k6, k7, _⟩ := cells8 hrow4
  clear hrow2 hrow3 hrow4
  generalize w.heap.size = N at c0 c1 c2 c3 c4 c5 c6 c7 k6 k7 ⊢
  go_wp2_with fail
  refine (fixed_true _ (hg.next (alloc_then (alloc_then hb2)))).mono ?_
  rintro e w3 ⟨rfl, b3⟩
  have hb3 := bthen (alloc_then (alloc_then hb2)) b3
  go_wp2_with fail
  go_ret
  exact ⟨rfl, hb3⟩
theorem walk (d s : Nat) (has : Bool) (pri : Int) (dei : Bool) (vid ty : Int) (b x : ByteArray) (w : World) (hg : Et w) (_ : d < 18446744073709551616) (_ : s < 18446744073709551616) (_ : -9223372036854775808 ≤ pri ∧ pri ≤ 9223372036854775807) (_ : -9223372036854775808 ≤ vid ∧ vid ≤ 9223372036854775807) (_ : -9223372036854775808 ≤ ty ∧ ty ≤ 9223372036854775807) (_ : b.size ≤ maxLen) (_ : x.size ≤ maxLen) :
    Calls Tryd.prog 6 #[.agg #[.int .u64 d, .int .u64 s, .bool has, .int .i64 pri, .bool dei, .int .i64 vid, .int .i64 ty, .string b], .string x] w fun e w' => e = .returned (.bool true) ∧ Below w.heap.size w w' := by
  obtain ⟨i, a, la, mb, sb⟩ := firstN 700 b
  obtain ⟨j, y, ly, mx, sx⟩ := firstN 700 x
  by_cases h : (Fr.mk d s has pri dei vid ty a).check = 0
  · have hz : (Fr.mk d s has pri dei vid ty a).size ≤ 718 := by unfold Fr.size; cases has <;> simp <;> omega
    have hl := Fr.bytes_length (Fr.mk d s has pri dei vid ty a)
    have hP := parse_built (Fr.mk d s has pri dei vid ty a) y h (by omega)
    have B := fun (W : World) (_ : Et W) => build_ok d s has pri dei vid ty a W h
    have P := fun (W : World) (hW : Et W) => parse_any ((Fr.mk d s has pri dei vid ty a).bytes ++ y) W hW (by rw [List.length_append]; omega)
    rw [hP] at P
    have g1 := add_bs (Fr.mk d s has pri dei vid ty a).bytes y (by omega)
    by_cases z : ty = 0
    · subst z
      exact walk_good0 d s has pri dei vid b x (bs a) (bs y) _ _ i j w hg mb sb mx sx g1 (hide B) (hide P)
    · simp only [if_neg z] at P
      exact walk_good1 d s has pri dei vid ty b x (bs a) (bs y) _ _ _ i j w hg z mb sb mx sx g1 (add_bs a y (by omega)) (hide B) (hide P)
  · have B := fun (W : World) (hW : Et W) => build_bad d s has pri dei vid ty a W hW (by omega) h
    exact walk_bad d s has pri dei vid ty b x (bs a) (bs y) i j _ w hg h mb sb mx sx (hide B)
set_option maxRecDepth 100000 in
theorem lifted (os : Os) (started : os.Started) (H : Type) (enc : TypeId × Value → H) :
    ReturnsInHanded {} Tryd.checked os 6 .any (fun w args => (Rows.etherMoreSpec.pre enc Tryd.prog Tryd.f6 [] false w args ∧ laidMetH Tryd.prog [("errors.errorType", Rows.laid_errors_errorType)] w) ∧ sizedMet enc Tryd.prog Tryd.f6 (OpenSpec.ofChange Rows.etherMoreSpec) false w args)
      (Rows.etherMoreSpec.post enc Tryd.prog Tryd.f6 false true false false) := by
  refine returnsInHanded_of_change_and (C := Tryd.checked) (X := fun w _ => laidMetH Tryd.prog [("errors.errorType", Rows.laid_errors_errorType)] w) (fun _ _ _ hh h => h.of_heap hh) own started (by kernel_rfl) Tryd.func6
    (ChangeSpec.witness_at (enc := enc) (C := Tryd.checked) (os := os) (X := fun w _ => laidMetH Tryd.prog [("errors.errorType", Rows.laid_errors_errorType)] w) false
      { World.holding Tryd.prog os ⟨#[], #[], []⟩ with heap := (World.holding Tryd.prog os ⟨#[], #[], []⟩).heap.modify 0 fun
        | .cells _ t frozen => .cells #[.iface 87 (.agg #[.pointer (some ⟨1, 41, none⟩)])] t frozen
        | o => o } #[.agg #[.int .u64 0, .int .u64 0, .bool false, .int .i64 0, .bool false, .int .i64 0, .int .i64 0, .string ByteArray.empty], .string ByteArray.empty] 8 rfl (by kernel_rfl) (by kernel_rfl) (by kernel_rfl) (by kernel_rfl) (by kernel_rfl) (laid_met os _)) ?_
  intro W base args ds gs before hval0 hW _ _ hL _
  have hval : ∀ (j : Nat) t v, Tryd.f6.params[j]? = some t → args[j]? = some v → Value.okWide Tryd.prog W .any base t v := hval0
  have hW' := hW
  obtain ⟨p, q, hA0, hV0, rfl, hfz, hnd⟩ := hW
  have hA : DataW.TrodAll enc Tryd.prog W 0 (fun _ => true) true Tryd.f6.params.toList args.toList ds p := hA0
  have hV : DataW.TrodVars enc Tryd.prog W (fun _ => true) [] gs q := hV0
  rw [Tryd.params6] at hA hval
  obtain ⟨v0, v1, d0, d1, p0, p1, rfl, rfl, rfl, h0, h1⟩ := trodAll_two hA
  obtain ⟨d0, s0, has0, pri0, dei0, vid0, ty0, b0, rfl, rfl, rfl, hd0, hs0, wa0, wb0, wp0, wv0, wt0, wz0⟩ := open_frame (hval 0 26 v0 rfl rfl) h0
  obtain ⟨a1, rfl, rfl, rfl, w1⟩ := open_string Tryd.underlying9 (hval 1 9 v1 rfl rfl) h1
  obtain ⟨rfl, rfl⟩ := trodVars_none hV
  have e1 : Rows.etherMoreSpec.fn H ([frameD d0 s0 has0 pri0 dei0 vid0 ty0 b0, .lit (.string a1.data.toList)] ++ []) = { results := [.lit (.bool true)], args := [frameD d0 s0 has0 pri0 dei0 vid0 ty0 b0, .lit (.string a1.data.toList)] } := by simp [Rows.etherMoreSpec]
  refine (walk d0 s0 has0 pri0 dei0 vid0 ty0 b0 a1 W (et_of_laid hL) hd0 hs0 (bounds_i64 wp0) (bounds_i64 wv0) (bounds_i64 wt0) wz0 w1).mono fun e W' ⟨he, hb⟩ => ?_
  subst he
  refine ⟨_, rfl, _, _, _, [], [], [], hW', ?_, ?_, ?_, hb.frame _, fun h => by cases h⟩
  · rw [e1]; exact trodAll_mk1 (shut_bool Tryd.underlying4 true)
  · rw [e1]; exact trodAll_mk2 (shut_frame d0 s0 has0 pri0 dei0 vid0 ty0 b0 wa0 wb0 wp0 wv0 wt0 wz0) (shut_string Tryd.underlying9 w1)
  · rw [e1]; rfl

theorem said : Rows.EtherMoreSaid :=
  OpenClaim.holds_of_wide 6 Tryd.f6 rfl rfl rfl rfl rfl rfl rfl ⟨rfl, rfl, rfl, rfl, rfl⟩ rfl rfl rfl rfl rfl (by kernel_rfl) Tryd.func6 (by kernel_rfl)
    (of_decide_eq_true (by kernel_rfl)) (by unfold Func.isWrapper; rw [if_neg (of_decide_eq_false (by kernel_rfl))]; exact ⟨rfl, rfl⟩)
    (fun os started H enc _ => lifted os started H enc)

theorem plain (f : FuncId) (fn : Func) (hf : Tryd.pinned.checked.prog.funcNamed Rows.etherMoreRow.func = some f) (hfn : Tryd.pinned.checked.prog.funcs[f]? = some fn) :
    true = Tryd.pinned.checked.prog.looks [] ∧ ∀ (j : Nat) t, fn.params[j]? = some t → Tryd.pinned.checked.prog.wantsStandIn t = false := by
  obtain rfl : f = 6 := Option.some.inj ((show Tryd.prog.funcNamed Rows.etherMoreRow.func = some 6 by kernel_rfl).symm.trans hf) |>.symm
  obtain rfl : fn = Tryd.f6 := (Option.some.inj (Tryd.func6.symm.trans hfn)).symm
  refine ⟨by kernel_rfl, fun j t ht => ?_⟩
  rw [Tryd.params6] at ht
  have hm := Array.mem_of_getElem? ht
  simp only [List.mem_toArray, List.mem_cons, List.not_mem_nil, or_false] at hm
  rcases hm with rfl | rfl
  · exact (show Tryd.prog.wantsStandIn 26 = false by kernel_rfl)
  · exact (show Tryd.prog.wantsStandIn 9 = false by kernel_rfl)

theorem card : Rows.EtherMoreCardSaid :=
  Claim7.holds_tied_plain_at .later [] _ _ _ _ said (fun _ h => by cases h) (by kernel_rfl) (fun _ h => by cases h) etherMore_row_tie rfl ⟨rfl, rfl⟩ (by kernel_rfl) rfl plain (by kernel_rfl)
end Go.Proofs.YtfndofbkfinnmaaDoor.etherMore
namespace Go.Proofs.YtfndofbkfinnmaaDoor
theorem etherMore_card_holds : Rows.EtherMoreCardSaid := etherMore.card
end Go.Proofs.YtfndofbkfinnmaaDoor

