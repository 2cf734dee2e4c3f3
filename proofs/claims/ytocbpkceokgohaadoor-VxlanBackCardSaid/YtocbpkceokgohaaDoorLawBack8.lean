/-
  Proved: for every number and text (cut to 1700 bytes), gangwaylaw08.VxlanBack answers true (what is built is parsed as it was; what is parsed, built, is the bytes but for those of the head that make no difference, P8.1, P8.3), and the arguments read afterwards as before. Conditions: errors.errorType holds what the program's own text lays (tied by the card; the walk asks nothing of it).
-/
import Derived.Test.YtocbpkceokgohaaDoorRow8
import Derived.Test.YtocbpkceokgohaaDoorRef8
import Derived.BigQuiet
import Derived.Lib.QuietBelow
namespace Go.Proofs.YtocbpkceokgohaaDoor.vxlanBack
open Go.ChangeShapes Go.WideShapes Go.ChangeAt Go.RowKit Go.Sort
open Go.ChangeMaps (open_string shut_string)

set_option maxRecDepth 100000 in
set_option maxHeartbeats 1000000 in
theorem walk_80 (v : Int) (S0 S A : ByteArray) (i k : Nat) (w : World)
    (ms : ∀ (ts : Array TypeId) (t : TypeId) (W : World), (Builtin.min_ ts t #[.int .i64 (S0.size : Int), .int .i64 1700]).run Tryd.prog W = .ok (.int .i64 (i : Int)) W)
    (ss : ∀ W : World, (Instr.slice 9 (.string S0) none (some (.int .i64 (i : Int))) none).run Tryd.prog W = .ok (.string S) W)
    (hS : (S.size : Int) ≤ 1700)
    (hk : bits BinOp.and IntKind.i64 v 16777215 = (k : Int))
    (zA : (A.size : Int) = (S.size : Int) + 8)
    (C1 : Hid (∀ W, Calls Tryd.prog 8 #[.int .i64 (k : Int), .string S] W fun e W' => e = .returned (.tuple #[.string A, .int .i64 0]) ∧ Below W.heap.size W W'))
    (C2 : Hid (∀ W, Calls Tryd.prog 10 #[.string A] W fun e W' => e = .returned (.tuple #[.int .i64 (k : Int), .string S, .int .i64 0]) ∧ Below W.heap.size W W'))
    (C3 : Hid (∀ W, Calls Tryd.prog 10 #[.string S] W fun e W' => e = .returned (.tuple #[.int .i64 0, .string ⟨#[]⟩, .int .i64 80]) ∧ Below W.heap.size W W'))
    (CF : Hid (∀ W, Calls Tryd.prog 12 #[] W fun e W' => e = .returned (.bool true) ∧ Below W.heap.size W W')) :
    Calls Tryd.prog 5 #[.int .i64 v, .string S0] w fun e w' => e = .returned (.bool true) ∧ Below w.heap.size w w' := by
  go_enter Tryd.func5, Tryd.ntmps5
  go_wp2_with fail
  refine (unhide C1 _).mono ?_
  rintro e w1 ⟨rfl, b1⟩
  clear C1
  go_wp2_with fail
  refine (unhide C2 _).mono ?_
  rintro e w2 ⟨rfl, b2⟩
  clear C2
  go_wp2_with fail
  refine (unhide C3 _).mono ?_
  rintro e w3 ⟨rfl, b3⟩
  clear C3
  go_wp2_with fail
  refine (unhide CF _).mono ?_
  rintro e w4 ⟨rfl, b4⟩
  clear CF
  go_wp2_with fail
  go_ret
  exact ⟨rfl, bthen (bthen (bthen b1 b2) b3) b4⟩
set_option maxRecDepth 100000 in
set_option maxHeartbeats 1000000 in
theorem walk_81 (v : Int) (S0 S A : ByteArray) (i k : Nat) (w : World)
    (ms : ∀ (ts : Array TypeId) (t : TypeId) (W : World), (Builtin.min_ ts t #[.int .i64 (S0.size : Int), .int .i64 1700]).run Tryd.prog W = .ok (.int .i64 (i : Int)) W)
    (ss : ∀ W : World, (Instr.slice 9 (.string S0) none (some (.int .i64 (i : Int))) none).run Tryd.prog W = .ok (.string S) W)
    (hS : (S.size : Int) ≤ 1700)
    (hk : bits BinOp.and IntKind.i64 v 16777215 = (k : Int))
    (zA : (A.size : Int) = (S.size : Int) + 8)
    (C1 : Hid (∀ W, Calls Tryd.prog 8 #[.int .i64 (k : Int), .string S] W fun e W' => e = .returned (.tuple #[.string A, .int .i64 0]) ∧ Below W.heap.size W W'))
    (C2 : Hid (∀ W, Calls Tryd.prog 10 #[.string A] W fun e W' => e = .returned (.tuple #[.int .i64 (k : Int), .string S, .int .i64 0]) ∧ Below W.heap.size W W'))
    (C3 : Hid (∀ W, Calls Tryd.prog 10 #[.string S] W fun e W' => e = .returned (.tuple #[.int .i64 0, .string ⟨#[]⟩, .int .i64 81]) ∧ Below W.heap.size W W'))
    (CF : Hid (∀ W, Calls Tryd.prog 12 #[] W fun e W' => e = .returned (.bool true) ∧ Below W.heap.size W W')) :
    Calls Tryd.prog 5 #[.int .i64 v, .string S0] w fun e w' => e = .returned (.bool true) ∧ Below w.heap.size w w' := by
  go_enter Tryd.func5, Tryd.ntmps5
  go_wp2_with fail
  refine (unhide C1 _).mono ?_
  rintro e w1 ⟨rfl, b1⟩
  clear C1
  go_wp2_with fail
  refine (unhide C2 _).mono ?_
  rintro e w2 ⟨rfl, b2⟩
  clear C2
  go_wp2_with fail
  refine (unhide C3 _).mono ?_
  rintro e w3 ⟨rfl, b3⟩
  clear C3
  go_wp2_with fail
  refine (unhide CF _).mono ?_
  rintro e w4 ⟨rfl, b4⟩
  clear CF
  go_wp2_with fail
  go_ret
  exact ⟨rfl, bthen (bthen (bthen b1 b2) b3) b4⟩
set_option maxRecDepth 100000 in
set_option maxHeartbeats 4000000 in
theorem walk_ok (v : Int) (S0 S A D F X : ByteArray) (i k n : Nat) (w : World)
    (ms : ∀ (ts : Array TypeId) (t : TypeId) (W : World), (Builtin.min_ ts t #[.int .i64 (S0.size : Int), .int .i64 1700]).run Tryd.prog W = .ok (.int .i64 (i : Int)) W)
    (ss : ∀ W : World, (Instr.slice 9 (.string S0) none (some (.int .i64 (i : Int))) none).run Tryd.prog W = .ok (.string S) W)
    (hS : (S.size : Int) ≤ 1700)
    (hk : bits BinOp.and IntKind.i64 v 16777215 = (k : Int))
    (zA : (A.size : Int) = (S.size : Int) + 8)
    (C1 : Hid (∀ W, Calls Tryd.prog 8 #[.int .i64 (k : Int), .string S] W fun e W' => e = .returned (.tuple #[.string A, .int .i64 0]) ∧ Below W.heap.size W W'))
    (C2 : Hid (∀ W, Calls Tryd.prog 10 #[.string A] W fun e W' => e = .returned (.tuple #[.int .i64 (k : Int), .string S, .int .i64 0]) ∧ Below W.heap.size W W'))
    (h8 : 8 ≤ (S.size : Int))
    (zD : D.size = S.size)
    (d1 : ∀ W : World, (Instr.slice 9 (.string D) (some (.int .i64 4)) (some (.int .i64 7)) none).run Tryd.prog W = .ok (.string X) W)
    (s1 : ∀ W : World, (Instr.slice 9 (.string S) (some (.int .i64 4)) (some (.int .i64 7)) none).run Tryd.prog W = .ok (.string X) W)
    (d2 : ∀ W : World, (Instr.slice 9 (.string D) (some (.int .i64 8)) none none).run Tryd.prog W = .ok (.string F) W)
    (s2 : ∀ W : World, (Instr.slice 9 (.string S) (some (.int .i64 8)) none none).run Tryd.prog W = .ok (.string F) W)
    (C3 : Hid (∀ W, Calls Tryd.prog 10 #[.string S] W fun e W' => e = .returned (.tuple #[.int .i64 (n : Int), .string F, .int .i64 0]) ∧ Below W.heap.size W W'))
    (C4 : Hid (∀ W, Calls Tryd.prog 8 #[.int .i64 (n : Int), .string F] W fun e W' => e = .returned (.tuple #[.string D, .int .i64 0]) ∧ Below W.heap.size W W'))
    (CF : Hid (∀ W, Calls Tryd.prog 12 #[] W fun e W' => e = .returned (.bool true) ∧ Below W.heap.size W W')) :
    Calls Tryd.prog 5 #[.int .i64 v, .string S0] w fun e w' => e = .returned (.bool true) ∧ Below w.heap.size w w' := by
  go_enter Tryd.func5, Tryd.ntmps5
  go_wp2_with fail
  refine (unhide C1 _).mono ?_
  rintro e w1 ⟨rfl, b1⟩
  clear C1
  go_wp2_with fail
  refine (unhide C2 _).mono ?_
  rintro e w2 ⟨rfl, b2⟩
  clear C2
  go_wp2_with fail
  refine (unhide C3 _).mono ?_
  rintro e w3 ⟨rfl, b3⟩
  clear C3
  go_wp2_with fail
  refine (unhide C4 _).mono ?_
  rintro e w4 ⟨rfl, b4⟩
  have h4 := bthen (bthen (bthen b1 b2) b3) b4
  clear C4 b1 b2 b3 b4
  go_wp2_with fail
  have cF := at_grown (unhide CF) w4
  clear CF
  refine wp_region_quiet_below (by kernel_rfl) (by kernel_rfl) ?_
  repeat (go_big_quiet_step ((go_at_call 12; exact cF _ _)))
  refine wpQuiet_nil ?_
  rintro _ ⟨⟨dr, osr⟩, rfl⟩
  go_wp2
  go_ret
  exact ⟨rfl, grown_then h4 dr osr⟩
theorem walk (v : Int) (S0 : ByteArray) (w : World) (_ : -9223372036854775808 ≤ v) (_ : v < 9223372036854775808) (_ : S0.size ≤ maxLen) :
    Calls Tryd.prog 5 #[.int .i64 v, .string S0] w fun e w' => e = .returned (.bool true) ∧ Below w.heap.size w w' := by
  obtain ⟨i, r, hr, ms, ss⟩ := firstN 1700 S0
  obtain ⟨k, hk, hk2⟩ := and_mask v 16777215 (by omega)
  have hsz : (bs r).size = r.length := bs_size r
  have zA : (((bs (vbytes k r)).size : Nat) : Int) = ((bs r).size : Int) + 8 := by rw [bs_size, vbytes_length, hsz]; omega
  have C1 := fun W => vbuild_ok k r W (by omega) (by omega)
  have C2 := fun W => vparse_any (vbytes k r) W (by rw [vbytes_length]; omega)
  rw [vparse_built k r (by omega)] at C2
  have C3 := fun W => vparse_any r W (by omega)
  by_cases h : r.length < 8
  · rw [show vparse r = (0, [], 80) from by unfold vparse; rw [if_pos h]] at C3
    exact walk_80 v S0 (bs r) _ i k w ms ss (by omega) hk zA (hide C1) (hide C2) (hide C3) (hide fixed_true)
  · cases hf : flag r
    · rw [show vparse r = (0, [], 81) from by unfold vparse; rw [if_neg h, hf]; rfl] at C3
      exact walk_81 v S0 (bs r) _ i k w ms ss (by omega) hk zA (hide C1) (hide C2) (hide C3) (hide fixed_true)
    · rw [show vparse r = (nm r 4 3, r.drop 8, 0) from by unfold vparse; rw [if_neg h, hf]; rfl] at C3
      have C4 := fun W => vbuild_ok (nm r 4 3) (r.drop 8) W (by rw [List.length_drop]; omega) (nm3_lt r 4)
      have zD : (vbytes (nm r 4 3) (r.drop 8)).length = r.length := by rw [vbytes_length, List.length_drop]; omega
      have d1 := fun W => part_at (vbytes (nm r 4 3) (r.drop 8)) 4 3 (by omega) W
      rw [vbytes_back r (by omega)] at d1
      have d2 := fun W => rest_at (vbytes (nm r 4 3) (r.drop 8)) 8 (by omega) W
      rw [vbytes_rest] at d2
      exact walk_ok v S0 (bs r) _ _ _ _ i k (nm r 4 3) w ms ss (by omega) hk zA (hide C1) (hide C2) (by omega) (by rw [bs_size, bs_size]; exact zD) d1 (fun W => part_at r 4 3 (by omega) W) d2 (fun W => rest_at r 8 (by omega) W) (hide C3) (hide C4) (hide fixed_true)
set_option maxRecDepth 100000 in
theorem lifted (os : Os) (started : os.Started) (H : Type) (enc : TypeId × Value → H) :
    ReturnsInHanded {} Tryd.checked os 5 .any (fun w args => (Rows.vxlanBackSpec.pre enc Tryd.prog Tryd.f5 [] false w args ∧ laidMetH Tryd.prog [("errors.errorType", Rows.laid_errors_errorType)] w) ∧ sizedMet enc Tryd.prog Tryd.f5 (OpenSpec.ofChange Rows.vxlanBackSpec) false w args)
      (Rows.vxlanBackSpec.post enc Tryd.prog Tryd.f5 false true false false) := by
  refine returnsInHanded_of_change_and (C := Tryd.checked) (X := fun w _ => laidMetH Tryd.prog [("errors.errorType", Rows.laid_errors_errorType)] w) (fun _ _ _ hh h => h.of_heap hh) own started (by kernel_rfl) Tryd.func5
    (ChangeSpec.witness_at (enc := enc) (C := Tryd.checked) (os := os) (X := fun w _ => laidMetH Tryd.prog [("errors.errorType", Rows.laid_errors_errorType)] w) false
      { World.holding Tryd.prog os ⟨#[], #[], []⟩ with heap := (World.holding Tryd.prog os ⟨#[], #[], []⟩).heap.modify 0 fun
        | .cells _ t frozen => .cells #[.iface 70 (.agg #[.pointer (some ⟨1, 44, none⟩)])] t frozen
        | o => o } #[.int .i64 0, .string ByteArray.empty] 8 rfl (by kernel_rfl) (by kernel_rfl) (by kernel_rfl) (by kernel_rfl) (by kernel_rfl) (laid_met os _)) ?_
  intro W base args ds gs before hval0 hW _ _ _ _
  have hval : ∀ (j : Nat) t v, Tryd.f5.params[j]? = some t → args[j]? = some v → Value.okWide Tryd.prog W .any base t v := hval0
  have hW' := hW
  obtain ⟨p, q, hA0, hV0, rfl, hfz, hnd⟩ := hW
  have hA : DataW.TrodAll enc Tryd.prog W 0 (fun _ => true) true Tryd.f5.params.toList args.toList ds p := hA0
  have hV : DataW.TrodVars enc Tryd.prog W (fun _ => true) [] gs q := hV0
  rw [Tryd.params5] at hA hval
  obtain ⟨v0, v1, d0, d1, p0, p1, rfl, rfl, rfl, h0, h1⟩ := trodAll_two hA
  obtain ⟨a0, rfl, rfl, rfl, w0⟩ := open_int Tryd.underlying3 (hval 0 3 v0 rfl rfl) h0
  have b0 := bounds_i64 w0
  obtain ⟨a1, rfl, rfl, rfl, w1⟩ := open_string Tryd.underlying9 (hval 1 9 v1 rfl rfl) h1
  obtain ⟨rfl, rfl⟩ := trodVars_none hV
  have e1 : Rows.vxlanBackSpec.fn H ([.lit (.int .i64 a0), .lit (.string a1.data.toList)] ++ []) = { results := [.lit (.bool true)], args := [.lit (.int .i64 a0), .lit (.string a1.data.toList)] } := by simp [Rows.vxlanBackSpec]
  refine (walk a0 a1 W (by omega) (by omega) w1).mono fun e W' ⟨he, hb⟩ => ?_
  subst he
  refine ⟨_, rfl, _, _, _, [], [], [], hW', ?_, ?_, ?_, hb.frame _, fun h => by cases h⟩
  · rw [e1]; exact trodAll_mk1 (shut_bool Tryd.underlying4 true)
  · rw [e1]; exact trodAll_mk2 (shut_int Tryd.underlying3 w0) (shut_string Tryd.underlying9 w1)
  · rw [e1]; rfl

theorem said : Rows.VxlanBackSaid :=
  OpenClaim.holds_of_wide 5 Tryd.f5 rfl rfl rfl rfl rfl rfl rfl ⟨rfl, rfl, rfl, rfl, rfl⟩ rfl rfl rfl rfl rfl (by kernel_rfl) Tryd.func5 (by kernel_rfl)
    (of_decide_eq_true (by kernel_rfl)) (by unfold Func.isWrapper; rw [if_neg (of_decide_eq_false (by kernel_rfl))]; exact ⟨rfl, rfl⟩)
    (fun os started H enc _ => lifted os started H enc)

theorem plain (f : FuncId) (fn : Func) (hf : Tryd.pinned.checked.prog.funcNamed Rows.vxlanBackRow.func = some f) (hfn : Tryd.pinned.checked.prog.funcs[f]? = some fn) :
    true = Tryd.pinned.checked.prog.looks [] ∧ ∀ (j : Nat) t, fn.params[j]? = some t → Tryd.pinned.checked.prog.wantsStandIn t = false := by
  obtain rfl : f = 5 := Option.some.inj ((show Tryd.prog.funcNamed Rows.vxlanBackRow.func = some 5 by kernel_rfl).symm.trans hf) |>.symm
  obtain rfl : fn = Tryd.f5 := (Option.some.inj (Tryd.func5.symm.trans hfn)).symm
  refine ⟨by kernel_rfl, fun j t ht => ?_⟩
  rw [Tryd.params5] at ht
  have hm := Array.mem_of_getElem? ht
  simp only [List.mem_toArray, List.mem_cons, List.not_mem_nil, or_false] at hm
  rcases hm with rfl | rfl
  · exact (show Tryd.prog.wantsStandIn 3 = false by kernel_rfl)
  · exact (show Tryd.prog.wantsStandIn 9 = false by kernel_rfl)

theorem card : Rows.VxlanBackCardSaid :=
  Claim7.holds_tied_plain_at .later [] _ _ _ _ said (fun _ h => by cases h) (by kernel_rfl) (fun _ h => by cases h) vxlanBack_row_tie rfl ⟨rfl, rfl⟩ (by kernel_rfl) rfl plain (by kernel_rfl)
end Go.Proofs.YtocbpkceokgohaaDoor.vxlanBack
namespace Go.Proofs.YtocbpkceokgohaaDoor
theorem vxlanBack_card_holds : Rows.VxlanBackCardSaid := vxlanBack.card
end Go.Proofs.YtocbpkceokgohaaDoor
