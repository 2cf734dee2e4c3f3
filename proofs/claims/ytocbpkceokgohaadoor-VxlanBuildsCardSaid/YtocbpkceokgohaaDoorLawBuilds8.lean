/-
  Proved: for every number and text (cut to 1700 bytes), gangwaylaw08.VxlanBuilds answers true (the bytes of the frame of that number, and what the bytes tell, are the document's, P8.1), and the arguments read afterwards as before. Conditions: errors.errorType holds what the program's own text lays (tied by the card; the walk asks nothing of it).
-/
import Derived.Test.YtocbpkceokgohaaDoorRow8
import Derived.Test.YtocbpkceokgohaaDoorRef8
namespace Go.Proofs.YtocbpkceokgohaaDoor.vxlanBuilds
open Go.ChangeShapes Go.WideShapes Go.ChangeAt Go.RowKit Go.Sort
open Go.ChangeMaps (open_string shut_string)

set_option maxRecDepth 100000 in
set_option maxHeartbeats 1000000 in
theorem walk_at (v : Int) (S0 S T F : ByteArray) (i n g : Nat) (k : Int) (w : World)
    (ms : ∀ (ts : Array TypeId) (t : TypeId) (W : World), (Builtin.min_ ts t #[.int .i64 (S0.size : Int), .int .i64 1700]).run Tryd.prog W = .ok (.int .i64 (i : Int)) W)
    (ss : ∀ W : World, (Instr.slice 9 (.string S0) none (some (.int .i64 (i : Int))) none).run Tryd.prog W = .ok (.string S) W)
    (C1 : Hid (∀ W, Calls Tryd.prog 8 #[.int .i64 v, .string S] W fun e W' => e = .returned (.tuple #[.string T, .int .i64 k]) ∧ Below W.heap.size W W'))
    (C2 : Hid (∀ W, Calls Tryd.prog 9 #[.int .i64 v, .string S] W fun e W' => e = .returned (.tuple #[.string T, .int .i64 k]) ∧ Below W.heap.size W W'))
    (C3 : Hid (∀ W, Calls Tryd.prog 10 #[.string S] W fun e W' => e = .returned (.tuple #[.int .i64 (n : Int), .string F, .int .i64 (g : Int)]) ∧ Below W.heap.size W W'))
    (C4 : Hid (∀ W, Calls Tryd.prog 11 #[.string S] W fun e W' => e = .returned (.tuple #[.int .i64 (n : Int), .string F, .int .i64 (g : Int)]) ∧ Below W.heap.size W W'))
    (CF : Hid (∀ W, Calls Tryd.prog 12 #[] W fun e W' => e = .returned (.bool true) ∧ Below W.heap.size W W')) :
    Calls Tryd.prog 3 #[.int .i64 v, .string S0] w fun e w' => e = .returned (.bool true) ∧ Below w.heap.size w w' := by
  go_enter Tryd.func3, Tryd.ntmps3
  go_wp2_with fail
  refine (unhide C1 _).mono ?_
  rintro e w1 ⟨rfl, b1⟩
  clear C1
  go_wp2_with fail
  refine (unhide C2 _).mono ?_
  rintro e w2 ⟨rfl, b2⟩
  clear C2
  go_wp2_with fail
  refine (unhide C3 _).mono ?_
  rintro e w3 ⟨rfl, b3⟩
  clear C3
  go_wp2_with fail
  refine (unhide C4 _).mono ?_
  rintro e w4 ⟨rfl, b4⟩
  clear C4
  go_wp2_with fail
  refine (unhide CF _).mono ?_
  rintro e w5 ⟨rfl, b5⟩
  clear CF
  go_wp2_with fail
  go_ret
  exact ⟨rfl, bthen (bthen (bthen (bthen b1 b2) b3) b4) b5⟩
theorem walk (v : Int) (S0 : ByteArray) (w : World) (_ : -9223372036854775808 ≤ v) (_ : v < 9223372036854775808) (_ : S0.size ≤ maxLen) :
    Calls Tryd.prog 3 #[.int .i64 v, .string S0] w fun e w' => e = .returned (.bool true) ∧ Below w.heap.size w w' := by
  obtain ⟨i, r, hr, ms, ss⟩ := firstN 1700 S0
  have C3 := fun W => vparse_any r W (by omega)
  have C4 := fun W => rparse_any r W (by omega)
  by_cases h : 0 ≤ v ∧ v ≤ 16777215
  · obtain ⟨u, rfl⟩ : ∃ u : Nat, v = u := ⟨v.toNat, by omega⟩
    exact walk_at _ S0 (bs r) _ _ i _ _ _ w ms ss (hide fun W => vbuild_ok u r W (by omega) (by omega)) (hide fun W => rbuild_ok u r W (by omega) (by omega)) (hide C3) (hide C4) (hide fixed_true)
  · exact walk_at v S0 (bs r) _ _ i _ _ _ w ms ss (hide fun W => vbuild_bad v (bs r) W (by omega)) (hide fun W => rbuild_bad v (bs r) W (by omega)) (hide C3) (hide C4) (hide fixed_true)
set_option maxRecDepth 100000 in
theorem lifted (os : Os) (started : os.Started) (H : Type) (enc : TypeId × Value → H) :
    ReturnsInHanded {} Tryd.checked os 3 .any (fun w args => (Rows.vxlanBuildsSpec.pre enc Tryd.prog Tryd.f3 [] false w args ∧ laidMetH Tryd.prog [("errors.errorType", Rows.laid_errors_errorType)] w) ∧ sizedMet enc Tryd.prog Tryd.f3 (OpenSpec.ofChange Rows.vxlanBuildsSpec) false w args)
      (Rows.vxlanBuildsSpec.post enc Tryd.prog Tryd.f3 false true false false) := by
  refine returnsInHanded_of_change_and (C := Tryd.checked) (X := fun w _ => laidMetH Tryd.prog [("errors.errorType", Rows.laid_errors_errorType)] w) (fun _ _ _ hh h => h.of_heap hh) own started (by kernel_rfl) Tryd.func3
    (ChangeSpec.witness_at (enc := enc) (C := Tryd.checked) (os := os) (X := fun w _ => laidMetH Tryd.prog [("errors.errorType", Rows.laid_errors_errorType)] w) false
      { World.holding Tryd.prog os ⟨#[], #[], []⟩ with heap := (World.holding Tryd.prog os ⟨#[], #[], []⟩).heap.modify 0 fun
        | .cells _ t frozen => .cells #[.iface 70 (.agg #[.pointer (some ⟨1, 44, none⟩)])] t frozen
        | o => o } #[.int .i64 0, .string ByteArray.empty] 8 rfl (by kernel_rfl) (by kernel_rfl) (by kernel_rfl) (by kernel_rfl) (by kernel_rfl) (laid_met os _)) ?_
  intro W base args ds gs before hval0 hW _ _ _ _
  have hval : ∀ (j : Nat) t v, Tryd.f3.params[j]? = some t → args[j]? = some v → Value.okWide Tryd.prog W .any base t v := hval0
  have hW' := hW
  obtain ⟨p, q, hA0, hV0, rfl, hfz, hnd⟩ := hW
  have hA : DataW.TrodAll enc Tryd.prog W 0 (fun _ => true) true Tryd.f3.params.toList args.toList ds p := hA0
  have hV : DataW.TrodVars enc Tryd.prog W (fun _ => true) [] gs q := hV0
  rw [Tryd.params3] at hA hval
  obtain ⟨v0, v1, d0, d1, p0, p1, rfl, rfl, rfl, h0, h1⟩ := trodAll_two hA
  obtain ⟨a0, rfl, rfl, rfl, w0⟩ := open_int Tryd.underlying3 (hval 0 3 v0 rfl rfl) h0
  have b0 := bounds_i64 w0
  obtain ⟨a1, rfl, rfl, rfl, w1⟩ := open_string Tryd.underlying9 (hval 1 9 v1 rfl rfl) h1
  obtain ⟨rfl, rfl⟩ := trodVars_none hV
  have e1 : Rows.vxlanBuildsSpec.fn H ([.lit (.int .i64 a0), .lit (.string a1.data.toList)] ++ []) = { results := [.lit (.bool true)], args := [.lit (.int .i64 a0), .lit (.string a1.data.toList)] } := by simp [Rows.vxlanBuildsSpec]
  refine (walk a0 a1 W (by omega) (by omega) w1).mono fun e W' ⟨he, hb⟩ => ?_
  subst he
  refine ⟨_, rfl, _, _, _, [], [], [], hW', ?_, ?_, ?_, hb.frame _, fun h => by cases h⟩
  · rw [e1]; exact trodAll_mk1 (shut_bool Tryd.underlying4 true)
  · rw [e1]; exact trodAll_mk2 (shut_int Tryd.underlying3 w0) (shut_string Tryd.underlying9 w1)
  · rw [e1]; rfl

theorem said : Rows.VxlanBuildsSaid :=
  OpenClaim.holds_of_wide 3 Tryd.f3 rfl rfl rfl rfl rfl rfl rfl ⟨rfl, rfl, rfl, rfl, rfl⟩ rfl rfl rfl rfl rfl (by kernel_rfl) Tryd.func3 (by kernel_rfl)
    (of_decide_eq_true (by kernel_rfl)) (by unfold Func.isWrapper; rw [if_neg (of_decide_eq_false (by kernel_rfl))]; exact ⟨rfl, rfl⟩)
    (fun os started H enc _ => lifted os started H enc)

theorem plain (f : FuncId) (fn : Func) (hf : Tryd.pinned.checked.prog.funcNamed Rows.vxlanBuildsRow.func = some f) (hfn : Tryd.pinned.checked.prog.funcs[f]? = some fn) :
    true = Tryd.pinned.checked.prog.looks [] ∧ ∀ (j : Nat) t, fn.params[j]? = some t → Tryd.pinned.checked.prog.wantsStandIn t = false := by
  obtain rfl : f = 3 := Option.some.inj ((show Tryd.prog.funcNamed Rows.vxlanBuildsRow.func = some 3 by kernel_rfl).symm.trans hf) |>.symm
  obtain rfl : fn = Tryd.f3 := (Option.some.inj (Tryd.func3.symm.trans hfn)).symm
  refine ⟨by kernel_rfl, fun j t ht => ?_⟩
  rw [Tryd.params3] at ht
  have hm := Array.mem_of_getElem? ht
  simp only [List.mem_toArray, List.mem_cons, List.not_mem_nil, or_false] at hm
  rcases hm with rfl | rfl
  · exact (show Tryd.prog.wantsStandIn 3 = false by kernel_rfl)
  · exact (show Tryd.prog.wantsStandIn 9 = false by kernel_rfl)

theorem card : Rows.VxlanBuildsCardSaid :=
  Claim7.holds_tied_plain_at .later [] _ _ _ _ said (fun _ h => by cases h) (by kernel_rfl) (fun _ h => by cases h) vxlanBuilds_row_tie rfl ⟨rfl, rfl⟩ (by kernel_rfl) rfl plain (by kernel_rfl)
end Go.Proofs.YtocbpkceokgohaaDoor.vxlanBuilds
namespace Go.Proofs.YtocbpkceokgohaaDoor
theorem vxlanBuilds_card_holds : Rows.VxlanBuildsCardSaid := vxlanBuilds.card
end Go.Proofs.YtocbpkceokgohaaDoor
