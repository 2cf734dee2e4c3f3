/-
  Proved: for every packet (of a body cut to 1700 bytes), gangwaylaw06.InetBuilds answers true (whether it may be, is a part, and its bytes, is as the document says, P6.1, P6.3), and the arguments read afterwards as before. Conditions: errors.errorType holds what the program's own text lays (tied by the card).
-/
import Derived.Test.YtojipoifjioglaaDoorRow6
import Derived.Test.YtojipoifjioglaaDoorRef6c
namespace Go.Proofs.YtojipoifjioglaaDoor.inetBuilds
open Go.ChangeShapes Go.WideShapes Go.ChangeAt Go.RowKit Go.Sort
open Go.ChangeMaps (open_string shut_string)

set_option maxRecDepth 100000 in
set_option maxHeartbeats 4000000 in
theorem walk_true (a b o t q s d : Int) (x : Bool) (B X T : ByteArray) (k : Int) (w : World) (hg : Et w)
    (CU : Hid (∀ W, Calls Tryd.prog 9 #[.agg #[.int .i64 a, .int .i64 b, .bool x, .bool true, .int .i64 o, .int .i64 t, .int .i64 q, .int .u32 s, .int .u32 d, .string B]] W fun e W' => e = .returned (.agg #[.int .i64 a, .int .i64 b, .bool x, .bool true, .int .i64 o, .int .i64 t, .int .i64 q, .int .u32 s, .int .u32 d, .string X]) ∧ Below W.heap.size W W'))
    (CB : Hid (∀ W, Et W → Calls Tryd.prog 10 #[.agg #[.int .i64 a, .int .i64 b, .bool x, .bool true, .int .i64 o, .int .i64 t, .int .i64 q, .int .u32 s, .int .u32 d, .string X]] W fun e W' => e = .returned (.tuple #[.string T, .int .i64 k]) ∧ Below W.heap.size W W'))
    (DB : Hid (∀ W, Calls Tryd.prog 11 #[.agg #[.int .i64 a, .int .i64 b, .bool x, .bool true, .int .i64 o, .int .i64 t, .int .i64 q, .int .u32 s, .int .u32 d, .string X]] W fun e W' => e = .returned (.tuple #[.string T, .int .i64 k]) ∧ Below W.heap.size W W'))
    (CC : Hid (∀ W, Et W → Calls Tryd.prog 13 #[.agg #[.int .i64 a, .int .i64 b, .bool x, .bool true, .int .i64 o, .int .i64 t, .int .i64 q, .int .u32 s, .int .u32 d, .string X]] W fun e W' => e = .returned (.int .i64 k) ∧ Below W.heap.size W W'))
    (DC : Hid (∀ W, Calls Tryd.prog 14 #[.agg #[.int .i64 a, .int .i64 b, .bool x, .bool true, .int .i64 o, .int .i64 t, .int .i64 q, .int .u32 s, .int .u32 d, .string X]] W fun e W' => e = .returned (.int .i64 k) ∧ Below W.heap.size W W'))
    (CQ : Hid (∀ W, Calls Tryd.prog 15 #[.agg #[.int .i64 a, .int .i64 b, .bool x, .bool true, .int .i64 o, .int .i64 t, .int .i64 q, .int .u32 s, .int .u32 d, .string X]] W fun e W' => e = .returned (.bool true) ∧ Below W.heap.size W W'))
    (CF : Hid (∀ W, Et W → Calls Tryd.prog 12 #[] W fun e W' => e = .returned (.bool true) ∧ Below W.heap.size W W')) :
    Calls Tryd.prog 3 #[.agg #[.int .i64 a, .int .i64 b, .bool x, .bool true, .int .i64 o, .int .i64 t, .int .i64 q, .int .u32 s, .int .u32 d, .string B]] w fun e w' => e = .returned (.bool true) ∧ Below w.heap.size w w' := by
  go_enter Tryd.func3, Tryd.ntmps3
  go_wp2_with fail
  refine (unhide CU _).mono ?_
  rintro e w1 ⟨rfl, b1⟩
  have h1 := bthen (alloc_below w _) b1
  have r1 := Below.row b1 (heap_alloc_new w _)
  obtain ⟨c0, c1, c2, c3, c4, c5, c6, c7, c8, c9, f0, f1, f2, f3, f4, f5, f6, f7, f8, f9⟩ := cells10 r1
  have h2 := below10 (v0 := .int .i64 a) (v1 := .int .i64 b) (v2 := .bool x) (v3 := .bool true) (v4 := .int .i64 o) (v5 := .int .i64 t) (v6 := .int .i64 q) (v7 := .int .u32 s) (v8 := .int .u32 d) (v9 := .string X) h1 (Nat.le_refl _)
  have r2 := set10 (v0 := .int .i64 a) (v1 := .int .i64 b) (v2 := .bool x) (v3 := .bool true) (v4 := .int .i64 o) (v5 := .int .i64 t) (v6 := .int .i64 q) (v7 := .int .u32 s) (v8 := .int .u32 d) (v9 := .string X) r1
  clear b1 CU
  go_wp2_with fail
  generalize ((((((((((w1.setCell ⟨w.heap.size, 0, none⟩ (.int .i64 a)).setCell ⟨w.heap.size, 1, none⟩ (.int .i64 b)).setCell ⟨w.heap.size, 2, none⟩ (.bool x)).setCell ⟨w.heap.size, 3, none⟩ (.bool true)).setCell ⟨w.heap.size, 4, none⟩ (.int .i64 o)).setCell ⟨w.heap.size, 5, none⟩ (.int .i64 t)).setCell ⟨w.heap.size, 6, none⟩ (.int .i64 q)).setCell ⟨w.heap.size, 7, none⟩ (.int .u32 s)).setCell ⟨w.heap.size, 8, none⟩ (.int .u32 d)).setCell ⟨w.heap.size, 9, none⟩ (.string X)) = w2 at *
  clear h1 r1 c0 c1 c2 c3 c4 c5 c6 c7 c8 c9 f0 f1 f2 f3 f4 f5 f6 f7 f8 f9
  refine (unhide CB _ (hg.next h2)).mono ?_
  rintro e w3 ⟨rfl, b3⟩
  have h3 := bthen h2 b3
  have r3 := Below.row b3 r2
  clear b3 CB h2 r2
  obtain ⟨c0, c1, c2, c3, c4, c5, c6, c7, c8, c9, _⟩ := cells10 r3
  go_wp2_with fail
  refine (unhide DB _).mono ?_
  rintro e w4 ⟨rfl, b4⟩
  have h4 := bthen h3 b4
  have r4 := Below.row b4 r3
  clear b4 DB h3 r3 c0 c1 c2 c3 c4 c5 c6 c7 c8 c9
  go_wp2_with fail
  obtain ⟨c0, c1, c2, c3, c4, c5, c6, c7, c8, c9, _⟩ := cells10 r4
  have hg4 := hg.next h4
  have cF := at_grownE (unhide CF) w4 hg4
  have cC := at_grownE (unhide CC) w4 hg4
  have cD := at_grown (unhide DC) w4
  have cQ := at_grown (unhide CQ) w4
  replace c0 := cell_regrown c0
  replace c1 := cell_regrown c1
  replace c2 := cell_regrown c2
  replace c3 := cell_regrown c3
  replace c4 := cell_regrown c4
  replace c5 := cell_regrown c5
  replace c6 := cell_regrown c6
  replace c7 := cell_regrown c7
  replace c8 := cell_regrown c8
  replace c9 := cell_regrown c9
  clear CF CC DC CQ r4
  refine wp_region_quiet_below (by kernel_rfl) (by kernel_rfl) ?_
  repeat (go_big_quiet_step (first | (go_at_call 12; exact cF _ _) | (go_at_call 13; exact cC _ _) | (go_at_call 14; exact cD _ _) | (go_at_call 15; exact cQ _ _)))
  refine wpQuiet_nil ?_
  rintro _ ⟨⟨dq, osq⟩, rfl⟩
  go_wp2
  go_ret
  exact ⟨rfl, grown_then h4 dq osq⟩
set_option maxRecDepth 100000 in
set_option maxHeartbeats 4000000 in
theorem walk_false (a b o t q s d : Int) (x : Bool) (B X T : ByteArray) (k : Int) (w : World) (hg : Et w)
    (CU : Hid (∀ W, Calls Tryd.prog 9 #[.agg #[.int .i64 a, .int .i64 b, .bool x, .bool false, .int .i64 o, .int .i64 t, .int .i64 q, .int .u32 s, .int .u32 d, .string B]] W fun e W' => e = .returned (.agg #[.int .i64 a, .int .i64 b, .bool x, .bool false, .int .i64 o, .int .i64 t, .int .i64 q, .int .u32 s, .int .u32 d, .string X]) ∧ Below W.heap.size W W'))
    (CB : Hid (∀ W, Et W → Calls Tryd.prog 10 #[.agg #[.int .i64 a, .int .i64 b, .bool x, .bool false, .int .i64 o, .int .i64 t, .int .i64 q, .int .u32 s, .int .u32 d, .string X]] W fun e W' => e = .returned (.tuple #[.string T, .int .i64 k]) ∧ Below W.heap.size W W'))
    (DB : Hid (∀ W, Calls Tryd.prog 11 #[.agg #[.int .i64 a, .int .i64 b, .bool x, .bool false, .int .i64 o, .int .i64 t, .int .i64 q, .int .u32 s, .int .u32 d, .string X]] W fun e W' => e = .returned (.tuple #[.string T, .int .i64 k]) ∧ Below W.heap.size W W'))
    (CC : Hid (∀ W, Et W → Calls Tryd.prog 13 #[.agg #[.int .i64 a, .int .i64 b, .bool x, .bool false, .int .i64 o, .int .i64 t, .int .i64 q, .int .u32 s, .int .u32 d, .string X]] W fun e W' => e = .returned (.int .i64 k) ∧ Below W.heap.size W W'))
    (DC : Hid (∀ W, Calls Tryd.prog 14 #[.agg #[.int .i64 a, .int .i64 b, .bool x, .bool false, .int .i64 o, .int .i64 t, .int .i64 q, .int .u32 s, .int .u32 d, .string X]] W fun e W' => e = .returned (.int .i64 k) ∧ Below W.heap.size W W'))
    (CQ : Hid (∀ W, Calls Tryd.prog 15 #[.agg #[.int .i64 a, .int .i64 b, .bool x, .bool false, .int .i64 o, .int .i64 t, .int .i64 q, .int .u32 s, .int .u32 d, .string X]] W fun e W' => e = .returned (.bool (decide (0 < o))) ∧ Below W.heap.size W W'))
    (CF : Hid (∀ W, Et W → Calls Tryd.prog 12 #[] W fun e W' => e = .returned (.bool true) ∧ Below W.heap.size W W')) :
    Calls Tryd.prog 3 #[.agg #[.int .i64 a, .int .i64 b, .bool x, .bool false, .int .i64 o, .int .i64 t, .int .i64 q, .int .u32 s, .int .u32 d, .string B]] w fun e w' => e = .returned (.bool true) ∧ Below w.heap.size w w' := by
  go_enter Tryd.func3, Tryd.ntmps3
  go_wp2_with fail
  refine (unhide CU _).mono ?_
  rintro e w1 ⟨rfl, b1⟩
  have h1 := bthen (alloc_below w _) b1
  have r1 := Below.row b1 (heap_alloc_new w _)
  obtain ⟨c0, c1, c2, c3, c4, c5, c6, c7, c8, c9, f0, f1, f2, f3, f4, f5, f6, f7, f8, f9⟩ := cells10 r1
  have h2 := below10 (v0 := .int .i64 a) (v1 := .int .i64 b) (v2 := .bool x) (v3 := .bool false) (v4 := .int .i64 o) (v5 := .int .i64 t) (v6 := .int .i64 q) (v7 := .int .u32 s) (v8 := .int .u32 d) (v9 := .string X) h1 (Nat.le_refl _)
  have r2 := set10 (v0 := .int .i64 a) (v1 := .int .i64 b) (v2 := .bool x) (v3 := .bool false) (v4 := .int .i64 o) (v5 := .int .i64 t) (v6 := .int .i64 q) (v7 := .int .u32 s) (v8 := .int .u32 d) (v9 := .string X) r1
  clear b1 CU
  go_wp2_with fail
  generalize ((((((((((w1.setCell ⟨w.heap.size, 0, none⟩ (.int .i64 a)).setCell ⟨w.heap.size, 1, none⟩ (.int .i64 b)).setCell ⟨w.heap.size, 2, none⟩ (.bool x)).setCell ⟨w.heap.size, 3, none⟩ (.bool false)).setCell ⟨w.heap.size, 4, none⟩ (.int .i64 o)).setCell ⟨w.heap.size, 5, none⟩ (.int .i64 t)).setCell ⟨w.heap.size, 6, none⟩ (.int .i64 q)).setCell ⟨w.heap.size, 7, none⟩ (.int .u32 s)).setCell ⟨w.heap.size, 8, none⟩ (.int .u32 d)).setCell ⟨w.heap.size, 9, none⟩ (.string X)) = w2 at *
  clear h1 r1 c0 c1 c2 c3 c4 c5 c6 c7 c8 c9 f0 f1 f2 f3 f4 f5 f6 f7 f8 f9
  refine (unhide CB _ (hg.next h2)).mono ?_
  rintro e w3 ⟨rfl, b3⟩
  have h3 := bthen h2 b3
  have r3 := Below.row b3 r2
  clear b3 CB h2 r2
  obtain ⟨c0, c1, c2, c3, c4, c5, c6, c7, c8, c9, _⟩ := cells10 r3
  go_wp2_with fail
  refine (unhide DB _).mono ?_
  rintro e w4 ⟨rfl, b4⟩
  have h4 := bthen h3 b4
  have r4 := Below.row b4 r3
  clear b4 DB h3 r3 c0 c1 c2 c3 c4 c5 c6 c7 c8 c9
  go_wp2_with fail
  obtain ⟨c0, c1, c2, c3, c4, c5, c6, c7, c8, c9, _⟩ := cells10 r4
  have hg4 := hg.next h4
  have cF := at_grownE (unhide CF) w4 hg4
  have cC := at_grownE (unhide CC) w4 hg4
  have cD := at_grown (unhide DC) w4
  have cQ := at_grown (unhide CQ) w4
  replace c0 := cell_regrown c0
  replace c1 := cell_regrown c1
  replace c2 := cell_regrown c2
  replace c3 := cell_regrown c3
  replace c4 := cell_regrown c4
  replace c5 := cell_regrown c5
  replace c6 := cell_regrown c6
  replace c7 := cell_regrown c7
  replace c8 := cell_regrown c8
  replace c9 := cell_regrown c9
  clear CF CC DC CQ r4
  refine wp_region_quiet_below (by kernel_rfl) (by kernel_rfl) ?_
  repeat (go_big_quiet_step (first | (go_at_call 12; exact cF _ _) | (go_at_call 13; exact cC _ _) | (go_at_call 14; exact cD _ _) | (go_at_call 15; exact cQ _ _)))
  refine wpQuiet_nil ?_
  rintro _ ⟨⟨dq, osq⟩, rfl⟩
  go_wp2
  go_ret
  exact ⟨rfl, grown_then h4 dq osq⟩
theorem walk (p : Pk) (w : World) (hg : Et w) (hs : p.src < 4294967296) (hd : p.dst < 4294967296) :
    Calls Tryd.prog 3 #[p.val] w fun e w' => e = .returned (.bool true) ∧ Below w.heap.size w w' := by
  obtain ⟨m, l, hl, mx, sx⟩ := firstN 1700 (bs p.body)
  obtain ⟨a, b, x, y, o, t, q, s, d, B⟩ := p
  have hf : (Pk.mk a b x y o t q s d l).fits := ⟨hs, hd, hl⟩
  have CU := fun W => cut_any a b o t q s d x y (bs B) (bs l) m W mx sx
  have CB := fun W (g : Et W) => inetBuild_any _ W hf g
  have DB := fun W => rbuild_any _ W hf
  have CC := fun W (g : Et W) => inetCheck_any _ W hf g
  have DC := fun W => rcheck_any _ W hf
  have CQ := fun W => part_any (Pk.mk a b x y o t q s d l) W
  cases y
  · exact walk_false a b o t q s d x (bs B) (bs l) _ _ w hg (hide CU) (hide CB) (hide DB) (hide CC) (hide DC) (hide CQ) (hide fixed_true)
  · exact walk_true a b o t q s d x (bs B) (bs l) _ _ w hg (hide CU) (hide CB) (hide DB) (hide CC) (hide DC) (hide CQ) (hide fixed_true)
set_option maxRecDepth 100000 in
theorem lifted (os : Os) (started : os.Started) (H : Type) (enc : TypeId × Value → H) :
    ReturnsInHanded {} Tryd.checked os 3 .any (fun w args => (Rows.inetBuildsSpec.pre enc Tryd.prog Tryd.f3 [] false w args ∧ laidMetH Tryd.prog [("errors.errorType", Rows.laid_errors_errorType)] w) ∧ sizedMet enc Tryd.prog Tryd.f3 (OpenSpec.ofChange Rows.inetBuildsSpec) false w args)
      (Rows.inetBuildsSpec.post enc Tryd.prog Tryd.f3 false true false false) := by
  refine returnsInHanded_of_change_and (C := Tryd.checked) (X := fun w _ => laidMetH Tryd.prog [("errors.errorType", Rows.laid_errors_errorType)] w) (fun _ _ _ hh h => h.of_heap hh) own started (by kernel_rfl) Tryd.func3
    (ChangeSpec.witness_at (enc := enc) (C := Tryd.checked) (os := os) (X := fun w _ => laidMetH Tryd.prog [("errors.errorType", Rows.laid_errors_errorType)] w) false
      { World.holding Tryd.prog os ⟨#[], #[], []⟩ with heap := (World.holding Tryd.prog os ⟨#[], #[], []⟩).heap.modify 0 fun
        | .cells _ t frozen => .cells #[.iface 89 (.agg #[.pointer (some ⟨1, 41, none⟩)])] t frozen
        | o => o } #[.agg #[.int .i64 0, .int .i64 0, .bool false, .bool false, .int .i64 0, .int .i64 0, .int .i64 0, .int .u32 0, .int .u32 0, .string ByteArray.empty]] 8 rfl (by kernel_rfl) (by kernel_rfl) (by kernel_rfl) (by kernel_rfl) (by kernel_rfl) (laid_met os _)) ?_
  intro W base args ds gs before hval0 hW _ _ hL _
  have hval : ∀ (j : Nat) t v, Tryd.f3.params[j]? = some t → args[j]? = some v → Value.okWide Tryd.prog W .any base t v := hval0
  have hW' := hW
  obtain ⟨p, q, hA0, hV0, rfl, hfz, hnd⟩ := hW
  have hA : DataW.TrodAll enc Tryd.prog W 0 (fun _ => true) true Tryd.f3.params.toList args.toList ds p := hA0
  have hV : DataW.TrodVars enc Tryd.prog W (fun _ => true) [] gs q := hV0
  rw [Tryd.params3] at hA hval
  obtain ⟨v0, d0, rfl, rfl, h0⟩ := trodAll_one hA
  obtain ⟨a0, rfl, rfl, rfl, hs0, hd0, hw0⟩ := open_ip (hval 0 24 v0 rfl rfl) h0
  obtain ⟨rfl, rfl⟩ := trodVars_none hV
  have e1 : Rows.inetBuildsSpec.fn H ([ipD a0] ++ []) = { results := [.lit (.bool true)], args := [ipD a0] } := by simp [Rows.inetBuildsSpec]
  refine (walk a0 W (et_of_laid hL) hs0 hd0).mono fun e W' ⟨he, hb⟩ => ?_
  subst he
  refine ⟨_, rfl, _, _, _, [], [], [], hW', ?_, ?_, ?_, hb.frame _, fun h => by cases h⟩
  · rw [e1]; exact trodAll_mk1 (shut_bool Tryd.underlying4 true)
  · rw [e1]; exact trodAll_mk1 (shut_ip a0 hw0)
  · rw [e1]; rfl

theorem said : Rows.InetBuildsSaid :=
  OpenClaim.holds_of_wide 3 Tryd.f3 rfl rfl rfl rfl rfl rfl rfl ⟨rfl, rfl, rfl, rfl, rfl⟩ rfl rfl rfl rfl rfl (by kernel_rfl) Tryd.func3 (by kernel_rfl)
    (of_decide_eq_true (by kernel_rfl)) (by unfold Func.isWrapper; rw [if_neg (of_decide_eq_false (by kernel_rfl))]; exact ⟨rfl, rfl⟩)
    (fun os started H enc _ => lifted os started H enc)

theorem plain (f : FuncId) (fn : Func) (hf : Tryd.pinned.checked.prog.funcNamed Rows.inetBuildsRow.func = some f) (hfn : Tryd.pinned.checked.prog.funcs[f]? = some fn) :
    true = Tryd.pinned.checked.prog.looks [] ∧ ∀ (j : Nat) t, fn.params[j]? = some t → Tryd.pinned.checked.prog.wantsStandIn t = false := by
  obtain rfl : f = 3 := Option.some.inj ((show Tryd.prog.funcNamed Rows.inetBuildsRow.func = some 3 by kernel_rfl).symm.trans hf) |>.symm
  obtain rfl : fn = Tryd.f3 := (Option.some.inj (Tryd.func3.symm.trans hfn)).symm
  refine ⟨by kernel_rfl, fun j t ht => ?_⟩
  rw [Tryd.params3] at ht
  have hm := Array.mem_of_getElem? ht
  simp only [List.mem_toArray, List.mem_cons, List.not_mem_nil, or_false] at hm
  subst hm
  · exact (show Tryd.prog.wantsStandIn 24 = false by kernel_rfl)

theorem card : Rows.InetBuildsCardSaid :=
  Claim7.holds_tied_plain_at .later [] _ _ _ _ said (fun _ h => by cases h) (by kernel_rfl) (fun _ h => by cases h) inetBuilds_row_tie rfl ⟨rfl, rfl⟩ (by kernel_rfl) rfl plain (by kernel_rfl)
end Go.Proofs.YtojipoifjioglaaDoor.inetBuilds
namespace Go.Proofs.YtojipoifjioglaaDoor
theorem inetBuilds_card_holds : Rows.InetBuildsCardSaid := inetBuilds.card
end Go.Proofs.YtojipoifjioglaaDoor
