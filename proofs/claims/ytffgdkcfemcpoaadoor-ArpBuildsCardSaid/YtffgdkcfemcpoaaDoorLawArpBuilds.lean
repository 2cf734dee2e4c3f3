/-
  gangwaylaw05.ArpBuilds answers true, for every message and bytes.
-/
import Derived.Test.YtffgdkcfemcpoaaDoorRow5
import Derived.Test.YtffgdkcfemcpoaaDoorRef5b
namespace Go.Proofs.YtffgdkcfemcpoaaDoor.arpBuilds
open Go.ChangeShapes Go.WideShapes Go.ChangeAt Go.RowKit Go.Sort
open Go.ChangeMaps (open_string shut_string)

set_option maxRecDepth 100000 in
set_option maxHeartbeats 4000000 in
theorem walk_at (op q i t j op2 q2 i2 t2 j2 k c : Int) (x X T : ByteArray) (m : Nat) (w : World)
    (mx : ∀ (ts : Array TypeId) (t : TypeId) (W : World), (Builtin.min_ ts t #[.int .i64 (x.size : Int), .int .i64 100]).run Tryd.prog W = .ok (.int .i64 (m : Int)) W)
    (sx : ∀ W : World, (Instr.slice 9 (.string x) none (some (.int .i64 (m : Int))) none).run Tryd.prog W = .ok (.string X) W)
    (CB : Hid (∀ W, Calls Tryd.prog 7 #[.agg #[.int .i64 op, .int .u64 q, .int .u32 i, .int .u64 t, .int .u32 j]] W fun e W' => e = .returned (.tuple #[.string T, .int .i64 k]) ∧ Below W.heap.size W W'))
    (DB : Hid (∀ W, Calls Tryd.prog 8 #[.agg #[.int .i64 op, .int .u64 q, .int .u32 i, .int .u64 t, .int .u32 j]] W fun e W' => e = .returned (.tuple #[.string T, .int .i64 k]) ∧ Below W.heap.size W W'))
    (CP : Hid (∀ W, Calls Tryd.prog 9 #[.string X] W fun e W' => e = .returned (.tuple #[.agg #[.int .i64 op2, .int .u64 q2, .int .u32 i2, .int .u64 t2, .int .u32 j2], .int .i64 c]) ∧ Below W.heap.size W W'))
    (DP : Hid (∀ W, Calls Tryd.prog 10 #[.string X] W fun e W' => e = .returned (.tuple #[.agg #[.int .i64 op2, .int .u64 q2, .int .u32 i2, .int .u64 t2, .int .u32 j2], .int .i64 c]) ∧ Below W.heap.size W W'))
    (CC : Hid (∀ W, Calls Tryd.prog 12 #[.agg #[.int .i64 op, .int .u64 q, .int .u32 i, .int .u64 t, .int .u32 j]] W fun e W' => e = .returned (.int .i64 k) ∧ Below W.heap.size W W'))
    (DC : Hid (∀ W, Calls Tryd.prog 13 #[.agg #[.int .i64 op, .int .u64 q, .int .u32 i, .int .u64 t, .int .u32 j]] W fun e W' => e = .returned (.int .i64 k) ∧ Below W.heap.size W W')) :
    Calls Tryd.prog 3 #[.agg #[.int .i64 op, .int .u64 q, .int .u32 i, .int .u64 t, .int .u32 j], .string x] w fun e w' => e = .returned (.bool true) ∧ Below w.heap.size w w' := by
  have same := same_arp op2 q2 i2 t2 j2
  go_enter Tryd.func3, Tryd.ntmps3
  go_wp2_with fail
  refine (unhide CB _).mono ?_
  rintro e w1 ⟨rfl, b1⟩
  have h1 := bthen (alloc_below w _) b1
  have r1 := Below.row b1 (heap_alloc_new w _)
  obtain ⟨c0, c1, c2, c3, c4, _⟩ := cells5 r1
  clear b1 CB
  go_wp2_with fail
  refine (unhide DB _).mono ?_
  rintro e w2 ⟨rfl, b2⟩
  have h2 := bthen h1 b2
  have r2 := Below.row b2 r1
  clear b2 DB h1 r1 c0 c1 c2 c3 c4
  go_wp2_with fail
  refine (unhide CP _).mono ?_
  rintro e w3 ⟨rfl, b3⟩
  have h3 := alloc_then (o := .cells #[.int .i64 op2, .int .u64 q2, .int .u32 i2, .int .u64 t2, .int .u32 j2] 25) (bthen h2 b3)
  have r3 := Below.row (alloc_below w3 (.cells #[.int .i64 op2, .int .u64 q2, .int .u32 i2, .int .u64 t2, .int .u32 j2] 25)) (Below.row b3 r2)
  have p3 := heap_alloc_new w3 (.cells #[.int .i64 op2, .int .u64 q2, .int .u32 i2, .int .u64 t2, .int .u32 j2] 25)
  clear b3 CP h2 r2
  go_wp2_with fail
  refine (unhide DP _).mono ?_
  rintro e w4 ⟨rfl, b4⟩
  have h4 := alloc_then (o := .cells #[.int .i64 op2, .int .u64 q2, .int .u32 i2, .int .u64 t2, .int .u32 j2] 25) (bthen h3 b4)
  have r4 := Below.row (alloc_below w4 (.cells #[.int .i64 op2, .int .u64 q2, .int .u32 i2, .int .u64 t2, .int .u32 j2] 25)) (Below.row b4 r3)
  have p4 := Below.row (alloc_below w4 (.cells #[.int .i64 op2, .int .u64 q2, .int .u32 i2, .int .u64 t2, .int .u32 j2] 25)) (Below.row b4 p3)
  have o4 := heap_alloc_new w4 (.cells #[.int .i64 op2, .int .u64 q2, .int .u32 i2, .int .u64 t2, .int .u32 j2] 25)
  clear b4 DP h3 r3 p3
  generalize w3.heap.size = G at *
  go_wp2_with fail
  generalize w4.heap.size = K at *
  generalize w4.alloc (.cells #[.int .i64 op2, .int .u64 q2, .int .u32 i2, .int .u64 t2, .int .u32 j2] 25) = w5 at *
  obtain ⟨a0, a1, a2, a3, a4, _⟩ := cells5 r4
  obtain ⟨c0, c1, c2, c3, c4, _⟩ := cells5 p4
  obtain ⟨d0, d1, d2, d3, d4, _⟩ := cells5 o4
  have cF := at_grown fixed_true w5
  have cC := at_grown (unhide CC) w5
  have cD := at_grown (unhide DC) w5
  replace a0 := cell_regrown a0
  replace a1 := cell_regrown a1
  replace a2 := cell_regrown a2
  replace a3 := cell_regrown a3
  replace a4 := cell_regrown a4
  replace c0 := cell_regrown c0
  replace c1 := cell_regrown c1
  replace c2 := cell_regrown c2
  replace c3 := cell_regrown c3
  replace c4 := cell_regrown c4
  replace d0 := cell_regrown d0
  replace d1 := cell_regrown d1
  replace d2 := cell_regrown d2
  replace d3 := cell_regrown d3
  replace d4 := cell_regrown d4
  clear CC DC r4 p4 o4
  refine wp_region_quiet_below (by kernel_rfl) (by kernel_rfl) ?_
  repeat (go_big_quiet_step (first | (go_at_call 11; exact cF _ _) | (go_at_call 12; exact cC _ _) | (go_at_call 13; exact cD _ _)))
  refine wpQuiet_nil ?_
  rintro _ ⟨⟨dq, osq⟩, rfl⟩
  go_wp2
  go_ret
  exact ⟨rfl, grown_then h4 dq osq⟩
theorem walk (a : Ar) (x : ByteArray) (w : World) (h : a.fits) (_ : x.size ≤ maxLen) :
    Calls Tryd.prog 3 #[a.val, .string x] w fun e w' => e = .returned (.bool true) ∧ Below w.heap.size w w' := by
  obtain ⟨m, l, hl, mx, sx⟩ := firstN 100 x
  exact walk_at a.op a.smac a.sip a.tmac a.tip _ _ _ _ _ a.check _ x (bs l) _ m w mx sx (hide fun W => arpBuild_any a W h) (hide fun W => rbuild_any a W h) (hide fun W => arpParse_any l W (by omega)) (hide fun W => rparse_any l W (by omega)) (hide fun W => arpCheck_any a W h) (hide fun W => rcheck_any a W h)
set_option maxRecDepth 100000 in
theorem lifted (os : Os) (started : os.Started) (H : Type) (enc : TypeId × Value → H) :
    ReturnsInHanded {} Tryd.checked os 3 .any (fun w args => (Rows.arpBuildsSpec.pre enc Tryd.prog Tryd.f3 [] false w args ∧ laidMetH Tryd.prog [("errors.errorType", Rows.laid_errors_errorType)] w) ∧ sizedMet enc Tryd.prog Tryd.f3 (OpenSpec.ofChange Rows.arpBuildsSpec) false w args)
      (Rows.arpBuildsSpec.post enc Tryd.prog Tryd.f3 false true false false) := by
  refine returnsInHanded_of_change_and (C := Tryd.checked) (X := fun w _ => laidMetH Tryd.prog [("errors.errorType", Rows.laid_errors_errorType)] w) (fun _ _ _ hh h => h.of_heap hh) own started (by kernel_rfl) Tryd.func3
    (ChangeSpec.witness_at (enc := enc) (C := Tryd.checked) (os := os) (X := fun w _ => laidMetH Tryd.prog [("errors.errorType", Rows.laid_errors_errorType)] w) false
      { World.holding Tryd.prog os ⟨#[], #[], []⟩ with heap := (World.holding Tryd.prog os ⟨#[], #[], []⟩).heap.modify 0 fun
        | .cells _ t frozen => .cells #[.iface 104 (.agg #[.pointer (some ⟨1, 56, none⟩)])] t frozen
        | o => o } #[.agg #[.int .i64 0, .int .u64 0, .int .u32 0, .int .u64 0, .int .u32 0], .string ByteArray.empty] 8 rfl (by kernel_rfl) (by kernel_rfl) (by kernel_rfl) (by kernel_rfl) (by kernel_rfl) (laid_met os _)) ?_
  intro W base args ds gs before hval0 hW _ _ _ _
  have hval : ∀ (j : Nat) t v, Tryd.f3.params[j]? = some t → args[j]? = some v → Value.okWide Tryd.prog W .any base t v := hval0
  have hW' := hW
  obtain ⟨p, q, hA0, hV0, rfl, hfz, hnd⟩ := hW
  have hA : DataW.TrodAll enc Tryd.prog W 0 (fun _ => true) true Tryd.f3.params.toList args.toList ds p := hA0
  have hV : DataW.TrodVars enc Tryd.prog W (fun _ => true) [] gs q := hV0
  rw [Tryd.params3] at hA hval
  obtain ⟨v0, v1, d0, d1, p0, p1, rfl, rfl, rfl, h0, h1⟩ := trodAll_two hA
  obtain ⟨a0, rfl, rfl, rfl, hf0, hw0⟩ := open_arp (hval 0 25 v0 rfl rfl) h0
  obtain ⟨a1, rfl, rfl, rfl, w1⟩ := open_string Tryd.underlying9 (hval 1 9 v1 rfl rfl) h1
  obtain ⟨rfl, rfl⟩ := trodVars_none hV
  have e1 : Rows.arpBuildsSpec.fn H ([arpD a0, .lit (.string a1.data.toList)] ++ []) = { results := [.lit (.bool true)], args := [arpD a0, .lit (.string a1.data.toList)] } := by simp [Rows.arpBuildsSpec]
  refine (walk a0 a1 W hf0 w1).mono fun e W' ⟨he, hb⟩ => ?_
  subst he
  refine ⟨_, rfl, _, _, _, [], [], [], hW', ?_, ?_, ?_, hb.frame _, fun h => by cases h⟩
  · rw [e1]; exact trodAll_mk1 (shut_bool Tryd.underlying4 true)
  · rw [e1]; exact trodAll_mk2 (shut_arp a0 hw0) (shut_string Tryd.underlying9 w1)
  · rw [e1]; rfl

theorem said : Rows.ArpBuildsSaid :=
  OpenClaim.holds_of_wide 3 Tryd.f3 rfl rfl rfl rfl rfl rfl rfl ⟨rfl, rfl, rfl, rfl, rfl⟩ rfl rfl rfl rfl rfl (by kernel_rfl) Tryd.func3 (by kernel_rfl)
    (of_decide_eq_true (by kernel_rfl)) (by unfold Func.isWrapper; rw [if_neg (of_decide_eq_false (by kernel_rfl))]; exact ⟨rfl, rfl⟩)
    (fun os started H enc _ => lifted os started H enc)

theorem plain (f : FuncId) (fn : Func) (hf : Tryd.pinned.checked.prog.funcNamed Rows.arpBuildsRow.func = some f) (hfn : Tryd.pinned.checked.prog.funcs[f]? = some fn) :
    true = Tryd.pinned.checked.prog.looks [] ∧ ∀ (j : Nat) t, fn.params[j]? = some t → Tryd.pinned.checked.prog.wantsStandIn t = false := by
  obtain rfl : f = 3 := Option.some.inj ((show Tryd.prog.funcNamed Rows.arpBuildsRow.func = some 3 by kernel_rfl).symm.trans hf) |>.symm
  obtain rfl : fn = Tryd.f3 := (Option.some.inj (Tryd.func3.symm.trans hfn)).symm
  refine ⟨by kernel_rfl, fun j t ht => ?_⟩
  rw [Tryd.params3] at ht
  have hm := Array.mem_of_getElem? ht
  simp only [List.mem_toArray, List.mem_cons, List.not_mem_nil, or_false] at hm
  rcases hm with rfl | rfl
  · exact (show Tryd.prog.wantsStandIn 25 = false by kernel_rfl)
  · exact (show Tryd.prog.wantsStandIn 9 = false by kernel_rfl)

theorem card : Rows.ArpBuildsCardSaid :=
  Claim7.holds_tied_plain_at .later [] _ _ _ _ said (fun _ h => by cases h) (by kernel_rfl) (fun _ h => by cases h) arpBuilds_row_tie rfl ⟨rfl, rfl⟩ (by kernel_rfl) rfl plain (by kernel_rfl)
end Go.Proofs.YtffgdkcfemcpoaaDoor.arpBuilds
namespace Go.Proofs.YtffgdkcfemcpoaaDoor
theorem arpBuilds_card_holds : Rows.ArpBuildsCardSaid := arpBuilds.card
end Go.Proofs.YtffgdkcfemcpoaaDoor
