/-
  Proved: whether any message may be, and its bytes, is as the document says, and the arguments read afterwards as before. Conditions: errors.errorType holds what the program's own text lays (tied by the card; the walk asks nothing of it).
-/
import Derived.Test.YtchgmbbcfjfhoaaDoorRow9
import Derived.Test.YtchgmbbcfjfhoaaDoorFixed9
import Derived.Test.YtchgmbbcfjfhoaaDoorRef9b
namespace Go.Proofs.YtchgmbbcfjfhoaaDoor.bpduBuilds
open Go.ChangeShapes Go.WideShapes Go.ChangeAt Go.RowKit Go.Sort
open Go.ChangeMaps (open_string shut_string)

set_option maxRecDepth 100000 in
set_option maxHeartbeats 4000000 in
theorem walk_at (k : Int) (c p l f a x : Bool) (r R C B P A M H D : Int) (E : Int) (X : ByteArray) (w : World)
    (CB : Hid (∀ W, Calls Tryd.prog 9 #[.agg #[.int .i64 k, .bool c, .bool p, .bool l, .bool f, .bool a, .bool x, .int .i64 r, .int .u64 R, .int .i64 C, .int .u64 B, .int .i64 P, .int .i64 A, .int .i64 M, .int .i64 H, .int .i64 D]] W fun e W' => e = .returned (.tuple #[.string X, .int .i64 E]) ∧ Below W.heap.size W W'))
    (RB : Hid (∀ W, Calls Tryd.prog 10 #[.agg #[.int .i64 k, .bool c, .bool p, .bool l, .bool f, .bool a, .bool x, .int .i64 r, .int .u64 R, .int .i64 C, .int .u64 B, .int .i64 P, .int .i64 A, .int .i64 M, .int .i64 H, .int .i64 D]] W fun e W' => e = .returned (.tuple #[.string X, .int .i64 E]) ∧ Below W.heap.size W W'))
    (CF : Hid (∀ W, Calls Tryd.prog 11 #[] W fun e W' => e = .returned (.bool true) ∧ Below W.heap.size W W'))
    (CC : Hid (∀ W, Calls Tryd.prog 12 #[.agg #[.int .i64 k, .bool c, .bool p, .bool l, .bool f, .bool a, .bool x, .int .i64 r, .int .u64 R, .int .i64 C, .int .u64 B, .int .i64 P, .int .i64 A, .int .i64 M, .int .i64 H, .int .i64 D]] W fun e W' => e = .returned (.int .i64 E) ∧ Below W.heap.size W W'))
    (RC : Hid (∀ W, Calls Tryd.prog 13 #[.agg #[.int .i64 k, .bool c, .bool p, .bool l, .bool f, .bool a, .bool x, .int .i64 r, .int .u64 R, .int .i64 C, .int .u64 B, .int .i64 P, .int .i64 A, .int .i64 M, .int .i64 H, .int .i64 D]] W fun e W' => e = .returned (.int .i64 E) ∧ Below W.heap.size W W')) :
    Calls Tryd.prog 3 #[.agg #[.int .i64 k, .bool c, .bool p, .bool l, .bool f, .bool a, .bool x, .int .i64 r, .int .u64 R, .int .i64 C, .int .u64 B, .int .i64 P, .int .i64 A, .int .i64 M, .int .i64 H, .int .i64 D]] w fun e w' => e = .returned (.bool true) ∧ Below w.heap.size w w' := by
  go_enter Tryd.func3, Tryd.ntmps3
  go_wp2_with fail
  refine (unhide CB _).mono ?_
  rintro e w1 ⟨rfl, b1⟩
  clear CB
  have h1 := hide (bthen (alloc_below w _) b1)
  have r1 := Below.row b1 (heap_alloc_new w _)
  have R1 := hide r1
  obtain ⟨c0, c1, c2, c3, c4, c5, c6, c7, c8, c9, c10, c11, c12, c13, c14, c15, _⟩ := cells16 r1
  clear b1 r1
  go_wp2_with fail
  refine (unhide RB _).mono ?_
  rintro e w2 ⟨rfl, b2⟩
  clear RB
  clear c0 c1 c2 c3 c4 c5 c6 c7 c8 c9 c10 c11 c12 c13 c14 c15
  have h2 := hide (bthen (unhide h1) b2)
  have R2 := hide (row_regrown (Below.row b2 (unhide R1)))
  clear b2 h1 R1
  go_wp2_with fail
  have dF := at_grown (unhide CF) w2
  have dC := at_grown (unhide CC) w2
  have dR := at_grown (unhide RC) w2
  clear CF CC RC
  refine wp_region_quiet_below (by kernel_rfl) (by kernel_rfl) ?_
  repeat (first | (go_big_quiet_want; refine quiet_load_row 24 _ rfl w.heap.size rfl 24 _ _ _ (unhide R2) Tryd.underlying24 rfl (by kernel_rfl) ?_; simp only [Act.put, List.setIfInBounds_toArray, List.set_cons_zero, List.set_cons_succ]; go_big_quiet_on) | (go_big_quiet_step (first | (go_at_call 11; exact dF _ _) | (go_at_call 12; exact dC _ _) | (go_at_call 13; exact dR _ _))))
  refine wpQuiet_nil ?_
  rintro _ ⟨⟨dq, osq⟩, rfl⟩
  have hb := grown_then (unhide h2) dq osq
  generalize grow (redrawn w2 dq) osq = w3 at *
  go_wp2_with fail
  go_ret
  exact ⟨rfl, hb⟩
theorem walk (b : Bp) (w : World) (hf : b.fits) :
    Calls Tryd.prog 3 #[b.val] w fun e w' => e = .returned (.bool true) ∧ Below w.heap.size w w' := by
  exact walk_at b.kind b.change b.propose b.learn b.forward b.agree b.ack b.role b.root b.cost b.bridge b.port b.age b.maxAge b.hello b.delay _ _ w (hide fun W => bpBuild_any b W hf) (hide fun W => rbuild_any b W hf) (hide fun W => fixed_true W) (hide fun W => bpCheck_any b W) (hide fun W => rcheck_any b W)
set_option maxRecDepth 100000 in
theorem lifted (os : Os) (started : os.Started) (H : Type) (enc : TypeId × Value → H) :
    ReturnsInHanded {} Tryd.checked os 3 .any (fun w args => (Rows.bpduBuildsSpec.pre enc Tryd.prog Tryd.f3 [] false w args ∧ laidMetH Tryd.prog [("errors.errorType", Rows.laid_errors_errorType)] w) ∧ sizedMet enc Tryd.prog Tryd.f3 (OpenSpec.ofChange Rows.bpduBuildsSpec) false w args)
      (Rows.bpduBuildsSpec.post enc Tryd.prog Tryd.f3 false true false false) := by
  refine returnsInHanded_of_change_and (C := Tryd.checked) (X := fun w _ => laidMetH Tryd.prog [("errors.errorType", Rows.laid_errors_errorType)] w) (fun _ _ _ hh h => h.of_heap hh) own started (by kernel_rfl) Tryd.func3
    (ChangeSpec.witness_at (enc := enc) (C := Tryd.checked) (os := os) (X := fun w _ => laidMetH Tryd.prog [("errors.errorType", Rows.laid_errors_errorType)] w) false
      { World.holding Tryd.prog os ⟨#[], #[], []⟩ with heap := (World.holding Tryd.prog os ⟨#[], #[], []⟩).heap.modify 0 fun
        | .cells _ t frozen => .cells #[.iface 111 (.agg #[.pointer (some ⟨1, 61, none⟩)])] t frozen
        | o => o } #[.agg #[.int .i64 0, .bool false, .bool false, .bool false, .bool false, .bool false, .bool false, .int .i64 0, .int .u64 0, .int .i64 0, .int .u64 0, .int .i64 0, .int .i64 0, .int .i64 0, .int .i64 0, .int .i64 0]] 8 rfl (by kernel_rfl) (by kernel_rfl) (by kernel_rfl) (by kernel_rfl) (by kernel_rfl) (laid_met os _)) ?_
  intro W base args ds gs before hval0 hW _ _ _ _
  have hval : ∀ (j : Nat) t v, Tryd.f3.params[j]? = some t → args[j]? = some v → Value.okWide Tryd.prog W .any base t v := hval0
  have hW' := hW
  obtain ⟨p, q, hA0, hV0, rfl, hfz, hnd⟩ := hW
  have hA : DataW.TrodAll enc Tryd.prog W 0 (fun _ => true) true Tryd.f3.params.toList args.toList ds p := hA0
  have hV : DataW.TrodVars enc Tryd.prog W (fun _ => true) [] gs q := hV0
  rw [Tryd.params3] at hA hval
  obtain ⟨v0, d0, rfl, rfl, h0⟩ := trodAll_one hA
  obtain ⟨a0, rfl, rfl, rfl, hw0, hf0⟩ := open_bp (hval 0 24 v0 rfl rfl) h0
  obtain ⟨rfl, rfl⟩ := trodVars_none hV
  have e1 : Rows.bpduBuildsSpec.fn H ([bpD a0] ++ []) = { results := [.lit (.bool true)], args := [bpD a0] } := by simp [Rows.bpduBuildsSpec]
  refine (walk a0 W hf0).mono fun e W' ⟨he, hb⟩ => ?_
  subst he
  refine ⟨_, rfl, _, _, _, [], [], [], hW', ?_, ?_, ?_, hb.frame _, fun h => by cases h⟩
  · rw [e1]; exact trodAll_mk1 (shut_bool Tryd.underlying4 true)
  · rw [e1]; exact trodAll_mk1 (shut_bp a0 hw0)
  · rw [e1]; rfl

theorem said : Rows.BpduBuildsSaid :=
  OpenClaim.holds_of_wide 3 Tryd.f3 rfl rfl rfl rfl rfl rfl rfl ⟨rfl, rfl, rfl, rfl, rfl⟩ rfl rfl rfl rfl rfl (by kernel_rfl) Tryd.func3 (by kernel_rfl)
    (of_decide_eq_true (by kernel_rfl)) (by unfold Func.isWrapper; rw [if_neg (of_decide_eq_false (by kernel_rfl))]; exact ⟨rfl, rfl⟩)
    (fun os started H enc _ => lifted os started H enc)

theorem plain (f : FuncId) (fn : Func) (hf : Tryd.pinned.checked.prog.funcNamed Rows.bpduBuildsRow.func = some f) (hfn : Tryd.pinned.checked.prog.funcs[f]? = some fn) :
    true = Tryd.pinned.checked.prog.looks [] ∧ ∀ (j : Nat) t, fn.params[j]? = some t → Tryd.pinned.checked.prog.wantsStandIn t = false := by
  obtain rfl : f = 3 := Option.some.inj ((show Tryd.prog.funcNamed Rows.bpduBuildsRow.func = some 3 by kernel_rfl).symm.trans hf) |>.symm
  obtain rfl : fn = Tryd.f3 := (Option.some.inj (Tryd.func3.symm.trans hfn)).symm
  refine ⟨by kernel_rfl, fun j t ht => ?_⟩
  rw [Tryd.params3] at ht
  have hm := Array.mem_of_getElem? ht
  simp only [List.mem_toArray, List.mem_cons, List.not_mem_nil, or_false] at hm
  subst hm
  · exact (show Tryd.prog.wantsStandIn 24 = false by kernel_rfl)

theorem card : Rows.BpduBuildsCardSaid :=
  Claim7.holds_tied_plain_at .later [] _ _ _ _ said (fun _ h => by cases h) (by kernel_rfl) (fun _ h => by cases h) bpduBuilds_row_tie rfl ⟨rfl, rfl⟩ (by kernel_rfl) rfl plain (by kernel_rfl)
end Go.Proofs.YtchgmbbcfjfhoaaDoor.bpduBuilds
namespace Go.Proofs.YtchgmbbcfjfhoaaDoor
theorem bpduBuilds_card_holds : Rows.BpduBuildsCardSaid := bpduBuilds.card
end Go.Proofs.YtchgmbbcfjfhoaaDoor
