/-
  Proved: for every two addresses and datagram (of a body cut to 1700 bytes), gangwaylaw07.UdpBuilds answers true (whether it may be, and its bytes between these addresses, are the document's, P7.1), and the arguments read afterwards as before. Conditions: errors.errorType holds what the program's own text lays (tied by the card; the walk asks nothing of it).
-/
import Derived.Test.YtcgilcofcjehmaaDoorRow7
import Derived.Test.YtcgilcofcjehmaaDoorRef7b
namespace Go.Proofs.YtcgilcofcjehmaaDoor.udpBuilds
open Go.ChangeShapes Go.WideShapes Go.ChangeAt Go.RowKit Go.Sort
open Go.ChangeMaps (open_string shut_string)

set_option maxRecDepth 100000 in
set_option maxHeartbeats 4000000 in
theorem walk_at (s d : Nat) (a b : Int) (x : Bool) (B X T : ByteArray) (k : Int) (w : World)
    (CU : Hid (∀ W, Calls Tryd.prog 8 #[.agg #[.int .i64 a, .int .i64 b, .bool x, .string B]] W fun e W' => e = .returned (.agg #[.int .i64 a, .int .i64 b, .bool x, .string X]) ∧ Below W.heap.size W W'))
    (CB : Hid (∀ W, Calls Tryd.prog 9 #[.int .u32 (s : Int), .int .u32 (d : Int), .agg #[.int .i64 a, .int .i64 b, .bool x, .string X]] W fun e W' => e = .returned (.tuple #[.string T, .int .i64 k]) ∧ Below W.heap.size W W'))
    (CR : Hid (∀ W, Calls Tryd.prog 10 #[.int .u32 (s : Int), .int .u32 (d : Int), .agg #[.int .i64 a, .int .i64 b, .bool x, .string X]] W fun e W' => e = .returned (.tuple #[.string T, .int .i64 k]) ∧ Below W.heap.size W W'))
    (CK : Hid (∀ W, Calls Tryd.prog 12 #[.agg #[.int .i64 a, .int .i64 b, .bool x, .string X]] W fun e W' => e = .returned (.int .i64 k) ∧ Below W.heap.size W W'))
    (CL : Hid (∀ W, Calls Tryd.prog 13 #[.agg #[.int .i64 a, .int .i64 b, .bool x, .string X]] W fun e W' => e = .returned (.int .i64 k) ∧ Below W.heap.size W W'))
    (CF : Hid (∀ W, Calls Tryd.prog 11 #[] W fun e W' => e = .returned (.bool true) ∧ Below W.heap.size W W')) :
    Calls Tryd.prog 3 #[.agg #[.int .u32 (s : Int), .int .u32 (d : Int)], .agg #[.int .i64 a, .int .i64 b, .bool x, .string B]] w fun e w' => e = .returned (.bool true) ∧ Below w.heap.size w w' := by
  go_enter Tryd.func3, Tryd.ntmps3
  go_wp2_with fail
  refine (unhide CU _).mono ?_
  rintro e w1 ⟨rfl, b1⟩
  have h1 := bthen (alloc_then (alloc_below w (.cells #[.int .u32 (s : Int), .int .u32 (d : Int)] 24))) b1
  have u1 := Below.row b1 (heap_alloc2_new w (.cells #[.int .u32 (s : Int), .int .u32 (d : Int)] 24) _)
  have o1 := Below.row b1 (heap_alloc2_old w (.cells #[.int .u32 (s : Int), .int .u32 (d : Int)] 24) _)
  obtain ⟨c0, c1, c2, c3, f0, f1, f2, f3⟩ := cells4 u1
  have h2 := below4 (v0 := .int .i64 a) (v1 := .int .i64 b) (v2 := .bool x) (v3 := .string X) h1 (Nat.le_succ _)
  have u2 := set4 (v0 := .int .i64 a) (v1 := .int .i64 b) (v2 := .bool x) (v3 := .string X) u1
  have o2 := other4 (v0 := .int .i64 a) (v1 := .int .i64 b) (v2 := .bool x) (v3 := .string X) (Nat.ne_of_lt (Nat.lt_succ_self w.heap.size)) o1
  obtain ⟨p0, p1, _⟩ := cells2 o2
  clear b1 CU
  go_wp2_with fail
  generalize ((((w1.setCell ⟨w.heap.size + 1, 0, none⟩ (.int .i64 a)).setCell ⟨w.heap.size + 1, 1, none⟩ (.int .i64 b)).setCell ⟨w.heap.size + 1, 2, none⟩ (.bool x)).setCell ⟨w.heap.size + 1, 3, none⟩ (.string X)) = w2 at *
  clear h1 u1 o1 c0 c1 c2 c3 f0 f1 f2 f3 p0 p1
  refine (unhide CB _).mono ?_
  rintro e w3 ⟨rfl, b3⟩
  have h3 := bthen h2 b3
  have u3 := Below.row b3 u2
  have o3 := Below.row b3 o2
  clear b3 CB h2 u2 o2
  obtain ⟨p0, p1, _⟩ := cells2 o3
  obtain ⟨c0, c1, c2, c3, _⟩ := cells4 u3
  go_wp2_with fail
  refine (unhide CR _).mono ?_
  rintro e w4 ⟨rfl, b4⟩
  have h4 := bthen h3 b4
  have u4 := Below.row b4 u3
  clear b4 CR h3 u3 o3 p0 p1 c0 c1 c2 c3
  go_wp2_with fail
  obtain ⟨c0, c1, c2, c3, _⟩ := cells4 u4
  replace c0 := cell_regrown c0
  replace c1 := cell_regrown c1
  replace c2 := cell_regrown c2
  replace c3 := cell_regrown c3
  have cF := at_grown (unhide CF) w4
  have cK := at_grown (unhide CK) w4
  have cL := at_grown (unhide CL) w4
  clear CF CK CL u4
  refine wp_region_quiet_below (by kernel_rfl) (by kernel_rfl) ?_
  repeat (go_big_quiet_step (first | (go_at_call 11; exact cF _ _) | (go_at_call 12; exact cK _ _) | (go_at_call 13; exact cL _ _)))
  refine wpQuiet_nil ?_
  rintro _ ⟨⟨dr, osr⟩, rfl⟩
  go_wp2
  go_ret
  exact ⟨rfl, grown_then h4 dr osr⟩
theorem walk (s d : Nat) (u : Ud) (w : World) (hs : s < 4294967296) (hd : d < 4294967296) :
    Calls Tryd.prog 3 #[.agg #[.int .u32 (s : Int), .int .u32 (d : Int)], u.val] w fun e w' => e = .returned (.bool true) ∧ Below w.heap.size w w' := by
  obtain ⟨m, l, hl, mx, sx⟩ := firstN 1700 (bs u.body)
  obtain ⟨a, b, x, B⟩ := u
  have CU := fun W => cut_any a b x (bs B) (bs l) m W mx sx
  have CK := fun W => udpCheck_any (Ud.mk a b x l) W hl
  have CL := fun W => rcheck_any (Ud.mk a b x l) W hl
  by_cases hc : (Ud.mk a b x l).check = 0
  · have CB := fun W => udpBuild_ok (Ud.mk a b x l) s d W hl hs hd hc
    have CR := fun W => rbuild_ok (Ud.mk a b x l) s d W hl hs hd hc
    rw [hc] at CK CL
    exact walk_at s d a b x (bs B) (bs l) _ _ w (hide CU) (hide CB) (hide CR) (hide CK) (hide CL) (hide fixed_true)
  · have CB := fun W => udpBuild_bad (Ud.mk a b x l) s d W hl hc
    have CR := fun W => rbuild_bad (Ud.mk a b x l) s d W hl hc
    exact walk_at s d a b x (bs B) (bs l) _ _ w (hide CU) (hide CB) (hide CR) (hide CK) (hide CL) (hide fixed_true)
set_option maxRecDepth 100000 in
theorem lifted (os : Os) (started : os.Started) (H : Type) (enc : TypeId × Value → H) :
    ReturnsInHanded {} Tryd.checked os 3 .any (fun w args => (Rows.udpBuildsSpec.pre enc Tryd.prog Tryd.f3 [] false w args ∧ laidMetH Tryd.prog [("errors.errorType", Rows.laid_errors_errorType)] w) ∧ sizedMet enc Tryd.prog Tryd.f3 (OpenSpec.ofChange Rows.udpBuildsSpec) false w args)
      (Rows.udpBuildsSpec.post enc Tryd.prog Tryd.f3 false true false false) := by
  refine returnsInHanded_of_change_and (C := Tryd.checked) (X := fun w _ => laidMetH Tryd.prog [("errors.errorType", Rows.laid_errors_errorType)] w) (fun _ _ _ hh h => h.of_heap hh) own started (by kernel_rfl) Tryd.func3
    (ChangeSpec.witness_at (enc := enc) (C := Tryd.checked) (os := os) (X := fun w _ => laidMetH Tryd.prog [("errors.errorType", Rows.laid_errors_errorType)] w) false
      { World.holding Tryd.prog os ⟨#[], #[], []⟩ with heap := (World.holding Tryd.prog os ⟨#[], #[], []⟩).heap.modify 0 fun
        | .cells _ t frozen => .cells #[.iface 86 (.agg #[.pointer (some ⟨1, 59, none⟩)])] t frozen
        | o => o } #[.agg #[.int .u32 0, .int .u32 0], .agg #[.int .i64 0, .int .i64 0, .bool false, .string ByteArray.empty]] 8 rfl (by kernel_rfl) (by kernel_rfl) (by kernel_rfl) (by kernel_rfl) (by kernel_rfl) (laid_met os _)) ?_
  intro W base args ds gs before hval0 hW _ _ _ _
  have hval : ∀ (j : Nat) t v, Tryd.f3.params[j]? = some t → args[j]? = some v → Value.okWide Tryd.prog W .any base t v := hval0
  have hW' := hW
  obtain ⟨p, q, hA0, hV0, rfl, hfz, hnd⟩ := hW
  have hA : DataW.TrodAll enc Tryd.prog W 0 (fun _ => true) true Tryd.f3.params.toList args.toList ds p := hA0
  have hV : DataW.TrodVars enc Tryd.prog W (fun _ => true) [] gs q := hV0
  rw [Tryd.params3] at hA hval
  obtain ⟨v0, v1, d0, d1, p0, p1, rfl, rfl, rfl, h0, h1⟩ := trodAll_two hA
  obtain ⟨s0, d0, rfl, rfl, rfl, hs0, hd0, ws0, wd0⟩ := open_way (hval 0 24 v0 rfl rfl) h0
  obtain ⟨a1, rfl, rfl, rfl, hw1⟩ := open_udp (hval 1 26 v1 rfl rfl) h1
  obtain ⟨rfl, rfl⟩ := trodVars_none hV
  have e1 : Rows.udpBuildsSpec.fn H ([wayD s0 d0, udD a1] ++ []) = { results := [.lit (.bool true)], args := [wayD s0 d0, udD a1] } := by simp [Rows.udpBuildsSpec]
  refine (walk s0 d0 a1 W hs0 hd0).mono fun e W' ⟨he, hb⟩ => ?_
  subst he
  refine ⟨_, rfl, _, _, _, [], [], [], hW', ?_, ?_, ?_, hb.frame _, fun h => by cases h⟩
  · rw [e1]; exact trodAll_mk1 (shut_bool Tryd.underlying4 true)
  · rw [e1]; exact trodAll_mk2 (shut_way s0 d0 ws0 wd0) (shut_udp a1 hw1)
  · rw [e1]; rfl

theorem said : Rows.UdpBuildsSaid :=
  OpenClaim.holds_of_wide 3 Tryd.f3 rfl rfl rfl rfl rfl rfl rfl ⟨rfl, rfl, rfl, rfl, rfl⟩ rfl rfl rfl rfl rfl (by kernel_rfl) Tryd.func3 (by kernel_rfl)
    (of_decide_eq_true (by kernel_rfl)) (by unfold Func.isWrapper; rw [if_neg (of_decide_eq_false (by kernel_rfl))]; exact ⟨rfl, rfl⟩)
    (fun os started H enc _ => lifted os started H enc)

theorem plain (f : FuncId) (fn : Func) (hf : Tryd.pinned.checked.prog.funcNamed Rows.udpBuildsRow.func = some f) (hfn : Tryd.pinned.checked.prog.funcs[f]? = some fn) :
    true = Tryd.pinned.checked.prog.looks [] ∧ ∀ (j : Nat) t, fn.params[j]? = some t → Tryd.pinned.checked.prog.wantsStandIn t = false := by
  obtain rfl : f = 3 := Option.some.inj ((show Tryd.prog.funcNamed Rows.udpBuildsRow.func = some 3 by kernel_rfl).symm.trans hf) |>.symm
  obtain rfl : fn = Tryd.f3 := (Option.some.inj (Tryd.func3.symm.trans hfn)).symm
  refine ⟨by kernel_rfl, fun j t ht => ?_⟩
  rw [Tryd.params3] at ht
  have hm := Array.mem_of_getElem? ht
  simp only [List.mem_toArray, List.mem_cons, List.not_mem_nil, or_false] at hm
  rcases hm with rfl | rfl
  · exact (show Tryd.prog.wantsStandIn 24 = false by kernel_rfl)
  · exact (show Tryd.prog.wantsStandIn 26 = false by kernel_rfl)

theorem card : Rows.UdpBuildsCardSaid :=
  Claim7.holds_tied_plain_at .later [] _ _ _ _ said (fun _ h => by cases h) (by kernel_rfl) (fun _ h => by cases h) udpBuilds_row_tie rfl ⟨rfl, rfl⟩ (by kernel_rfl) rfl plain (by kernel_rfl)
end Go.Proofs.YtcgilcofcjehmaaDoor.udpBuilds
namespace Go.Proofs.YtcgilcofcjehmaaDoor
theorem udpBuilds_card_holds : Rows.UdpBuildsCardSaid := udpBuilds.card
end Go.Proofs.YtcgilcofcjehmaaDoor
