/-
  Proved: for every two addresses and text (cut to 1700 bytes), gangwaylaw07.UdpParses answers true (the datagram of the bytes between these addresses, or what is wrong, is the document's, P7.2), and the arguments read afterwards as before. Conditions: errors.errorType holds what the program's own text lays (tied by the card; the walk asks nothing of it).
-/
import Derived.Test.YtcgilcofcjehmaaDoorRow7
import Derived.Test.YtcgilcofcjehmaaDoorRef7c
namespace Go.Proofs.YtcgilcofcjehmaaDoor.udpParses
open Go.ChangeShapes Go.WideShapes Go.ChangeAt Go.RowKit Go.Sort
open Go.ChangeMaps (open_string shut_string)

set_option maxRecDepth 100000 in
set_option maxHeartbeats 4000000 in
theorem walk_at (s d : Nat) (a b : Int) (x : Bool) (X S0 S : ByteArray) (i : Nat) (k : Int) (w : World)
    (ms : ∀ (ts : Array TypeId) (t : TypeId) (W : World), (Builtin.min_ ts t #[.int .i64 (S0.size : Int), .int .i64 1700]).run Tryd.prog W = .ok (.int .i64 (i : Int)) W)
    (ss : ∀ W : World, (Instr.slice 9 (.string S0) none (some (.int .i64 (i : Int))) none).run Tryd.prog W = .ok (.string S) W)
    (CP : Hid (∀ W, Calls Tryd.prog 14 #[.int .u32 (s : Int), .int .u32 (d : Int), .string S] W fun e W' => e = .returned (.tuple #[.agg #[.int .i64 a, .int .i64 b, .bool x, .string X], .int .i64 k]) ∧ Below W.heap.size W W'))
    (CR : Hid (∀ W, Calls Tryd.prog 15 #[.int .u32 (s : Int), .int .u32 (d : Int), .string S] W fun e W' => e = .returned (.tuple #[.agg #[.int .i64 a, .int .i64 b, .bool x, .string X], .int .i64 k]) ∧ Below W.heap.size W W'))
    (CF : Hid (∀ W, Calls Tryd.prog 11 #[] W fun e W' => e = .returned (.bool true) ∧ Below W.heap.size W W')) :
    Calls Tryd.prog 4 #[.agg #[.int .u32 (s : Int), .int .u32 (d : Int)], .string S0] w fun e w' => e = .returned (.bool true) ∧ Below w.heap.size w w' := by
  have sm := same_udp a b x X
  go_enter Tryd.func4, Tryd.ntmps4
  go_wp2_with fail
  refine (unhide CP _).mono ?_
  rintro e w1 ⟨rfl, b1⟩
  have h1 := alloc_then (o := .cells #[.int .i64 a, .int .i64 b, .bool x, .string X] 26) (bthen (alloc_below w (.cells #[.int .u32 (s : Int), .int .u32 (d : Int)] 24)) b1)
  have o1 := Below.row (alloc_below w1 (.cells #[.int .i64 a, .int .i64 b, .bool x, .string X] 26)) (Below.row b1 (heap_alloc_new w (.cells #[.int .u32 (s : Int), .int .u32 (d : Int)] 24)))
  have u1 := heap_alloc_new w1 (.cells #[.int .i64 a, .int .i64 b, .bool x, .string X] 26)
  clear b1 CP
  obtain ⟨p0, p1, _⟩ := cells2 o1
  go_wp2_with fail
  generalize w1.heap.size = V at *
  refine (unhide CR _).mono ?_
  rintro e w2 ⟨rfl, b2⟩
  have h2 := alloc_then (o := .cells #[.int .i64 a, .int .i64 b, .bool x, .string X] 26) (bthen h1 b2)
  have u2 := Below.row (alloc_below w2 (.cells #[.int .i64 a, .int .i64 b, .bool x, .string X] 26)) (Below.row b2 u1)
  have v2 := heap_alloc_new w2 (.cells #[.int .i64 a, .int .i64 b, .bool x, .string X] 26)
  clear b2 CR h1 o1 u1 p0 p1
  obtain ⟨c0, c1, c2, c3, _⟩ := cells4 u2
  obtain ⟨g0, g1, g2, g3, _⟩ := cells4 v2
  go_wp2_with fail
  refine (unhide CF _).mono ?_
  rintro e w9 ⟨rfl, b9⟩
  have h9 := bthen h2 b9
  have u9 := Below.row b9 u2
  have v9 := Below.row b9 v2
  clear c0 c1 c2 c3 g0 g1 g2 g3 b9 u2 v2
  obtain ⟨c0, c1, c2, c3, _⟩ := cells4 u9
  obtain ⟨g0, g1, g2, g3, _⟩ := cells4 v9
  go_wp2_with fail
  go_ret
  exact ⟨rfl, h9⟩
theorem walk (s d : Nat) (S0 : ByteArray) (w : World) (hs : s < 4294967296) (hd : d < 4294967296) (_ : S0.size ≤ maxLen) :
    Calls Tryd.prog 4 #[.agg #[.int .u32 (s : Int), .int .u32 (d : Int)], .string S0] w fun e w' => e = .returned (.bool true) ∧ Below w.heap.size w w' := by
  obtain ⟨i, r, hr, ms, ss⟩ := firstN 1700 S0
  have CP := fun W => udpParse_any r s d W (by omega) hs hd
  have CR := fun W => rparse_any r s d W (by omega) hs hd
  exact walk_at s d _ _ _ _ S0 (bs r) i _ w ms ss (hide CP) (hide CR) (hide fixed_true)
set_option maxRecDepth 100000 in
theorem lifted (os : Os) (started : os.Started) (H : Type) (enc : TypeId × Value → H) :
    ReturnsInHanded {} Tryd.checked os 4 .any (fun w args => (Rows.udpParsesSpec.pre enc Tryd.prog Tryd.f4 [] false w args ∧ laidMetH Tryd.prog [("errors.errorType", Rows.laid_errors_errorType)] w) ∧ sizedMet enc Tryd.prog Tryd.f4 (OpenSpec.ofChange Rows.udpParsesSpec) false w args)
      (Rows.udpParsesSpec.post enc Tryd.prog Tryd.f4 false true false false) := by
  refine returnsInHanded_of_change_and (C := Tryd.checked) (X := fun w _ => laidMetH Tryd.prog [("errors.errorType", Rows.laid_errors_errorType)] w) (fun _ _ _ hh h => h.of_heap hh) own started (by kernel_rfl) Tryd.func4
    (ChangeSpec.witness_at (enc := enc) (C := Tryd.checked) (os := os) (X := fun w _ => laidMetH Tryd.prog [("errors.errorType", Rows.laid_errors_errorType)] w) false
      { World.holding Tryd.prog os ⟨#[], #[], []⟩ with heap := (World.holding Tryd.prog os ⟨#[], #[], []⟩).heap.modify 0 fun
        | .cells _ t frozen => .cells #[.iface 86 (.agg #[.pointer (some ⟨1, 59, none⟩)])] t frozen
        | o => o } #[.agg #[.int .u32 0, .int .u32 0], .string ByteArray.empty] 8 rfl (by kernel_rfl) (by kernel_rfl) (by kernel_rfl) (by kernel_rfl) (by kernel_rfl) (laid_met os _)) ?_
  intro W base args ds gs before hval0 hW _ _ _ _
  have hval : ∀ (j : Nat) t v, Tryd.f4.params[j]? = some t → args[j]? = some v → Value.okWide Tryd.prog W .any base t v := hval0
  have hW' := hW
  obtain ⟨p, q, hA0, hV0, rfl, hfz, hnd⟩ := hW
  have hA : DataW.TrodAll enc Tryd.prog W 0 (fun _ => true) true Tryd.f4.params.toList args.toList ds p := hA0
  have hV : DataW.TrodVars enc Tryd.prog W (fun _ => true) [] gs q := hV0
  rw [Tryd.params4] at hA hval
  obtain ⟨v0, v1, d0, d1, p0, p1, rfl, rfl, rfl, h0, h1⟩ := trodAll_two hA
  obtain ⟨s0, d0, rfl, rfl, rfl, hs0, hd0, ws0, wd0⟩ := open_way (hval 0 24 v0 rfl rfl) h0
  obtain ⟨a1, rfl, rfl, rfl, w1⟩ := open_string Tryd.underlying9 (hval 1 9 v1 rfl rfl) h1
  obtain ⟨rfl, rfl⟩ := trodVars_none hV
  have e1 : Rows.udpParsesSpec.fn H ([wayD s0 d0, .lit (.string a1.data.toList)] ++ []) = { results := [.lit (.bool true)], args := [wayD s0 d0, .lit (.string a1.data.toList)] } := by simp [Rows.udpParsesSpec]
  refine (walk s0 d0 a1 W hs0 hd0 w1).mono fun e W' ⟨he, hb⟩ => ?_
  subst he
  refine ⟨_, rfl, _, _, _, [], [], [], hW', ?_, ?_, ?_, hb.frame _, fun h => by cases h⟩
  · rw [e1]; exact trodAll_mk1 (shut_bool Tryd.underlying4 true)
  · rw [e1]; exact trodAll_mk2 (shut_way s0 d0 ws0 wd0) (shut_string Tryd.underlying9 w1)
  · rw [e1]; rfl

theorem said : Rows.UdpParsesSaid :=
  OpenClaim.holds_of_wide 4 Tryd.f4 rfl rfl rfl rfl rfl rfl rfl ⟨rfl, rfl, rfl, rfl, rfl⟩ rfl rfl rfl rfl rfl (by kernel_rfl) Tryd.func4 (by kernel_rfl)
    (of_decide_eq_true (by kernel_rfl)) (by unfold Func.isWrapper; rw [if_neg (of_decide_eq_false (by kernel_rfl))]; exact ⟨rfl, rfl⟩)
    (fun os started H enc _ => lifted os started H enc)

theorem plain (f : FuncId) (fn : Func) (hf : Tryd.pinned.checked.prog.funcNamed Rows.udpParsesRow.func = some f) (hfn : Tryd.pinned.checked.prog.funcs[f]? = some fn) :
    true = Tryd.pinned.checked.prog.looks [] ∧ ∀ (j : Nat) t, fn.params[j]? = some t → Tryd.pinned.checked.prog.wantsStandIn t = false := by
  obtain rfl : f = 4 := Option.some.inj ((show Tryd.prog.funcNamed Rows.udpParsesRow.func = some 4 by kernel_rfl).symm.trans hf) |>.symm
  obtain rfl : fn = Tryd.f4 := (Option.some.inj (Tryd.func4.symm.trans hfn)).symm
  refine ⟨by kernel_rfl, fun j t ht => ?_⟩
  rw [Tryd.params4] at ht
  have hm := Array.mem_of_getElem? ht
  simp only [List.mem_toArray, List.mem_cons, List.not_mem_nil, or_false] at hm
  rcases hm with rfl | rfl
  · exact (show Tryd.prog.wantsStandIn 24 = false by kernel_rfl)
  · exact (show Tryd.prog.wantsStandIn 9 = false by kernel_rfl)

theorem card : Rows.UdpParsesCardSaid :=
  Claim7.holds_tied_plain_at .later [] _ _ _ _ said (fun _ h => by cases h) (by kernel_rfl) (fun _ h => by cases h) udpParses_row_tie rfl ⟨rfl, rfl⟩ (by kernel_rfl) rfl plain (by kernel_rfl)
end Go.Proofs.YtcgilcofcjehmaaDoor.udpParses
namespace Go.Proofs.YtcgilcofcjehmaaDoor
theorem udpParses_card_holds : Rows.UdpParsesCardSaid := udpParses.card
end Go.Proofs.YtcgilcofcjehmaaDoor
