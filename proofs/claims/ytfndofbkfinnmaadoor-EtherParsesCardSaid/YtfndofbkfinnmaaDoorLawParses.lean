/-
  gangwaylaw04.EtherParses answers true, for every bytes.
-/
import Derived.Test.YtfndofbkfinnmaaDoorFrame4
import Derived.Test.YtfndofbkfinnmaaDoorRef4d
namespace Go.Proofs.YtfndofbkfinnmaaDoor.etherParses
open Go.ChangeShapes Go.WideShapes Go.ChangeAt Go.RowKit
open Go.ChangeMaps (open_string shut_string)

set_option maxRecDepth 20000 in
set_option maxHeartbeats 400000 in
theorem walk_at (d q : Int) (has : Bool) (pri : Int) (dei : Bool) (vid ty : Int) (A x X : ByteArray) (j : Nat) (k : Int) (w : World) (hg : Et w)
    (mx : ∀ (ts : Array TypeId) (t : TypeId) (W : World), (Builtin.min_ ts t #[.int .i64 (x.size : Int), .int .i64 1700]).run Tryd.prog W = .ok (.int .i64 (j : Int)) W)
    (sx : ∀ W : World, (Instr.slice 9 (.string x) none (some (.int .i64 (j : Int))) none).run Tryd.prog W = .ok (.string X) W)
    (P : Hid (∀ W, Et W → Calls Tryd.prog 15 #[.string X] W fun e W' => e = .returned (.tuple #[.agg #[.int .u64 d, .int .u64 q, .bool has, .int .i64 pri, .bool dei, .int .i64 vid, .int .i64 ty, .string A], .int .i64 k]) ∧ Below W.heap.size W W'))
    (P2 : Hid (∀ W, Calls Tryd.prog 16 #[.string X] W fun e W' => e = .returned (.tuple #[.agg #[.int .u64 d, .int .u64 q, .bool has, .int .i64 pri, .bool dei, .int .i64 vid, .int .i64 ty, .string A], .int .i64 k]) ∧ Below W.heap.size W W')) :
    Calls Tryd.prog 4 #[.string x] w fun e w' => e = .returned (.bool true) ∧ Below w.heap.size w w' := by
  have same := same_frame d q has pri dei vid ty A
  go_enter Tryd.func4, Tryd.ntmps4
  go_wp2_with fail
  refine (unhide P _ hg).mono ?_
  rintro e w1 ⟨rfl, b1⟩
  clear P
  have hF1 := heap_alloc_new w1 (.cells #[.int .u64 d, .int .u64 q, .bool has, .int .i64 pri, .bool dei, .int .i64 vid, .int .i64 ty, .string A] 26)
  go_wp2_with fail
  refine (unhide P2 _).mono ?_
  rintro e w2 ⟨rfl, b2⟩
  have hb2 := bthen (alloc_then b1) b2
  have hF2 := Below.row b2 hF1
  have hF3 := Below.row (alloc_below w2 (.cells #[.int .u64 d, .int .u64 q, .bool has, .int .i64 pri, .bool dei, .int .i64 vid, .int .i64 ty, .string A] 26)) hF2
  have hG3 := heap_alloc_new w2 (.cells #[.int .u64 d, .int .u64 q, .bool has, .int .i64 pri, .bool dei, .int .i64 vid, .int .i64 ty, .string A] 26)
  clear b1 b2 hF1 hF2 P2
  generalize w1.heap.size = F at *
  go_wp2_with fail
  refine (fixed_true _ (hg.next (alloc_then hb2))).mono ?_
  rintro e w3 ⟨rfl, b3⟩
  have hb3 := bthen (alloc_then hb2) b3
  have hF4 := Below.row b3 hF3
  have hG4 := Below.row b3 hG3
  clear b3 hF3 hG3 hb2
  generalize w2.heap.size = F' at *
  obtain ⟨c0, c1, c2, c3, c4, c5, c6, c7, _⟩ := cells8 hF4
  obtain ⟨k0, k1, k2, k3, k4, k5, k6, k7, _⟩ := cells8 hG4
  clear hF4 hG4
  go_wp2_with fail
  go_ret
  exact ⟨rfl, hb3⟩
theorem walk (x : ByteArray) (w : World) (hg : Et w) (_ : x.size ≤ maxLen) :
    Calls Tryd.prog 4 #[.string x] w fun e w' => e = .returned (.bool true) ∧ Below w.heap.size w w' := by
  obtain ⟨j, y, ly, mx, sx⟩ := firstN 1700 x
  have P := fun (W : World) (hW : Et W) => parse_any y W hW (by omega)
  have P2 := rparse_any y (by omega)
  unfold RTells at P2
  generalize (Fr.parse y).1 = f at P P2
  generalize (Fr.parse y).2 = k at P P2
  obtain ⟨d, q, has, pri, dei, vid, ty, a⟩ := f
  exact walk_at d q has pri dei vid ty (bs a) x (bs y) j k w hg mx sx (hide P) (hide P2)
set_option maxRecDepth 100000 in
theorem lifted (os : Os) (started : os.Started) (H : Type) (enc : TypeId × Value → H) :
    ReturnsInHanded {} Tryd.checked os 4 .any (fun w args => (Rows.etherParsesSpec.pre enc Tryd.prog Tryd.f4 [] false w args ∧ laidMetH Tryd.prog [("errors.errorType", Rows.laid_errors_errorType)] w) ∧ sizedMet enc Tryd.prog Tryd.f4 (OpenSpec.ofChange Rows.etherParsesSpec) false w args)
      (Rows.etherParsesSpec.post enc Tryd.prog Tryd.f4 false true false false) := by
  refine returnsInHanded_of_change_and (C := Tryd.checked) (X := fun w _ => laidMetH Tryd.prog [("errors.errorType", Rows.laid_errors_errorType)] w) (fun _ _ _ hh h => h.of_heap hh) own started (by kernel_rfl) Tryd.func4
    (ChangeSpec.witness_at (enc := enc) (C := Tryd.checked) (os := os) (X := fun w _ => laidMetH Tryd.prog [("errors.errorType", Rows.laid_errors_errorType)] w) false
      { World.holding Tryd.prog os ⟨#[], #[], []⟩ with heap := (World.holding Tryd.prog os ⟨#[], #[], []⟩).heap.modify 0 fun
        | .cells _ t frozen => .cells #[.iface 87 (.agg #[.pointer (some ⟨1, 41, none⟩)])] t frozen
        | o => o } #[.string ByteArray.empty] 8 rfl (by kernel_rfl) (by kernel_rfl) (by kernel_rfl) (by kernel_rfl) (by kernel_rfl) (laid_met os _)) ?_
  intro W base args ds gs before hval0 hW _ _ hL _
  have hval : ∀ (j : Nat) t v, Tryd.f4.params[j]? = some t → args[j]? = some v → Value.okWide Tryd.prog W .any base t v := hval0
  have hW' := hW
  obtain ⟨p, q, hA0, hV0, rfl, hfz, hnd⟩ := hW
  have hA : DataW.TrodAll enc Tryd.prog W 0 (fun _ => true) true Tryd.f4.params.toList args.toList ds p := hA0
  have hV : DataW.TrodVars enc Tryd.prog W (fun _ => true) [] gs q := hV0
  rw [Tryd.params4] at hA hval
  obtain ⟨v0, d0, rfl, rfl, h0⟩ := trodAll_one hA
  obtain ⟨a0, rfl, rfl, rfl, w0⟩ := open_string Tryd.underlying9 (hval 0 9 v0 rfl rfl) h0
  obtain ⟨rfl, rfl⟩ := trodVars_none hV
  have e1 : Rows.etherParsesSpec.fn H ([.lit (.string a0.data.toList)] ++ []) = { results := [.lit (.bool true)], args := [.lit (.string a0.data.toList)] } := by simp [Rows.etherParsesSpec]
  refine (walk a0 W (et_of_laid hL) w0).mono fun e W' ⟨he, hb⟩ => ?_
  subst he
  refine ⟨_, rfl, _, _, _, [], [], [], hW', ?_, ?_, ?_, hb.frame _, fun h => by cases h⟩
  · rw [e1]; exact trodAll_mk1 (shut_bool Tryd.underlying4 true)
  · rw [e1]; exact trodAll_mk1 (shut_string Tryd.underlying9 w0)
  · rw [e1]; rfl

theorem said : Rows.EtherParsesSaid :=
  OpenClaim.holds_of_wide 4 Tryd.f4 rfl rfl rfl rfl rfl rfl rfl ⟨rfl, rfl, rfl, rfl, rfl⟩ rfl rfl rfl rfl rfl (by kernel_rfl) Tryd.func4 (by kernel_rfl)
    (of_decide_eq_true (by kernel_rfl)) (by unfold Func.isWrapper; rw [if_neg (of_decide_eq_false (by kernel_rfl))]; exact ⟨rfl, rfl⟩)
    (fun os started H enc _ => lifted os started H enc)

theorem plain (f : FuncId) (fn : Func) (hf : Tryd.pinned.checked.prog.funcNamed Rows.etherParsesRow.func = some f) (hfn : Tryd.pinned.checked.prog.funcs[f]? = some fn) :
    true = Tryd.pinned.checked.prog.looks [] ∧ ∀ (j : Nat) t, fn.params[j]? = some t → Tryd.pinned.checked.prog.wantsStandIn t = false := by
  obtain rfl : f = 4 := Option.some.inj ((show Tryd.prog.funcNamed Rows.etherParsesRow.func = some 4 by kernel_rfl).symm.trans hf) |>.symm
  obtain rfl : fn = Tryd.f4 := (Option.some.inj (Tryd.func4.symm.trans hfn)).symm
  refine ⟨by kernel_rfl, fun j t ht => ?_⟩
  rw [Tryd.params4] at ht
  have hm := Array.mem_of_getElem? ht
  simp only [List.mem_toArray, List.mem_cons, List.not_mem_nil, or_false] at hm
  subst hm
  · exact (show Tryd.prog.wantsStandIn 9 = false by kernel_rfl)

theorem card : Rows.EtherParsesCardSaid :=
  Claim7.holds_tied_plain_at .later [] _ _ _ _ said (fun _ h => by cases h) (by kernel_rfl) (fun _ h => by cases h) etherParses_row_tie rfl ⟨rfl, rfl⟩ (by kernel_rfl) rfl plain (by kernel_rfl)
end Go.Proofs.YtfndofbkfinnmaaDoor.etherParses
namespace Go.Proofs.YtfndofbkfinnmaaDoor
theorem etherParses_card_holds : Rows.EtherParsesCardSaid := etherParses.card
end Go.Proofs.YtfndofbkfinnmaaDoor

