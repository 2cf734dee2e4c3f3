/-
  Proved: for every text (cut to 1700 bytes), gangwaylaw08.VxlanHashes answers true (the number, and the port, of the bytes are the document's, P8.2), and the arguments read afterwards as before. Conditions: errors.errorType holds what the program's own text lays (tied by the card; the walk asks nothing of it).
-/
import Derived.Test.YtocbpkceokgohaaDoorRow8
import Derived.Test.YtocbpkceokgohaaDoorRef8
namespace Go.Proofs.YtocbpkceokgohaaDoor.vxlanHashes
open Go.ChangeShapes Go.WideShapes Go.ChangeAt Go.RowKit Go.Sort
open Go.ChangeMaps (open_string shut_string)

set_option maxRecDepth 100000 in
set_option maxHeartbeats 1000000 in
theorem walk_at (S0 S : ByteArray) (i h p : Nat) (w : World)
    (ms : ∀ (ts : Array TypeId) (t : TypeId) (W : World), (Builtin.min_ ts t #[.int .i64 (S0.size : Int), .int .i64 1700]).run Tryd.prog W = .ok (.int .i64 (i : Int)) W)
    (ss : ∀ W : World, (Instr.slice 9 (.string S0) none (some (.int .i64 (i : Int))) none).run Tryd.prog W = .ok (.string S) W)
    (CF : Hid (∀ W, Calls Tryd.prog 12 #[] W fun e W' => e = .returned (.bool true) ∧ Below W.heap.size W W'))
    (C1 : Hid (∀ W, Calls Tryd.prog 13 #[.string S] W fun e W' => e = .returned (.int .u32 (h : Int)) ∧ W' = W))
    (C2 : Hid (∀ W, Calls Tryd.prog 14 #[.string S] W fun e W' => e = .returned (.int .u32 (h : Int)) ∧ W' = W))
    (C3 : Hid (∀ W, Calls Tryd.prog 15 #[.string S] W fun e W' => e = .returned (.int .i64 (p : Int)) ∧ W' = W))
    (C4 : Hid (∀ W, Calls Tryd.prog 16 #[.string S] W fun e W' => e = .returned (.int .i64 (p : Int)) ∧ W' = W)) :
    Calls Tryd.prog 4 #[.string S0] w fun e w' => e = .returned (.bool true) ∧ Below w.heap.size w w' := by
  go_enter Tryd.func4, Tryd.ntmps4
  go_wp2_with fail
  refine (unhide CF _).mono ?_
  rintro e w1 ⟨rfl, b1⟩
  clear CF
  go_wp2_with fail
  refine (unhide C1 _).mono ?_
  rintro e w2 ⟨rfl, rfl⟩
  clear C1
  go_wp2_with fail
  refine (unhide C2 _).mono ?_
  rintro e w3 ⟨rfl, rfl⟩
  clear C2
  go_wp2_with fail
  refine (unhide C3 _).mono ?_
  rintro e w4 ⟨rfl, rfl⟩
  clear C3
  go_wp2_with fail
  refine (unhide C4 _).mono ?_
  rintro e w5 ⟨rfl, rfl⟩
  clear C4
  go_wp2_with fail
  go_ret
  exact ⟨rfl, b1⟩
theorem walk (S0 : ByteArray) (w : World) (_ : S0.size ≤ maxLen) :
    Calls Tryd.prog 4 #[.string S0] w fun e w' => e = .returned (.bool true) ∧ Below w.heap.size w w' := by
  obtain ⟨i, r, hr, ms, ss⟩ := firstN 1700 S0
  exact walk_at S0 (bs r) i _ _ w ms ss (hide fixed_true) (hide fun W => hash_any r W (by omega)) (hide fun W => rhash r W (by omega)) (hide fun W => vport_any r W (by omega)) (hide fun W => rport r W (by omega))
set_option maxRecDepth 100000 in
theorem lifted (os : Os) (started : os.Started) (H : Type) (enc : TypeId × Value → H) :
    ReturnsInHanded {} Tryd.checked os 4 .any (fun w args => (Rows.vxlanHashesSpec.pre enc Tryd.prog Tryd.f4 [] false w args ∧ laidMetH Tryd.prog [("errors.errorType", Rows.laid_errors_errorType)] w) ∧ sizedMet enc Tryd.prog Tryd.f4 (OpenSpec.ofChange Rows.vxlanHashesSpec) false w args)
      (Rows.vxlanHashesSpec.post enc Tryd.prog Tryd.f4 false true false false) := by
  refine returnsInHanded_of_change_and (C := Tryd.checked) (X := fun w _ => laidMetH Tryd.prog [("errors.errorType", Rows.laid_errors_errorType)] w) (fun _ _ _ hh h => h.of_heap hh) own started (by kernel_rfl) Tryd.func4
    (ChangeSpec.witness_at (enc := enc) (C := Tryd.checked) (os := os) (X := fun w _ => laidMetH Tryd.prog [("errors.errorType", Rows.laid_errors_errorType)] w) false
      { World.holding Tryd.prog os ⟨#[], #[], []⟩ with heap := (World.holding Tryd.prog os ⟨#[], #[], []⟩).heap.modify 0 fun
        | .cells _ t frozen => .cells #[.iface 70 (.agg #[.pointer (some ⟨1, 44, none⟩)])] t frozen
        | o => o } #[.string ByteArray.empty] 8 rfl (by kernel_rfl) (by kernel_rfl) (by kernel_rfl) (by kernel_rfl) (by kernel_rfl) (laid_met os _)) ?_
  intro W base args ds gs before hval0 hW _ _ _ _
  have hval : ∀ (j : Nat) t v, Tryd.f4.params[j]? = some t → args[j]? = some v → Value.okWide Tryd.prog W .any base t v := hval0
  have hW' := hW
  obtain ⟨p, q, hA0, hV0, rfl, hfz, hnd⟩ := hW
  have hA : DataW.TrodAll enc Tryd.prog W 0 (fun _ => true) true Tryd.f4.params.toList args.toList ds p := hA0
  have hV : DataW.TrodVars enc Tryd.prog W (fun _ => true) [] gs q := hV0
  rw [Tryd.params4] at hA hval
  obtain ⟨v0, d0, rfl, rfl, h0⟩ := trodAll_one hA
  obtain ⟨a0, rfl, rfl, rfl, w0⟩ := open_string Tryd.underlying9 (hval 0 9 v0 rfl rfl) h0
  obtain ⟨rfl, rfl⟩ := trodVars_none hV
  have e1 : Rows.vxlanHashesSpec.fn H ([.lit (.string a0.data.toList)] ++ []) = { results := [.lit (.bool true)], args := [.lit (.string a0.data.toList)] } := by simp [Rows.vxlanHashesSpec]
  refine (walk a0 W w0).mono fun e W' ⟨he, hb⟩ => ?_
  subst he
  refine ⟨_, rfl, _, _, _, [], [], [], hW', ?_, ?_, ?_, hb.frame _, fun h => by cases h⟩
  · rw [e1]; exact trodAll_mk1 (shut_bool Tryd.underlying4 true)
  · rw [e1]; exact trodAll_mk1 (shut_string Tryd.underlying9 w0)
  · rw [e1]; rfl

theorem said : Rows.VxlanHashesSaid :=
  OpenClaim.holds_of_wide 4 Tryd.f4 rfl rfl rfl rfl rfl rfl rfl ⟨rfl, rfl, rfl, rfl, rfl⟩ rfl rfl rfl rfl rfl (by kernel_rfl) Tryd.func4 (by kernel_rfl)
    (of_decide_eq_true (by kernel_rfl)) (by unfold Func.isWrapper; rw [if_neg (of_decide_eq_false (by kernel_rfl))]; exact ⟨rfl, rfl⟩)
    (fun os started H enc _ => lifted os started H enc)

theorem plain (f : FuncId) (fn : Func) (hf : Tryd.pinned.checked.prog.funcNamed Rows.vxlanHashesRow.func = some f) (hfn : Tryd.pinned.checked.prog.funcs[f]? = some fn) :
    true = Tryd.pinned.checked.prog.looks [] ∧ ∀ (j : Nat) t, fn.params[j]? = some t → Tryd.pinned.checked.prog.wantsStandIn t = false := by
  obtain rfl : f = 4 := Option.some.inj ((show Tryd.prog.funcNamed Rows.vxlanHashesRow.func = some 4 by kernel_rfl).symm.trans hf) |>.symm
  obtain rfl : fn = Tryd.f4 := (Option.some.inj (Tryd.func4.symm.trans hfn)).symm
  refine ⟨by kernel_rfl, fun j t ht => ?_⟩
  rw [Tryd.params4] at ht
  have hm := Array.mem_of_getElem? ht
  simp only [List.mem_toArray, List.mem_cons, List.not_mem_nil, or_false] at hm
  subst hm
  · exact (show Tryd.prog.wantsStandIn 9 = false by kernel_rfl)

theorem card : Rows.VxlanHashesCardSaid :=
  Claim7.holds_tied_plain_at .later [] _ _ _ _ said (fun _ h => by cases h) (by kernel_rfl) (fun _ h => by cases h) vxlanHashes_row_tie rfl ⟨rfl, rfl⟩ (by kernel_rfl) rfl plain (by kernel_rfl)
end Go.Proofs.YtocbpkceokgohaaDoor.vxlanHashes
namespace Go.Proofs.YtocbpkceokgohaaDoor
theorem vxlanHashes_card_holds : Rows.VxlanHashesCardSaid := vxlanHashes.card
end Go.Proofs.YtocbpkceokgohaaDoor
