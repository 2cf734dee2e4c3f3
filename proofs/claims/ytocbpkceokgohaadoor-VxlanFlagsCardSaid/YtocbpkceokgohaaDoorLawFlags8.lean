/-
  Proved: for every text (cut to 1700 bytes), gangwaylaw08.VxlanFlags answers true (without the bit no bytes are a frame behind a head, with it all of eight bytes and more are, P8.1), and the arguments read afterwards as before. Conditions: errors.errorType holds what the program's own text lays (tied by the card; the walk asks nothing of it).
-/
import Derived.Test.YtocbpkceokgohaaDoorRow8
import Derived.Test.YtocbpkceokgohaaDoorRef8
namespace Go.Proofs.YtocbpkceokgohaaDoor.vxlanFlags
open Go.ChangeShapes Go.WideShapes Go.ChangeAt Go.RowKit Go.Sort
open Go.ChangeMaps (open_string shut_string)

set_option maxRecDepth 100000 in
set_option maxHeartbeats 1000000 in
theorem walk_short (S0 S : ByteArray) (i : Nat) (w : World)
    (ms : ∀ (ts : Array TypeId) (t : TypeId) (W : World), (Builtin.min_ ts t #[.int .i64 (S0.size : Int), .int .i64 1700]).run Tryd.prog W = .ok (.int .i64 (i : Int)) W)
    (ss : ∀ W : World, (Instr.slice 9 (.string S0) none (some (.int .i64 (i : Int))) none).run Tryd.prog W = .ok (.string S) W)
    (hs : (S.size : Int) < 8)
    (CP : Hid (∀ W, Calls Tryd.prog 10 #[.string S] W fun e W' => e = .returned (.tuple #[.int .i64 0, .string ⟨#[]⟩, .int .i64 80]) ∧ Below W.heap.size W W'))
    (CF : Hid (∀ W, Calls Tryd.prog 12 #[] W fun e W' => e = .returned (.bool true) ∧ Below W.heap.size W W')) :
    Calls Tryd.prog 7 #[.string S0] w fun e w' => e = .returned (.bool true) ∧ Below w.heap.size w w' := by
  go_enter Tryd.func7, Tryd.ntmps7
  go_wp2_with fail
  refine (unhide CP _).mono ?_
  rintro e w1 ⟨rfl, b1⟩
  clear CP
  go_wp2_with fail
  refine (unhide CF _).mono ?_
  rintro e w2 ⟨rfl, b2⟩
  clear CF
  go_wp2_with fail
  go_ret
  exact ⟨rfl, bthen b1 b2⟩
set_option maxRecDepth 100000 in
set_option maxHeartbeats 1000000 in
theorem walk_no (S0 S : ByteArray) (i c : Nat) (w : World)
    (ms : ∀ (ts : Array TypeId) (t : TypeId) (W : World), (Builtin.min_ ts t #[.int .i64 (S0.size : Int), .int .i64 1700]).run Tryd.prog W = .ok (.int .i64 (i : Int)) W)
    (ss : ∀ W : World, (Instr.slice 9 (.string S0) none (some (.int .i64 (i : Int))) none).run Tryd.prog W = .ok (.string S) W)
    (h : 8 ≤ S.size) (hc : (S[0]'(by omega)).toNat = c)
    (hb : ((c : Int) / 8 % 2 == 1) = false)
    (CP : Hid (∀ W, Calls Tryd.prog 10 #[.string S] W fun e W' => e = .returned (.tuple #[.int .i64 0, .string ⟨#[]⟩, .int .i64 81]) ∧ Below W.heap.size W W'))
    (CF : Hid (∀ W, Calls Tryd.prog 12 #[] W fun e W' => e = .returned (.bool true) ∧ Below W.heap.size W W')) :
    Calls Tryd.prog 7 #[.string S0] w fun e w' => e = .returned (.bool true) ∧ Below w.heap.size w w' := by
  go_enter Tryd.func7, Tryd.ntmps7
  go_wp2_with fail
  refine (unhide CP _).mono ?_
  rintro e w1 ⟨rfl, b1⟩
  clear CP
  go_wp2_with fail
  refine (unhide CF _).mono ?_
  rintro e w2 ⟨rfl, b2⟩
  clear CF
  go_wp2_with fail
  go_ret
  exact ⟨rfl, bthen b1 b2⟩
set_option maxRecDepth 100000 in
set_option maxHeartbeats 1000000 in
theorem walk_yes (S0 S F : ByteArray) (i c n : Nat) (w : World)
    (ms : ∀ (ts : Array TypeId) (t : TypeId) (W : World), (Builtin.min_ ts t #[.int .i64 (S0.size : Int), .int .i64 1700]).run Tryd.prog W = .ok (.int .i64 (i : Int)) W)
    (ss : ∀ W : World, (Instr.slice 9 (.string S0) none (some (.int .i64 (i : Int))) none).run Tryd.prog W = .ok (.string S) W)
    (h : 8 ≤ S.size) (hc : (S[0]'(by omega)).toNat = c)
    (hb : ((c : Int) / 8 % 2 == 1) = true)
    (hn : (n : Int) ≤ 16777215)
    (s2 : ∀ W : World, (Instr.slice 9 (.string S) (some (.int .i64 8)) none none).run Tryd.prog W = .ok (.string F) W)
    (CP : Hid (∀ W, Calls Tryd.prog 10 #[.string S] W fun e W' => e = .returned (.tuple #[.int .i64 (n : Int), .string F, .int .i64 0]) ∧ Below W.heap.size W W'))
    (CF : Hid (∀ W, Calls Tryd.prog 12 #[] W fun e W' => e = .returned (.bool true) ∧ Below W.heap.size W W')) :
    Calls Tryd.prog 7 #[.string S0] w fun e w' => e = .returned (.bool true) ∧ Below w.heap.size w w' := by
  go_enter Tryd.func7, Tryd.ntmps7
  go_wp2_with fail
  refine (unhide CP _).mono ?_
  rintro e w1 ⟨rfl, b1⟩
  clear CP
  go_wp2_with fail
  refine (unhide CF _).mono ?_
  rintro e w2 ⟨rfl, b2⟩
  clear CF
  go_wp2_with fail
  go_ret
  exact ⟨rfl, bthen b1 b2⟩
theorem flag_one (l : List UInt8) : ((((l.headD 0).toNat : Nat) : Int) / 8 % 2 == 1) = flag l := by
  unfold flag
  generalize (l.headD 0).toNat = n
  rcases Nat.mod_two_eq_zero_or_one (n / 8) with e | e
  · rw [e, beq_eq_false_iff_ne.2 (show (n : Int) / 8 % 2 ≠ 1 by omega)]; rfl
  · rw [e, beq_iff_eq.2 (show (n : Int) / 8 % 2 = 1 by omega)]; rfl
theorem walk (S0 : ByteArray) (w : World) (_ : S0.size ≤ maxLen) :
    Calls Tryd.prog 7 #[.string S0] w fun e w' => e = .returned (.bool true) ∧ Below w.heap.size w w' := by
  obtain ⟨i, r, hr, ms, ss⟩ := firstN 1700 S0
  have hsz : (bs r).size = r.length := bs_size r
  have CP := fun W => vparse_any r W (by omega)
  by_cases h : r.length < 8
  · rw [show vparse r = (0, [], 80) from by unfold vparse; rw [if_pos h]] at CP
    exact walk_short S0 (bs r) i w ms ss (by omega) (hide CP) (hide fixed_true)
  · have h8 : 8 ≤ (bs r).size := by omega
    cases hf : flag r
    · rw [show vparse r = (0, [], 81) from by unfold vparse; rw [if_neg h, hf]; rfl] at CP
      exact walk_no S0 (bs r) i _ w ms ss h8 (headD_at r _) (by rw [flag_one, hf]) (hide CP) (hide fixed_true)
    · rw [show vparse r = (nm r 4 3, r.drop 8, 0) from by unfold vparse; rw [if_neg h, hf]; rfl] at CP
      have h3 := nm3_lt r 4
      exact walk_yes S0 (bs r) (bs (r.drop 8)) i _ (nm r 4 3) w ms ss h8 (headD_at r _) (by rw [flag_one, hf]) (by omega) (fun W => rest_at r 8 (by omega) W) (hide CP) (hide fixed_true)
set_option maxRecDepth 100000 in
theorem lifted (os : Os) (started : os.Started) (H : Type) (enc : TypeId × Value → H) :
    ReturnsInHanded {} Tryd.checked os 7 .any (fun w args => (Rows.vxlanFlagsSpec.pre enc Tryd.prog Tryd.f7 [] false w args ∧ laidMetH Tryd.prog [("errors.errorType", Rows.laid_errors_errorType)] w) ∧ sizedMet enc Tryd.prog Tryd.f7 (OpenSpec.ofChange Rows.vxlanFlagsSpec) false w args)
      (Rows.vxlanFlagsSpec.post enc Tryd.prog Tryd.f7 false true false false) := by
  refine returnsInHanded_of_change_and (C := Tryd.checked) (X := fun w _ => laidMetH Tryd.prog [("errors.errorType", Rows.laid_errors_errorType)] w) (fun _ _ _ hh h => h.of_heap hh) own started (by kernel_rfl) Tryd.func7
    (ChangeSpec.witness_at (enc := enc) (C := Tryd.checked) (os := os) (X := fun w _ => laidMetH Tryd.prog [("errors.errorType", Rows.laid_errors_errorType)] w) false
      { World.holding Tryd.prog os ⟨#[], #[], []⟩ with heap := (World.holding Tryd.prog os ⟨#[], #[], []⟩).heap.modify 0 fun
        | .cells _ t frozen => .cells #[.iface 70 (.agg #[.pointer (some ⟨1, 44, none⟩)])] t frozen
        | o => o } #[.string ByteArray.empty] 8 rfl (by kernel_rfl) (by kernel_rfl) (by kernel_rfl) (by kernel_rfl) (by kernel_rfl) (laid_met os _)) ?_
  intro W base args ds gs before hval0 hW _ _ _ _
  have hval : ∀ (j : Nat) t v, Tryd.f7.params[j]? = some t → args[j]? = some v → Value.okWide Tryd.prog W .any base t v := hval0
  have hW' := hW
  obtain ⟨p, q, hA0, hV0, rfl, hfz, hnd⟩ := hW
  have hA : DataW.TrodAll enc Tryd.prog W 0 (fun _ => true) true Tryd.f7.params.toList args.toList ds p := hA0
  have hV : DataW.TrodVars enc Tryd.prog W (fun _ => true) [] gs q := hV0
  rw [Tryd.params7] at hA hval
  obtain ⟨v0, d0, rfl, rfl, h0⟩ := trodAll_one hA
  obtain ⟨a0, rfl, rfl, rfl, w0⟩ := open_string Tryd.underlying9 (hval 0 9 v0 rfl rfl) h0
  obtain ⟨rfl, rfl⟩ := trodVars_none hV
  have e1 : Rows.vxlanFlagsSpec.fn H ([.lit (.string a0.data.toList)] ++ []) = { results := [.lit (.bool true)], args := [.lit (.string a0.data.toList)] } := by simp [Rows.vxlanFlagsSpec]
  refine (walk a0 W w0).mono fun e W' ⟨he, hb⟩ => ?_
  subst he
  refine ⟨_, rfl, _, _, _, [], [], [], hW', ?_, ?_, ?_, hb.frame _, fun h => by cases h⟩
  · rw [e1]; exact trodAll_mk1 (shut_bool Tryd.underlying4 true)
  · rw [e1]; exact trodAll_mk1 (shut_string Tryd.underlying9 w0)
  · rw [e1]; rfl

theorem said : Rows.VxlanFlagsSaid :=
  OpenClaim.holds_of_wide 7 Tryd.f7 rfl rfl rfl rfl rfl rfl rfl ⟨rfl, rfl, rfl, rfl, rfl⟩ rfl rfl rfl rfl rfl (by kernel_rfl) Tryd.func7 (by kernel_rfl)
    (of_decide_eq_true (by kernel_rfl)) (by unfold Func.isWrapper; rw [if_neg (of_decide_eq_false (by kernel_rfl))]; exact ⟨rfl, rfl⟩)
    (fun os started H enc _ => lifted os started H enc)

theorem plain (f : FuncId) (fn : Func) (hf : Tryd.pinned.checked.prog.funcNamed Rows.vxlanFlagsRow.func = some f) (hfn : Tryd.pinned.checked.prog.funcs[f]? = some fn) :
    true = Tryd.pinned.checked.prog.looks [] ∧ ∀ (j : Nat) t, fn.params[j]? = some t → Tryd.pinned.checked.prog.wantsStandIn t = false := by
  obtain rfl : f = 7 := Option.some.inj ((show Tryd.prog.funcNamed Rows.vxlanFlagsRow.func = some 7 by kernel_rfl).symm.trans hf) |>.symm
  obtain rfl : fn = Tryd.f7 := (Option.some.inj (Tryd.func7.symm.trans hfn)).symm
  refine ⟨by kernel_rfl, fun j t ht => ?_⟩
  rw [Tryd.params7] at ht
  have hm := Array.mem_of_getElem? ht
  simp only [List.mem_toArray, List.mem_cons, List.not_mem_nil, or_false] at hm
  subst hm
  · exact (show Tryd.prog.wantsStandIn 9 = false by kernel_rfl)

theorem card : Rows.VxlanFlagsCardSaid :=
  Claim7.holds_tied_plain_at .later [] _ _ _ _ said (fun _ h => by cases h) (by kernel_rfl) (fun _ h => by cases h) vxlanFlags_row_tie rfl ⟨rfl, rfl⟩ (by kernel_rfl) rfl plain (by kernel_rfl)
end Go.Proofs.YtocbpkceokgohaaDoor.vxlanFlags
namespace Go.Proofs.YtocbpkceokgohaaDoor
theorem vxlanFlags_card_holds : Rows.VxlanFlagsCardSaid := vxlanFlags.card
end Go.Proofs.YtocbpkceokgohaaDoor
