/-
  Proved: for every text (cut to 1700 bytes), gangwaylaw06.InetParses answers true (the packet of any bytes, and the bytes when it is older, or what is wrong, is as the document says, P6.2, P6.3), and the arguments read afterwards as before. Conditions: errors.errorType holds what the program's own text lays (tied by the card).
-/
import Derived.Test.YtojipoifjioglaaDoorRow6
import Derived.Test.YtojipoifjioglaaDoorRef6e
namespace Go.Proofs.YtojipoifjioglaaDoor.inetParses
open Go.ChangeShapes Go.WideShapes Go.ChangeAt Go.RowKit Go.Sort
open Go.ChangeMaps (open_string shut_string)

set_option maxRecDepth 100000 in
set_option maxHeartbeats 4000000 in
theorem walk_at (a b o t q s d : Int) (x y : Bool) (B S0 S T : ByteArray) (i : Nat) (k g : Int) (w : World) (hg : Et w)
    (ms : ∀ (ts : Array TypeId) (t : TypeId) (W : World), (Builtin.min_ ts t #[.int .i64 (S0.size : Int), .int .i64 1700]).run Tryd.prog W = .ok (.int .i64 (i : Int)) W)
    (ss : ∀ W : World, (Instr.slice 9 (.string S0) none (some (.int .i64 (i : Int))) none).run Tryd.prog W = .ok (.string S) W)
    (P : Hid (∀ W, Et W → Calls Tryd.prog 16 #[.string S] W fun e W' => e = .returned (.tuple #[.agg #[.int .i64 a, .int .i64 b, .bool x, .bool y, .int .i64 o, .int .i64 t, .int .i64 q, .int .u32 s, .int .u32 d, .string B], .int .i64 k]) ∧ Below W.heap.size W W'))
    (D : Hid (∀ W, Calls Tryd.prog 17 #[.string S] W fun e W' => e = .returned (.tuple #[.agg #[.int .i64 a, .int .i64 b, .bool x, .bool y, .int .i64 o, .int .i64 t, .int .i64 q, .int .u32 s, .int .u32 d, .string B], .int .i64 k]) ∧ Below W.heap.size W W'))
    (CO : Hid (∀ W, Et W → Calls Tryd.prog 18 #[.string S] W fun e W' => e = .returned (.tuple #[.string T, .int .i64 g]) ∧ Below W.heap.size W W'))
    (DO : Hid (∀ W, Calls Tryd.prog 19 #[.string S] W fun e W' => e = .returned (.tuple #[.string T, .int .i64 g]) ∧ Below W.heap.size W W'))
    (CF : Hid (∀ W, Et W → Calls Tryd.prog 12 #[] W fun e W' => e = .returned (.bool true) ∧ Below W.heap.size W W')) :
    Calls Tryd.prog 4 #[.string S0] w fun e w' => e = .returned (.bool true) ∧ Below w.heap.size w w' := by
  have sm := same_ip a b o t q s d x y B
  go_enter Tryd.func4, Tryd.ntmps4
  go_wp2_with fail
  refine (unhide P _ hg).mono ?_
  rintro e w1 ⟨rfl, b1⟩
  have h1 := alloc_then (o := .cells #[.int .i64 a, .int .i64 b, .bool x, .bool y, .int .i64 o, .int .i64 t, .int .i64 q, .int .u32 s, .int .u32 d, .string B] 24) b1
  have r1 := heap_alloc_new w1 (.cells #[.int .i64 a, .int .i64 b, .bool x, .bool y, .int .i64 o, .int .i64 t, .int .i64 q, .int .u32 s, .int .u32 d, .string B] 24)
  clear b1 P
  go_wp2_with fail
  generalize w1.alloc (.cells #[.int .i64 a, .int .i64 b, .bool x, .bool y, .int .i64 o, .int .i64 t, .int .i64 q, .int .u32 s, .int .u32 d, .string B] 24) = w2 at *
  generalize w1.heap.size = G at *
  refine (unhide D _).mono ?_
  rintro e w3 ⟨rfl, b3⟩
  have h3 := alloc_then (o := .cells #[.int .i64 a, .int .i64 b, .bool x, .bool y, .int .i64 o, .int .i64 t, .int .i64 q, .int .u32 s, .int .u32 d, .string B] 24) (bthen h1 b3)
  have r3 := Below.row (alloc_below w3 (.cells #[.int .i64 a, .int .i64 b, .bool x, .bool y, .int .i64 o, .int .i64 t, .int .i64 q, .int .u32 s, .int .u32 d, .string B] 24)) (Below.row b3 r1)
  have q3 := heap_alloc_new w3 (.cells #[.int .i64 a, .int .i64 b, .bool x, .bool y, .int .i64 o, .int .i64 t, .int .i64 q, .int .u32 s, .int .u32 d, .string B] 24)
  clear b3 D h1 r1
  go_wp2_with fail
  generalize w3.alloc (.cells #[.int .i64 a, .int .i64 b, .bool x, .bool y, .int .i64 o, .int .i64 t, .int .i64 q, .int .u32 s, .int .u32 d, .string B] 24) = w4 at *
  generalize w3.heap.size = K at *
  refine (unhide CO _ (hg.next h3)).mono ?_
  rintro e w5 ⟨rfl, b5⟩
  have h5 := bthen h3 b5
  have r5 := Below.row b5 r3
  have q5 := Below.row b5 q3
  clear b5 CO h3 r3 q3
  go_wp2_with fail
  refine (unhide DO _).mono ?_
  rintro e w6 ⟨rfl, b6⟩
  have h6 := bthen h5 b6
  have r6 := Below.row b6 r5
  have q6 := Below.row b6 q5
  clear b6 DO h5 r5 q5
  go_wp2_with fail
  refine (unhide CF _ (hg.next h6)).mono ?_
  rintro e w7 ⟨rfl, b7⟩
  have h7 := bthen h6 b7
  have r7 := Below.row b7 r6
  have q7 := Below.row b7 q6
  clear b7 CF h6 r6 q6
  obtain ⟨c0, c1, c2, c3, c4, c5, c6, c7, c8, c9, _⟩ := cells10 r7
  obtain ⟨k0, k1, k2, k3, k4, k5, k6, k7, k8, k9, _⟩ := cells10 q7
  go_wp2_with fail
  go_ret
  exact ⟨rfl, h7⟩
theorem walk (S0 : ByteArray) (w : World) (hg : Et w) (_ : S0.size ≤ maxLen) :
    Calls Tryd.prog 4 #[.string S0] w fun e w' => e = .returned (.bool true) ∧ Below w.heap.size w w' := by
  obtain ⟨i, r, hr, ms, ss⟩ := firstN 1700 S0
  exact walk_at _ _ _ _ _ _ _ _ _ (bs (Pk.parse r).1.body) S0 (bs r) _ i _ _ w hg ms ss (hide fun W g => inetParse_any r W (by omega) g) (hide fun W => rparse_any r W (by omega)) (hide fun W g => inetOlder_any r W (by omega) g) (hide fun W => rolder_any r W (by omega)) (hide fixed_true)
set_option maxRecDepth 100000 in
theorem lifted (os : Os) (started : os.Started) (H : Type) (enc : TypeId × Value → H) :
    ReturnsInHanded {} Tryd.checked os 4 .any (fun w args => (Rows.inetParsesSpec.pre enc Tryd.prog Tryd.f4 [] false w args ∧ laidMetH Tryd.prog [("errors.errorType", Rows.laid_errors_errorType)] w) ∧ sizedMet enc Tryd.prog Tryd.f4 (OpenSpec.ofChange Rows.inetParsesSpec) false w args)
      (Rows.inetParsesSpec.post enc Tryd.prog Tryd.f4 false true false false) := by
  refine returnsInHanded_of_change_and (C := Tryd.checked) (X := fun w _ => laidMetH Tryd.prog [("errors.errorType", Rows.laid_errors_errorType)] w) (fun _ _ _ hh h => h.of_heap hh) own started (by kernel_rfl) Tryd.func4
    (ChangeSpec.witness_at (enc := enc) (C := Tryd.checked) (os := os) (X := fun w _ => laidMetH Tryd.prog [("errors.errorType", Rows.laid_errors_errorType)] w) false
      { World.holding Tryd.prog os ⟨#[], #[], []⟩ with heap := (World.holding Tryd.prog os ⟨#[], #[], []⟩).heap.modify 0 fun
        | .cells _ t frozen => .cells #[.iface 89 (.agg #[.pointer (some ⟨1, 41, none⟩)])] t frozen
        | o => o } #[.string ByteArray.empty] 8 rfl (by kernel_rfl) (by kernel_rfl) (by kernel_rfl) (by kernel_rfl) (by kernel_rfl) (laid_met os _)) ?_
  intro W base args ds gs before hval0 hW _ _ hL _
  have hval : ∀ (j : Nat) t v, Tryd.f4.params[j]? = some t → args[j]? = some v → Value.okWide Tryd.prog W .any base t v := hval0
  have hW' := hW
  obtain ⟨p, q, hA0, hV0, rfl, hfz, hnd⟩ := hW
  have hA : DataW.TrodAll enc Tryd.prog W 0 (fun _ => true) true Tryd.f4.params.toList args.toList ds p := hA0
  have hV : DataW.TrodVars enc Tryd.prog W (fun _ => true) [] gs q := hV0
  rw [Tryd.params4] at hA hval
  obtain ⟨v0, d0, rfl, rfl, h0⟩ := trodAll_one hA
  obtain ⟨a0, rfl, rfl, rfl, w0⟩ := open_string Tryd.underlying9 (hval 0 9 v0 rfl rfl) h0
  obtain ⟨rfl, rfl⟩ := trodVars_none hV
  have e1 : Rows.inetParsesSpec.fn H ([.lit (.string a0.data.toList)] ++ []) = { results := [.lit (.bool true)], args := [.lit (.string a0.data.toList)] } := by simp [Rows.inetParsesSpec]
  refine (walk a0 W (et_of_laid hL) w0).mono fun e W' ⟨he, hb⟩ => ?_
  subst he
  refine ⟨_, rfl, _, _, _, [], [], [], hW', ?_, ?_, ?_, hb.frame _, fun h => by cases h⟩
  · rw [e1]; exact trodAll_mk1 (shut_bool Tryd.underlying4 true)
  · rw [e1]; exact trodAll_mk1 (shut_string Tryd.underlying9 w0)
  · rw [e1]; rfl

theorem said : Rows.InetParsesSaid :=
  OpenClaim.holds_of_wide 4 Tryd.f4 rfl rfl rfl rfl rfl rfl rfl ⟨rfl, rfl, rfl, rfl, rfl⟩ rfl rfl rfl rfl rfl (by kernel_rfl) Tryd.func4 (by kernel_rfl)
    (of_decide_eq_true (by kernel_rfl)) (by unfold Func.isWrapper; rw [if_neg (of_decide_eq_false (by kernel_rfl))]; exact ⟨rfl, rfl⟩)
    (fun os started H enc _ => lifted os started H enc)

theorem plain (f : FuncId) (fn : Func) (hf : Tryd.pinned.checked.prog.funcNamed Rows.inetParsesRow.func = some f) (hfn : Tryd.pinned.checked.prog.funcs[f]? = some fn) :
    true = Tryd.pinned.checked.prog.looks [] ∧ ∀ (j : Nat) t, fn.params[j]? = some t → Tryd.pinned.checked.prog.wantsStandIn t = false := by
  obtain rfl : f = 4 := Option.some.inj ((show Tryd.prog.funcNamed Rows.inetParsesRow.func = some 4 by kernel_rfl).symm.trans hf) |>.symm
  obtain rfl : fn = Tryd.f4 := (Option.some.inj (Tryd.func4.symm.trans hfn)).symm
  refine ⟨by kernel_rfl, fun j t ht => ?_⟩
  rw [Tryd.params4] at ht
  have hm := Array.mem_of_getElem? ht
  simp only [List.mem_toArray, List.mem_cons, List.not_mem_nil, or_false] at hm
  subst hm
  · exact (show Tryd.prog.wantsStandIn 9 = false by kernel_rfl)

theorem card : Rows.InetParsesCardSaid :=
  Claim7.holds_tied_plain_at .later [] _ _ _ _ said (fun _ h => by cases h) (by kernel_rfl) (fun _ h => by cases h) inetParses_row_tie rfl ⟨rfl, rfl⟩ (by kernel_rfl) rfl plain (by kernel_rfl)
end Go.Proofs.YtojipoifjioglaaDoor.inetParses
namespace Go.Proofs.YtojipoifjioglaaDoor
theorem inetParses_card_holds : Rows.InetParsesCardSaid := inetParses.card
end Go.Proofs.YtojipoifjioglaaDoor
