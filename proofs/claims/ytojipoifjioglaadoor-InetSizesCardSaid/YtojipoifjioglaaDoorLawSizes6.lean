/-
  Proved: for every packet (of a body cut to 1700 bytes) and number, gangwaylaw06.InetSizes answers true (the bytes of a packet that may be are twenty more than its body has; cut short anywhere they are no packet, P6.1, P6.2), and the arguments read afterwards as before. Conditions: errors.errorType holds what the program's own text lays (tied by the card).
-/
import Derived.Test.YtojipoifjioglaaDoorRow6
namespace Go.Proofs.YtojipoifjioglaaDoor.inetSizes
open Go.ChangeShapes Go.WideShapes Go.ChangeAt Go.RowKit Go.Sort
open Go.ChangeMaps (open_string shut_string)

set_option maxRecDepth 100000 in
set_option maxHeartbeats 1000000 in
theorem walk_bad (a b o t q s d : Int) (x y : Bool) (B X : ByteArray) (k : Int) (z : Int) (w : World) (hg : Et w)
    (CU : Hid (∀ W, Calls Tryd.prog 9 #[.agg #[.int .i64 a, .int .i64 b, .bool x, .bool y, .int .i64 o, .int .i64 t, .int .i64 q, .int .u32 s, .int .u32 d, .string B]] W fun e W' => e = .returned (.agg #[.int .i64 a, .int .i64 b, .bool x, .bool y, .int .i64 o, .int .i64 t, .int .i64 q, .int .u32 s, .int .u32 d, .string X]) ∧ Below W.heap.size W W'))
    (CB : Hid (∀ W, Et W → Calls Tryd.prog 10 #[.agg #[.int .i64 a, .int .i64 b, .bool x, .bool y, .int .i64 o, .int .i64 t, .int .i64 q, .int .u32 s, .int .u32 d, .string X]] W fun e W' => e = .returned (.tuple #[.string ByteArray.empty, .int .i64 k]) ∧ Below W.heap.size W W'))
    (hk : (k != 0) = true)
    (CF : Hid (∀ W, Et W → Calls Tryd.prog 12 #[] W fun e W' => e = .returned (.bool true) ∧ Below W.heap.size W W')) :
    Calls Tryd.prog 8 #[.agg #[.int .i64 a, .int .i64 b, .bool x, .bool y, .int .i64 o, .int .i64 t, .int .i64 q, .int .u32 s, .int .u32 d, .string B], .int .i64 z] w fun e w' => e = .returned (.bool true) ∧ Below w.heap.size w w' := by
  go_enter Tryd.func8, Tryd.ntmps8
  go_wp2_with fail
  refine (unhide CU _).mono ?_
  rintro e w1 ⟨rfl, b1⟩
  have h1 := bthen (alloc_below w _) b1
  have r1 := Below.row b1 (heap_alloc_new w _)
  obtain ⟨c0, c1, c2, c3, c4, c5, c6, c7, c8, c9, f0, f1, f2, f3, f4, f5, f6, f7, f8, f9⟩ := cells10 r1
  have h2 := below10 (v0 := .int .i64 a) (v1 := .int .i64 b) (v2 := .bool x) (v3 := .bool y) (v4 := .int .i64 o) (v5 := .int .i64 t) (v6 := .int .i64 q) (v7 := .int .u32 s) (v8 := .int .u32 d) (v9 := .string X) h1 (Nat.le_refl _)
  have r2 := set10 (v0 := .int .i64 a) (v1 := .int .i64 b) (v2 := .bool x) (v3 := .bool y) (v4 := .int .i64 o) (v5 := .int .i64 t) (v6 := .int .i64 q) (v7 := .int .u32 s) (v8 := .int .u32 d) (v9 := .string X) r1
  clear b1 CU
  go_wp2_with fail
  generalize ((((((((((w1.setCell ⟨w.heap.size, 0, none⟩ (.int .i64 a)).setCell ⟨w.heap.size, 1, none⟩ (.int .i64 b)).setCell ⟨w.heap.size, 2, none⟩ (.bool x)).setCell ⟨w.heap.size, 3, none⟩ (.bool y)).setCell ⟨w.heap.size, 4, none⟩ (.int .i64 o)).setCell ⟨w.heap.size, 5, none⟩ (.int .i64 t)).setCell ⟨w.heap.size, 6, none⟩ (.int .i64 q)).setCell ⟨w.heap.size, 7, none⟩ (.int .u32 s)).setCell ⟨w.heap.size, 8, none⟩ (.int .u32 d)).setCell ⟨w.heap.size, 9, none⟩ (.string X)) = w2 at *
  clear h1 r1 c0 c1 c2 c3 c4 c5 c6 c7 c8 c9 f0 f1 f2 f3 f4 f5 f6 f7 f8 f9
  refine (unhide CB _ (hg.next h2)).mono ?_
  rintro e w3 ⟨rfl, b3⟩
  have h3 := bthen h2 b3
  have r3 := Below.row b3 r2
  clear b3 CB h2 r2
  go_wp2_with fail
  refine (unhide CF _ (hg.next h3)).mono ?_
  rintro e w9 ⟨rfl, b9⟩
  have h9 := bthen h3 b9
  go_wp2_with fail
  go_ret
  exact ⟨rfl, h9⟩
set_option maxRecDepth 100000 in
set_option maxHeartbeats 1000000 in
theorem walk_good (a b o t q s d : Int) (x y : Bool) (B X T Y : ByteArray) (z : Int) (n r j : Nat) (w : World) (hg : Et w)
    (CU : Hid (∀ W, Calls Tryd.prog 9 #[.agg #[.int .i64 a, .int .i64 b, .bool x, .bool y, .int .i64 o, .int .i64 t, .int .i64 q, .int .u32 s, .int .u32 d, .string B]] W fun e W' => e = .returned (.agg #[.int .i64 a, .int .i64 b, .bool x, .bool y, .int .i64 o, .int .i64 t, .int .i64 q, .int .u32 s, .int .u32 d, .string X]) ∧ Below W.heap.size W W'))
    (CB : Hid (∀ W, Et W → Calls Tryd.prog 10 #[.agg #[.int .i64 a, .int .i64 b, .bool x, .bool y, .int .i64 o, .int .i64 t, .int .i64 q, .int .u32 s, .int .u32 d, .string X]] W fun e W' => e = .returned (.tuple #[.string T, .int .i64 0]) ∧ Below W.heap.size W W'))
    (hX : X.size = n)
    (hn : (n : Int) ≤ 1700)
    (hT : T.size = 20 + n)
    (hj : (r : Int) % (20 + (n : Int)) = (j : Int))
    (hr : bits BinOp.and IntKind.i64 z 65535 = (r : Int))
    (sl : ∀ W : World, (Instr.slice 9 (.string T) none (some (.int .i64 (j : Int))) none).run Tryd.prog W = .ok (.string Y) W)
    (CP : Hid (∀ W, Et W → Calls Tryd.prog 16 #[.string Y] W fun e W' => e = .returned (.tuple #[.agg #[.int .i64 0, .int .i64 0, .bool false, .bool false, .int .i64 0, .int .i64 0, .int .i64 0, .int .u32 0, .int .u32 0, .string ⟨#[]⟩], .int .i64 60]) ∧ Below W.heap.size W W'))
    (CO : Hid (∀ W, Et W → Calls Tryd.prog 18 #[.string Y] W fun e W' => e = .returned (.tuple #[.string ByteArray.empty, .int .i64 60]) ∧ Below W.heap.size W W'))
    (CF : Hid (∀ W, Et W → Calls Tryd.prog 12 #[] W fun e W' => e = .returned (.bool true) ∧ Below W.heap.size W W')) :
    Calls Tryd.prog 8 #[.agg #[.int .i64 a, .int .i64 b, .bool x, .bool y, .int .i64 o, .int .i64 t, .int .i64 q, .int .u32 s, .int .u32 d, .string B], .int .i64 z] w fun e w' => e = .returned (.bool true) ∧ Below w.heap.size w w' := by
  have zer := same_ip 0 0 0 0 0 0 0 false false ⟨#[]⟩
  go_enter Tryd.func8, Tryd.ntmps8
  go_wp2_with fail
  refine (unhide CU _).mono ?_
  rintro e w1 ⟨rfl, b1⟩
  have h1 := bthen (alloc_below w _) b1
  have r1 := Below.row b1 (heap_alloc_new w _)
  obtain ⟨c0, c1, c2, c3, c4, c5, c6, c7, c8, c9, f0, f1, f2, f3, f4, f5, f6, f7, f8, f9⟩ := cells10 r1
  have h2 := below10 (v0 := .int .i64 a) (v1 := .int .i64 b) (v2 := .bool x) (v3 := .bool y) (v4 := .int .i64 o) (v5 := .int .i64 t) (v6 := .int .i64 q) (v7 := .int .u32 s) (v8 := .int .u32 d) (v9 := .string X) h1 (Nat.le_refl _)
  have r2 := set10 (v0 := .int .i64 a) (v1 := .int .i64 b) (v2 := .bool x) (v3 := .bool y) (v4 := .int .i64 o) (v5 := .int .i64 t) (v6 := .int .i64 q) (v7 := .int .u32 s) (v8 := .int .u32 d) (v9 := .string X) r1
  clear b1 CU
  go_wp2_with fail
  generalize ((((((((((w1.setCell ⟨w.heap.size, 0, none⟩ (.int .i64 a)).setCell ⟨w.heap.size, 1, none⟩ (.int .i64 b)).setCell ⟨w.heap.size, 2, none⟩ (.bool x)).setCell ⟨w.heap.size, 3, none⟩ (.bool y)).setCell ⟨w.heap.size, 4, none⟩ (.int .i64 o)).setCell ⟨w.heap.size, 5, none⟩ (.int .i64 t)).setCell ⟨w.heap.size, 6, none⟩ (.int .i64 q)).setCell ⟨w.heap.size, 7, none⟩ (.int .u32 s)).setCell ⟨w.heap.size, 8, none⟩ (.int .u32 d)).setCell ⟨w.heap.size, 9, none⟩ (.string X)) = w2 at *
  clear h1 r1 c0 c1 c2 c3 c4 c5 c6 c7 c8 c9 f0 f1 f2 f3 f4 f5 f6 f7 f8 f9
  refine (unhide CB _ (hg.next h2)).mono ?_
  rintro e w3 ⟨rfl, b3⟩
  have h3 := bthen h2 b3
  have r3 := Below.row b3 r2
  clear b3 CB h2 r2
  obtain ⟨c0, c1, c2, c3, c4, c5, c6, c7, c8, c9, _⟩ := cells10 r3
  go_wp2_with fail
  refine (unhide CP _ (hg.next h3)).mono ?_
  rintro e w4 ⟨rfl, b4⟩
  have h4 := alloc_then (o := .cells #[.int .i64 0, .int .i64 0, .bool false, .bool false, .int .i64 0, .int .i64 0, .int .i64 0, .int .u32 0, .int .u32 0, .string ⟨#[]⟩] 24) (bthen h3 b4)
  have r4 := heap_alloc_new w4 (.cells #[.int .i64 0, .int .i64 0, .bool false, .bool false, .int .i64 0, .int .i64 0, .int .i64 0, .int .u32 0, .int .u32 0, .string ⟨#[]⟩] 24)
  clear b4 CP h3 r3 c0 c1 c2 c3 c4 c5 c6 c7 c8 c9
  go_wp2_with fail
  refine (unhide CO _ (hg.next h4)).mono ?_
  rintro e w5 ⟨rfl, b5⟩
  have h5 := bthen h4 b5
  have r5 := Below.row b5 r4
  clear b5 h4 r4 CO
  generalize w4.heap.size = G at *
  obtain ⟨c0, c1, c2, c3, c4, c5, c6, c7, c8, c9, _⟩ := cells10 r5
  go_wp2_with fail
  refine (unhide CF _ (hg.next h5)).mono ?_
  rintro e w9 ⟨rfl, b9⟩
  have h9 := bthen h5 b9
  go_wp2_with fail
  go_ret
  exact ⟨rfl, h9⟩
theorem walk (p : Pk) (z : Int) (w : World) (hg : Et w) (hs : p.src < 4294967296) (hd : p.dst < 4294967296) (_ : -9223372036854775808 ≤ z) (_ : z ≤ 9223372036854775807) :
    Calls Tryd.prog 8 #[p.val, .int .i64 z] w fun e w' => e = .returned (.bool true) ∧ Below w.heap.size w w' := by
  obtain ⟨m, l, hl, mx, sx⟩ := firstN 1700 (bs p.body)
  obtain ⟨a, b, x, y, o, t, q, s, d, B⟩ := p
  have hf : (Pk.mk a b x y o t q s d l).fits := ⟨hs, hd, hl⟩
  have CU := fun W => cut_any a b o t q s d x y (bs B) (bs l) m W mx sx
  by_cases hc : (Pk.mk a b x y o t q s d l).check = 0
  · have CB := fun W (_ : Et W) => inetBuild_ok _ W hf hc
    obtain ⟨r, hr, _⟩ := and_mask z 65535 (by decide)
    have hlen := (Pk.mk a b x y o t q s d l).bytes_length
    have hk : r % (20 + l.length) < (Pk.mk a b x y o t q s d l).bytes.length := by rw [hlen]; exact Nat.mod_lt _ (by omega)
    have hb := flaw_short _ _ (check_ok.1 hc) hs hd hk
    have hq : (((Pk.mk a b x y o t q s d l).bytes).take (r % (20 + l.length))).length ≤ 1720 := by rw [List.length_take]; simp only at hlen; omega
    have CP := fun W (g : Et W) => inetParse_any _ W (Nat.le_trans hq (by decide)) g
    have CO := fun W (g : Et W) => inetOlder_any _ W (Nat.le_trans hq (by decide)) g
    have e1 : Pk.parse (((Pk.mk a b x y o t q s d l).bytes).take (r % (20 + l.length))) = (.none, 60) := by unfold Pk.parse; rw [hb]; rfl
    have e2 : olderOf (((Pk.mk a b x y o t q s d l).bytes).take (r % (20 + l.length))) = ([], 60) := by unfold olderOf; rw [hb]; rfl
    rw [e1] at CP
    rw [e2] at CO
    exact walk_good a b o t q s d x y (bs B) (bs l) _ _ z l.length r (r % (20 + l.length)) w hg (hide CU) (hide CB) (bs_size l) (by omega) (by rw [bs_size]; exact hlen) (by simp) hr (fun W => cut_to _ _ (Nat.le_of_lt hk) W) (hide CP) (hide CO) (hide fixed_true)
  · have CB := fun W (g : Et W) => inetBuild_bad _ W hf g hc
    exact walk_bad a b o t q s d x y (bs B) (bs l) _ z w hg (hide CU) (hide CB) (by simpa using hc) (hide fixed_true)
set_option maxRecDepth 100000 in
theorem lifted (os : Os) (started : os.Started) (H : Type) (enc : TypeId × Value → H) :
    ReturnsInHanded {} Tryd.checked os 8 .any (fun w args => (Rows.inetSizesSpec.pre enc Tryd.prog Tryd.f8 [] false w args ∧ laidMetH Tryd.prog [("errors.errorType", Rows.laid_errors_errorType)] w) ∧ sizedMet enc Tryd.prog Tryd.f8 (OpenSpec.ofChange Rows.inetSizesSpec) false w args)
      (Rows.inetSizesSpec.post enc Tryd.prog Tryd.f8 false true false false) := by
  refine returnsInHanded_of_change_and (C := Tryd.checked) (X := fun w _ => laidMetH Tryd.prog [("errors.errorType", Rows.laid_errors_errorType)] w) (fun _ _ _ hh h => h.of_heap hh) own started (by kernel_rfl) Tryd.func8
    (ChangeSpec.witness_at (enc := enc) (C := Tryd.checked) (os := os) (X := fun w _ => laidMetH Tryd.prog [("errors.errorType", Rows.laid_errors_errorType)] w) false
      { World.holding Tryd.prog os ⟨#[], #[], []⟩ with heap := (World.holding Tryd.prog os ⟨#[], #[], []⟩).heap.modify 0 fun
        | .cells _ t frozen => .cells #[.iface 89 (.agg #[.pointer (some ⟨1, 41, none⟩)])] t frozen
        | o => o } #[.agg #[.int .i64 0, .int .i64 0, .bool false, .bool false, .int .i64 0, .int .i64 0, .int .i64 0, .int .u32 0, .int .u32 0, .string ByteArray.empty], .int .i64 0] 8 rfl (by kernel_rfl) (by kernel_rfl) (by kernel_rfl) (by kernel_rfl) (by kernel_rfl) (laid_met os _)) ?_
  intro W base args ds gs before hval0 hW _ _ hL _
  have hval : ∀ (j : Nat) t v, Tryd.f8.params[j]? = some t → args[j]? = some v → Value.okWide Tryd.prog W .any base t v := hval0
  have hW' := hW
  obtain ⟨p, q, hA0, hV0, rfl, hfz, hnd⟩ := hW
  have hA : DataW.TrodAll enc Tryd.prog W 0 (fun _ => true) true Tryd.f8.params.toList args.toList ds p := hA0
  have hV : DataW.TrodVars enc Tryd.prog W (fun _ => true) [] gs q := hV0
  rw [Tryd.params8] at hA hval
  obtain ⟨v0, v1, d0, d1, p0, p1, rfl, rfl, rfl, h0, h1⟩ := trodAll_two hA
  obtain ⟨a0, rfl, rfl, rfl, hs0, hd0, hw0⟩ := open_ip (hval 0 24 v0 rfl rfl) h0
  obtain ⟨a1, rfl, rfl, rfl, w1⟩ := open_int Tryd.underlying3 (hval 1 3 v1 rfl rfl) h1
  have b1 := bounds_i64 w1
  obtain ⟨rfl, rfl⟩ := trodVars_none hV
  have e1 : Rows.inetSizesSpec.fn H ([ipD a0, .lit (.int .i64 a1)] ++ []) = { results := [.lit (.bool true)], args := [ipD a0, .lit (.int .i64 a1)] } := by simp [Rows.inetSizesSpec]
  refine (walk a0 a1 W (et_of_laid hL) hs0 hd0 (by omega) (by omega)).mono fun e W' ⟨he, hb⟩ => ?_
  subst he
  refine ⟨_, rfl, _, _, _, [], [], [], hW', ?_, ?_, ?_, hb.frame _, fun h => by cases h⟩
  · rw [e1]; exact trodAll_mk1 (shut_bool Tryd.underlying4 true)
  · rw [e1]; exact trodAll_mk2 (shut_ip a0 hw0) (shut_int Tryd.underlying3 w1)
  · rw [e1]; rfl

theorem said : Rows.InetSizesSaid :=
  OpenClaim.holds_of_wide 8 Tryd.f8 rfl rfl rfl rfl rfl rfl rfl ⟨rfl, rfl, rfl, rfl, rfl⟩ rfl rfl rfl rfl rfl (by kernel_rfl) Tryd.func8 (by kernel_rfl)
    (of_decide_eq_true (by kernel_rfl)) (by unfold Func.isWrapper; rw [if_neg (of_decide_eq_false (by kernel_rfl))]; exact ⟨rfl, rfl⟩)
    (fun os started H enc _ => lifted os started H enc)

theorem plain (f : FuncId) (fn : Func) (hf : Tryd.pinned.checked.prog.funcNamed Rows.inetSizesRow.func = some f) (hfn : Tryd.pinned.checked.prog.funcs[f]? = some fn) :
    true = Tryd.pinned.checked.prog.looks [] ∧ ∀ (j : Nat) t, fn.params[j]? = some t → Tryd.pinned.checked.prog.wantsStandIn t = false := by
  obtain rfl : f = 8 := Option.some.inj ((show Tryd.prog.funcNamed Rows.inetSizesRow.func = some 8 by kernel_rfl).symm.trans hf) |>.symm
  obtain rfl : fn = Tryd.f8 := (Option.some.inj (Tryd.func8.symm.trans hfn)).symm
  refine ⟨by kernel_rfl, fun j t ht => ?_⟩
  rw [Tryd.params8] at ht
  have hm := Array.mem_of_getElem? ht
  simp only [List.mem_toArray, List.mem_cons, List.not_mem_nil, or_false] at hm
  rcases hm with rfl | rfl
  · exact (show Tryd.prog.wantsStandIn 24 = false by kernel_rfl)
  · exact (show Tryd.prog.wantsStandIn 3 = false by kernel_rfl)

theorem card : Rows.InetSizesCardSaid :=
  Claim7.holds_tied_plain_at .later [] _ _ _ _ said (fun _ h => by cases h) (by kernel_rfl) (fun _ h => by cases h) inetSizes_row_tie rfl ⟨rfl, rfl⟩ (by kernel_rfl) rfl plain (by kernel_rfl)
end Go.Proofs.YtojipoifjioglaaDoor.inetSizes
namespace Go.Proofs.YtojipoifjioglaaDoor
theorem inetSizes_card_holds : Rows.InetSizesCardSaid := inetSizes.card
end Go.Proofs.YtojipoifjioglaaDoor
