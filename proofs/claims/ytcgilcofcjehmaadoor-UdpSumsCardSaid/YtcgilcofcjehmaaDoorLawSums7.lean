/-
  Proved: for every two addresses and datagram (of a body cut to 1700 bytes), gangwaylaw07.UdpSums answers true (without a sum any addresses do; with one, an address that is another one does not, P7.2), and the arguments read afterwards as before. Conditions: errors.errorType holds what the program's own text lays (tied by the card; the walk asks nothing of it).
-/
import Derived.Test.YtcgilcofcjehmaaDoorRow7
import Derived.Deep.RegionHeld3
import Derived.Deep.DeepCutAuto
namespace Go.Proofs.YtcgilcofcjehmaaDoor.udpSums
open Go.ChangeShapes Go.WideShapes Go.ChangeAt Go.RowKit Go.Sort
open Go.ChangeMaps (open_string shut_string)

theorem set_third {W : World} {g : Nat} {t : TypeId} {a0 a1 a2 a3 v : Value} (h : W.heap[g]? = some (.cells #[a0, a1, a2, a3] t (0, 0))) : (W.setCell ⟨g, 2, none⟩ v).heap[g]? = some (.cells #[a0, a1, v, a3] t (0, 0)) := by
  have := heap_setCell_same _ g 2 _ t v h
  simpa using this
theorem below_third {B : Nat} {a W : World} {g : Nat} {v : Value} (h : Below B a W) (hg : B ≤ g) : Below B a (W.setCell ⟨g, 2, none⟩ v) := h.setCell (p := ⟨g, 2, none⟩) hg v
theorem other_third {W : World} {g k : Nat} {v : Value} {o : Obj} (h : k ≠ g) (hk : W.heap[k]? = some o) : (W.setCell ⟨g, 2, none⟩ v).heap[k]? = some o := by
  rw [heap_setCell_other _ ⟨g, 2, none⟩ k _ h]
  exact hk
set_option maxRecDepth 100000 in
set_option maxHeartbeats 1000000 in
theorem walk_bad (s d : Nat) (a b : Int) (x : Bool) (B X : ByteArray) (k : Int) (w : World)
    (CU : Hid (∀ W, Calls Tryd.prog 8 #[.agg #[.int .i64 a, .int .i64 b, .bool x, .string B]] W fun e W' => e = .returned (.agg #[.int .i64 a, .int .i64 b, .bool x, .string X]) ∧ Below W.heap.size W W'))
    (CB : Hid (∀ W, Calls Tryd.prog 9 #[.int .u32 (s : Int), .int .u32 (d : Int), .agg #[.int .i64 a, .int .i64 b, .bool true, .string X]] W fun e W' => e = .returned (.tuple #[.string ByteArray.empty, .int .i64 k]) ∧ Below W.heap.size W W'))
    (hk : (k != 0) = true)
    (CF : Hid (∀ W, Calls Tryd.prog 11 #[] W fun e W' => e = .returned (.bool true) ∧ Below W.heap.size W W')) :
    Calls Tryd.prog 6 #[.agg #[.int .u32 (s : Int), .int .u32 (d : Int)], .agg #[.int .i64 a, .int .i64 b, .bool x, .string B]] w fun e w' => e = .returned (.bool true) ∧ Below w.heap.size w w' := by
  go_enter Tryd.func6, Tryd.ntmps6
  go_wp2_with fail
  refine (unhide CU _).mono ?_
  rintro e w1 ⟨rfl, b1⟩
  have h1 := bthen (alloc_then (alloc_below w (.cells #[.int .u32 (s : Int), .int .u32 (d : Int)] 24))) b1
  have u1 := Below.row b1 (heap_alloc2_new w (.cells #[.int .u32 (s : Int), .int .u32 (d : Int)] 24) _)
  have o1 := Below.row b1 (heap_alloc2_old w (.cells #[.int .u32 (s : Int), .int .u32 (d : Int)] 24) _)
  obtain ⟨c0, c1, c2, c3, f0, f1, f2, f3⟩ := cells4 u1
  have h2 := below4 (v0 := .int .i64 a) (v1 := .int .i64 b) (v2 := .bool x) (v3 := .string X) h1 (Nat.le_succ _)
  have u2 := set4 (v0 := .int .i64 a) (v1 := .int .i64 b) (v2 := .bool x) (v3 := .string X) u1
  have o2 := other4 (v0 := .int .i64 a) (v1 := .int .i64 b) (v2 := .bool x) (v3 := .string X) (Nat.ne_of_lt (Nat.lt_succ_self w.heap.size)) o1
  clear b1 CU
  go_upto_region 2 with fail
  generalize ((((w1.setCell ⟨w.heap.size + 1, 0, none⟩ (.int .i64 a)).setCell ⟨w.heap.size + 1, 1, none⟩ (.int .i64 b)).setCell ⟨w.heap.size + 1, 2, none⟩ (.bool x)).setCell ⟨w.heap.size + 1, 3, none⟩ (.string X)) = w2 at *
  clear h1 u1 o1 c0 c1 c2 c3 f0 f1 f2 f3
  obtain ⟨c0, c1, c2, c3, f0, f1, f2, f3⟩ := cells4 u2
  have h0 := below_third (v := .bool true) (g := w.heap.size + 1) h2 (Nat.le_succ _)
  have u0 := set_third (v := .bool true) u2
  have o0 := other_third (v := .bool true) (Nat.ne_of_lt (Nat.lt_succ_self w.heap.size)) o2
  obtain ⟨p0, p1, _⟩ := cells2 o0
  clear h2
  go_wp2_with fail
  generalize w2.setCell ⟨w.heap.size + 1, 2, none⟩ (.bool true) = w20 at *
  clear u2 o2 c0 c1 c2 c3 f0 f1 f2 f3 p0 p1
  refine (unhide CB _).mono ?_
  rintro e w3 ⟨rfl, b3⟩
  have h3 := bthen h0 b3
  have u3 := Below.row b3 u0
  have o3 := Below.row b3 o0
  clear b3 CB h0 u0 o0
  go_wp2_with fail
  refine (unhide CF _).mono ?_
  rintro e w9 ⟨rfl, b9⟩
  have h9 := bthen h3 b9
  go_wp2_with fail
  go_ret
  exact ⟨rfl, h9⟩
set_option maxRecDepth 100000 in
set_option maxHeartbeats 1000000 in
theorem walk_good (s d : Nat) (a b : Int) (x : Bool) (B X T T2 : ByteArray) (n A D Y : Nat) (w : World)
    (CU : Hid (∀ W, Calls Tryd.prog 8 #[.agg #[.int .i64 a, .int .i64 b, .bool x, .string B]] W fun e W' => e = .returned (.agg #[.int .i64 a, .int .i64 b, .bool x, .string X]) ∧ Below W.heap.size W W'))
    (CB : Hid (∀ W, Calls Tryd.prog 9 #[.int .u32 (s : Int), .int .u32 (d : Int), .agg #[.int .i64 a, .int .i64 b, .bool true, .string X]] W fun e W' => e = .returned (.tuple #[.string T, .int .i64 0]) ∧ Below W.heap.size W W'))
    (hA : ((s : Int) + 1) % 4294967296 = (A : Int))
    (hD : bits BinOp.xor IntKind.u32 (d : Int) 77 = (D : Int))
    (hY : bits BinOp.xor IntKind.u32 (s : Int) 1 = (Y : Int))
    (CP : Hid (∀ W, Calls Tryd.prog 14 #[.int .u32 (A : Int), .int .u32 (D : Int), .string T] W fun e W' => e = .returned (.tuple #[.agg #[.int .i64 a, .int .i64 b, .bool true, .string X], .int .i64 0]) ∧ Below W.heap.size W W'))
    (CB2 : Hid (∀ W, Calls Tryd.prog 9 #[.int .u32 (s : Int), .int .u32 (d : Int), .agg #[.int .i64 a, .int .i64 b, .bool false, .string X]] W fun e W' => e = .returned (.tuple #[.string T2, .int .i64 0]) ∧ Below W.heap.size W W'))
    (CQ : Hid (∀ W, Calls Tryd.prog 14 #[.int .u32 (Y : Int), .int .u32 (d : Int), .string T2] W fun e W' => e = .returned (.tuple #[.agg #[.int .i64 0, .int .i64 0, .bool false, .string ⟨#[]⟩], .int .i64 72]) ∧ Below W.heap.size W W'))
    (hT : T.size = n)
    (hT2 : T2.size = n)
    (CF : Hid (∀ W, Calls Tryd.prog 11 #[] W fun e W' => e = .returned (.bool true) ∧ Below W.heap.size W W')) :
    Calls Tryd.prog 6 #[.agg #[.int .u32 (s : Int), .int .u32 (d : Int)], .agg #[.int .i64 a, .int .i64 b, .bool x, .string B]] w fun e w' => e = .returned (.bool true) ∧ Below w.heap.size w w' := by
  go_enter Tryd.func6, Tryd.ntmps6
  go_wp2_with fail
  refine (unhide CU _).mono ?_
  rintro e w1 ⟨rfl, b1⟩
  have h1 := bthen (alloc_then (alloc_below w (.cells #[.int .u32 (s : Int), .int .u32 (d : Int)] 24))) b1
  have u1 := Below.row b1 (heap_alloc2_new w (.cells #[.int .u32 (s : Int), .int .u32 (d : Int)] 24) _)
  have o1 := Below.row b1 (heap_alloc2_old w (.cells #[.int .u32 (s : Int), .int .u32 (d : Int)] 24) _)
  obtain ⟨c0, c1, c2, c3, f0, f1, f2, f3⟩ := cells4 u1
  have h2 := below4 (v0 := .int .i64 a) (v1 := .int .i64 b) (v2 := .bool x) (v3 := .string X) h1 (Nat.le_succ _)
  have u2 := set4 (v0 := .int .i64 a) (v1 := .int .i64 b) (v2 := .bool x) (v3 := .string X) u1
  have o2 := other4 (v0 := .int .i64 a) (v1 := .int .i64 b) (v2 := .bool x) (v3 := .string X) (Nat.ne_of_lt (Nat.lt_succ_self w.heap.size)) o1
  clear b1 CU
  go_upto_region 2 with fail
  generalize ((((w1.setCell ⟨w.heap.size + 1, 0, none⟩ (.int .i64 a)).setCell ⟨w.heap.size + 1, 1, none⟩ (.int .i64 b)).setCell ⟨w.heap.size + 1, 2, none⟩ (.bool x)).setCell ⟨w.heap.size + 1, 3, none⟩ (.string X)) = w2 at *
  clear h1 u1 o1 c0 c1 c2 c3 f0 f1 f2 f3
  obtain ⟨c0, c1, c2, c3, f0, f1, f2, f3⟩ := cells4 u2
  have h0 := below_third (v := .bool true) (g := w.heap.size + 1) h2 (Nat.le_succ _)
  have u0 := set_third (v := .bool true) u2
  have o0 := other_third (v := .bool true) (Nat.ne_of_lt (Nat.lt_succ_self w.heap.size)) o2
  obtain ⟨p0, p1, _⟩ := cells2 o0
  clear h2
  go_wp2_with fail
  generalize w2.setCell ⟨w.heap.size + 1, 2, none⟩ (.bool true) = w20 at *
  clear u2 o2 c0 c1 c2 c3 f0 f1 f2 f3 p0 p1
  refine (unhide CB _).mono ?_
  rintro e w3 ⟨rfl, b3⟩
  have h3 := bthen h0 b3
  have u3 := Below.row b3 u0
  have o3 := Below.row b3 o0
  clear b3 CB h0 u0 o0
  obtain ⟨p0, p1, _⟩ := cells2 o3
  go_wp2_with fail
  refine (unhide CP _).mono ?_
  rintro e w4 ⟨rfl, b4⟩
  have h4 := alloc_then (o := .cells #[.int .i64 a, .int .i64 b, .bool true, .string X] 26) (bthen h3 b4)
  have u4 := Below.row (alloc_below w4 (.cells #[.int .i64 a, .int .i64 b, .bool true, .string X] 26)) (Below.row b4 u3)
  have o4 := Below.row (alloc_below w4 (.cells #[.int .i64 a, .int .i64 b, .bool true, .string X] 26)) (Below.row b4 o3)
  have v4 := heap_alloc_new w4 (.cells #[.int .i64 a, .int .i64 b, .bool true, .string X] 26)
  have ne : w.heap.size + 1 ≠ w4.heap.size := Nat.ne_of_lt (lt_of_row (Below.row b4 u3))
  clear b4 CP h3 u3 o3 p0 p1
  obtain ⟨c0, c1, c2, c3, f0, f1, f2, f3⟩ := cells4 u4
  obtain ⟨p0, p1, _⟩ := cells2 o4
  have h5 := below_third (v := .bool false) (g := w.heap.size + 1) h4 (Nat.le_succ _)
  have u5 := set_third (v := .bool false) u4
  have o5 := other_third (v := .bool false) (Nat.ne_of_lt (Nat.lt_succ_self w.heap.size)) o4
  have v5 := other_third (v := .bool false) (Ne.symm ne) v4
  go_wp2_with fail
  generalize (w4.alloc (.cells #[.int .i64 a, .int .i64 b, .bool true, .string X] 26)).setCell ⟨w.heap.size + 1, 2, none⟩ (.bool false) = w5 at *
  clear h4 u4 o4 v4 c0 c1 c2 c3 f0 f1 f2 f3 p0 p1
  generalize w4.heap.size = V at *
  refine (unhide CB2 _).mono ?_
  rintro e w6 ⟨rfl, b6⟩
  have h6 := bthen h5 b6
  have u6 := Below.row b6 u5
  have o6 := Below.row b6 o5
  have v6 := Below.row b6 v5
  clear b6 CB2 h5 u5 o5 v5
  obtain ⟨p0, p1, _⟩ := cells2 o6
  go_wp2_with fail
  refine (unhide CQ _).mono ?_
  rintro e w7 ⟨rfl, b7⟩
  have h7 := alloc_then (o := .cells #[.int .i64 0, .int .i64 0, .bool false, .string ⟨#[]⟩] 26) (bthen h6 b7)
  have u7 := Below.row (alloc_below w7 (.cells #[.int .i64 0, .int .i64 0, .bool false, .string ⟨#[]⟩] 26)) (Below.row b7 u6)
  have v7 := Below.row (alloc_below w7 (.cells #[.int .i64 0, .int .i64 0, .bool false, .string ⟨#[]⟩] 26)) (Below.row b7 v6)
  clear b7 CQ h6 u6 o6 v6 p0 p1
  obtain ⟨c0, c1, c2, c3, _⟩ := cells4 u7
  obtain ⟨g0, g1, g2, g3, _⟩ := cells4 v7
  go_wp2_with fail
  refine (unhide CF _).mono ?_
  rintro e w9 ⟨rfl, b9⟩
  have h9 := bthen h7 b9
  go_wp2_with fail
  go_ret
  exact ⟨rfl, h9⟩
theorem walk (s d : Nat) (u : Ud) (w : World) (hs : s < 4294967296) (hd : d < 4294967296) :
    Calls Tryd.prog 6 #[.agg #[.int .u32 (s : Int), .int .u32 (d : Int)], u.val] w fun e w' => e = .returned (.bool true) ∧ Below w.heap.size w w' := by
  obtain ⟨m, l, hl, mx, sx⟩ := firstN 1700 (bs u.body)
  obtain ⟨a, b, x, B⟩ := u
  have CU := fun W => cut_any a b x (bs B) (bs l) m W mx sx
  by_cases hc : (Ud.mk a b true l).check = 0
  · have CB := fun W => udpBuild_ok (Ud.mk a b true l) s d W hl hs hd hc
    have CB2 := fun W => udpBuild_ok (Ud.mk a b false l) s d W hl hs hd hc
    have ho := check_ok.1 hc
    have ho2 : (Ud.mk a b false l).ok := ho
    have l1 := (Ud.mk a b true l).bytes_length s d
    have l2 := (Ud.mk a b false l).bytes_length s d
    simp only at l1 l2
    have hA : (s + 1) % 4294967296 < 4294967296 := Nat.mod_lt _ (by decide)
    have hD : d ^^^ 77 < 4294967296 := Nat.xor_lt_two_pow (n := 32) hd (by decide)
    have hY : s ^^^ 1 < 4294967296 := Nat.xor_lt_two_pow (n := 32) hs (by decide)
    have CP := fun W => udpParse_any ((Ud.mk a b true l).bytes s d) ((s + 1) % 4294967296) (d ^^^ 77) W (by omega) hA hD
    rw [parse_none _ s d _ _ ho rfl] at CP
    have CQ := fun W => udpParse_any ((Ud.mk a b false l).bytes s d) (s ^^^ 1) d W (by omega) hY hd
    rw [parse_other _ s d ho2 rfl hs] at CQ
    exact walk_good s d a b x (bs B) (bs l) _ _ (8 + l.length) _ _ _ w (hide CU) (hide CB) (by omega) (u32_xor_nat d 77 hd (by decide)) (u32_xor_nat s 1 hs (by decide)) (hide CP) (hide CB2) (hide CQ) (by rw [bs_size]; exact l1) (by rw [bs_size]; exact l2) (hide fixed_true)
  · have CB := fun W => udpBuild_bad (Ud.mk a b true l) s d W hl hc
    exact walk_bad s d a b x (bs B) (bs l) _ w (hide CU) (hide CB) (by simpa using hc) (hide fixed_true)
set_option maxRecDepth 100000 in
theorem lifted (os : Os) (started : os.Started) (H : Type) (enc : TypeId × Value → H) :
    ReturnsInHanded {} Tryd.checked os 6 .any (fun w args => (Rows.udpSumsSpec.pre enc Tryd.prog Tryd.f6 [] false w args ∧ laidMetH Tryd.prog [("errors.errorType", Rows.laid_errors_errorType)] w) ∧ sizedMet enc Tryd.prog Tryd.f6 (OpenSpec.ofChange Rows.udpSumsSpec) false w args)
      (Rows.udpSumsSpec.post enc Tryd.prog Tryd.f6 false true false false) := by
  refine returnsInHanded_of_change_and (C := Tryd.checked) (X := fun w _ => laidMetH Tryd.prog [("errors.errorType", Rows.laid_errors_errorType)] w) (fun _ _ _ hh h => h.of_heap hh) own started (by kernel_rfl) Tryd.func6
    (ChangeSpec.witness_at (enc := enc) (C := Tryd.checked) (os := os) (X := fun w _ => laidMetH Tryd.prog [("errors.errorType", Rows.laid_errors_errorType)] w) false
      { World.holding Tryd.prog os ⟨#[], #[], []⟩ with heap := (World.holding Tryd.prog os ⟨#[], #[], []⟩).heap.modify 0 fun
        | .cells _ t frozen => .cells #[.iface 86 (.agg #[.pointer (some ⟨1, 59, none⟩)])] t frozen
        | o => o } #[.agg #[.int .u32 0, .int .u32 0], .agg #[.int .i64 0, .int .i64 0, .bool false, .string ByteArray.empty]] 8 rfl (by kernel_rfl) (by kernel_rfl) (by kernel_rfl) (by kernel_rfl) (by kernel_rfl) (laid_met os _)) ?_
  intro W base args ds gs before hval0 hW _ _ _ _
  have hval : ∀ (j : Nat) t v, Tryd.f6.params[j]? = some t → args[j]? = some v → Value.okWide Tryd.prog W .any base t v := hval0
  have hW' := hW
  obtain ⟨p, q, hA0, hV0, rfl, hfz, hnd⟩ := hW
  have hA : DataW.TrodAll enc Tryd.prog W 0 (fun _ => true) true Tryd.f6.params.toList args.toList ds p := hA0
  have hV : DataW.TrodVars enc Tryd.prog W (fun _ => true) [] gs q := hV0
  rw [Tryd.params6] at hA hval
  obtain ⟨v0, v1, d0, d1, p0, p1, rfl, rfl, rfl, h0, h1⟩ := trodAll_two hA
  obtain ⟨s0, d0, rfl, rfl, rfl, hs0, hd0, ws0, wd0⟩ := open_way (hval 0 24 v0 rfl rfl) h0
  obtain ⟨a1, rfl, rfl, rfl, hw1⟩ := open_udp (hval 1 26 v1 rfl rfl) h1
  obtain ⟨rfl, rfl⟩ := trodVars_none hV
  have e1 : Rows.udpSumsSpec.fn H ([wayD s0 d0, udD a1] ++ []) = { results := [.lit (.bool true)], args := [wayD s0 d0, udD a1] } := by simp [Rows.udpSumsSpec]
  refine (walk s0 d0 a1 W hs0 hd0).mono fun e W' ⟨he, hb⟩ => ?_
  subst he
  refine ⟨_, rfl, _, _, _, [], [], [], hW', ?_, ?_, ?_, hb.frame _, fun h => by cases h⟩
  · rw [e1]; exact trodAll_mk1 (shut_bool Tryd.underlying4 true)
  · rw [e1]; exact trodAll_mk2 (shut_way s0 d0 ws0 wd0) (shut_udp a1 hw1)
  · rw [e1]; rfl

theorem said : Rows.UdpSumsSaid :=
  OpenClaim.holds_of_wide 6 Tryd.f6 rfl rfl rfl rfl rfl rfl rfl ⟨rfl, rfl, rfl, rfl, rfl⟩ rfl rfl rfl rfl rfl (by kernel_rfl) Tryd.func6 (by kernel_rfl)
    (of_decide_eq_true (by kernel_rfl)) (by unfold Func.isWrapper; rw [if_neg (of_decide_eq_false (by kernel_rfl))]; exact ⟨rfl, rfl⟩)
    (fun os started H enc _ => lifted os started H enc)

theorem plain (f : FuncId) (fn : Func) (hf : Tryd.pinned.checked.prog.funcNamed Rows.udpSumsRow.func = some f) (hfn : Tryd.pinned.checked.prog.funcs[f]? = some fn) :
    true = Tryd.pinned.checked.prog.looks [] ∧ ∀ (j : Nat) t, fn.params[j]? = some t → Tryd.pinned.checked.prog.wantsStandIn t = false := by
  obtain rfl : f = 6 := Option.some.inj ((show Tryd.prog.funcNamed Rows.udpSumsRow.func = some 6 by kernel_rfl).symm.trans hf) |>.symm
  obtain rfl : fn = Tryd.f6 := (Option.some.inj (Tryd.func6.symm.trans hfn)).symm
  refine ⟨by kernel_rfl, fun j t ht => ?_⟩
  rw [Tryd.params6] at ht
  have hm := Array.mem_of_getElem? ht
  simp only [List.mem_toArray, List.mem_cons, List.not_mem_nil, or_false] at hm
  rcases hm with rfl | rfl
  · exact (show Tryd.prog.wantsStandIn 24 = false by kernel_rfl)
  · exact (show Tryd.prog.wantsStandIn 26 = false by kernel_rfl)

theorem card : Rows.UdpSumsCardSaid :=
  Claim7.holds_tied_plain_at .later [] _ _ _ _ said (fun _ h => by cases h) (by kernel_rfl) (fun _ h => by cases h) udpSums_row_tie rfl ⟨rfl, rfl⟩ (by kernel_rfl) rfl plain (by kernel_rfl)
end Go.Proofs.YtcgilcofcjehmaaDoor.udpSums
namespace Go.Proofs.YtcgilcofcjehmaaDoor
theorem udpSums_card_holds : Rows.UdpSumsCardSaid := udpSums.card
end Go.Proofs.YtcgilcofcjehmaaDoor
