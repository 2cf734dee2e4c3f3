/-
  Proved: for every two addresses and datagram (of a body cut to 1700 bytes), gangwaylaw07.UdpSizes answers true (the bytes of a datagram that may be are eight more than its body has; without a sum their sum is 0, with one it is not, P7.1), and the arguments read afterwards as before. Conditions: errors.errorType holds what the program's own text lays (tied by the card; the walk asks nothing of it).
-/
import Derived.Test.YtcgilcofcjehmaaDoorRow7
namespace Go.Proofs.YtcgilcofcjehmaaDoor.udpSizes
open Go.ChangeShapes Go.WideShapes Go.ChangeAt Go.RowKit Go.Sort
open Go.ChangeMaps (open_string shut_string)

set_option maxRecDepth 100000 in
set_option maxHeartbeats 1000000 in
theorem walk_bad (s d : Nat) (a b : Int) (x : Bool) (B X : ByteArray) (k : Int) (w : World)
    (CU : Hid (∀ W, Calls Tryd.prog 8 #[.agg #[.int .i64 a, .int .i64 b, .bool x, .string B]] W fun e W' => e = .returned (.agg #[.int .i64 a, .int .i64 b, .bool x, .string X]) ∧ Below W.heap.size W W'))
    (CB : Hid (∀ W, Calls Tryd.prog 9 #[.int .u32 (s : Int), .int .u32 (d : Int), .agg #[.int .i64 a, .int .i64 b, .bool x, .string X]] W fun e W' => e = .returned (.tuple #[.string ByteArray.empty, .int .i64 k]) ∧ Below W.heap.size W W'))
    (hk : (k != 0) = true)
    (CK : Hid (∀ W, Calls Tryd.prog 12 #[.agg #[.int .i64 a, .int .i64 b, .bool x, .string X]] W fun e W' => e = .returned (.int .i64 k) ∧ Below W.heap.size W W'))
    (CF : Hid (∀ W, Calls Tryd.prog 11 #[] W fun e W' => e = .returned (.bool true) ∧ Below W.heap.size W W')) :
    Calls Tryd.prog 7 #[.agg #[.int .u32 (s : Int), .int .u32 (d : Int)], .agg #[.int .i64 a, .int .i64 b, .bool x, .string B]] w fun e w' => e = .returned (.bool true) ∧ Below w.heap.size w w' := by
  go_enter Tryd.func7, Tryd.ntmps7
  go_wp2_with fail
  refine (unhide CU _).mono ?_
  rintro e w1 ⟨rfl, b1⟩
  have h1 := bthen (alloc_then (alloc_below w (.cells #[.int .u32 (s : Int), .int .u32 (d : Int)] 24))) b1
  have u1 := Below.row b1 (heap_alloc2_new w (.cells #[.int .u32 (s : Int), .int .u32 (d : Int)] 24) _)
  have o1 := Below.row b1 (heap_alloc2_old w (.cells #[.int .u32 (s : Int), .int .u32 (d : Int)] 24) _)
  obtain ⟨c0, c1, c2, c3, f0, f1, f2, f3⟩ := cells4 u1
  have h2 := below4 (v0 := .int .i64 a) (v1 := .int .i64 b) (v2 := .bool x) (v3 := .string X) h1 (Nat.le_succ _)
  have u2 := set4 (v0 := .int .i64 a) (v1 := .int .i64 b) (v2 := .bool x) (v3 := .string X) u1
  have o2 := other4 (v0 := .int .i64 a) (v1 := .int .i64 b) (v2 := .bool x) (v3 := .string X) (Nat.ne_of_lt (Nat.lt_succ_self w.heap.size)) o1
  obtain ⟨p0, p1, _⟩ := cells2 o2
  clear b1 CU
  go_wp2_with fail
  generalize ((((w1.setCell ⟨w.heap.size + 1, 0, none⟩ (.int .i64 a)).setCell ⟨w.heap.size + 1, 1, none⟩ (.int .i64 b)).setCell ⟨w.heap.size + 1, 2, none⟩ (.bool x)).setCell ⟨w.heap.size + 1, 3, none⟩ (.string X)) = w2 at *
  clear h1 u1 o1 c0 c1 c2 c3 f0 f1 f2 f3 p0 p1
  refine (unhide CB _).mono ?_
  rintro e w3 ⟨rfl, b3⟩
  have h3 := bthen h2 b3
  have u3 := Below.row b3 u2
  have o3 := Below.row b3 o2
  clear b3 CB h2 u2 o2
  obtain ⟨c0, c1, c2, c3, _⟩ := cells4 u3
  go_wp2_with fail
  refine (unhide CK _).mono ?_
  rintro e w4 ⟨rfl, b4⟩
  have h4 := bthen h3 b4
  clear b4 h3 CK
  go_wp2_with fail
  refine (unhide CF _).mono ?_
  rintro e w9 ⟨rfl, b9⟩
  have h9 := bthen h4 b9
  go_wp2_with fail
  go_ret
  exact ⟨rfl, h9⟩
set_option maxRecDepth 100000 in
set_option maxHeartbeats 4000000 in
theorem walk_bare (s d : Nat) (a b : Int) (B X T : ByteArray) (n : Nat) (w : World)
    (CU : Hid (∀ W, Calls Tryd.prog 8 #[.agg #[.int .i64 a, .int .i64 b, .bool true, .string B]] W fun e W' => e = .returned (.agg #[.int .i64 a, .int .i64 b, .bool true, .string X]) ∧ Below W.heap.size W W'))
    (CB : Hid (∀ W, Calls Tryd.prog 9 #[.int .u32 (s : Int), .int .u32 (d : Int), .agg #[.int .i64 a, .int .i64 b, .bool true, .string X]] W fun e W' => e = .returned (.tuple #[.string T, .int .i64 0]) ∧ Below W.heap.size W W'))
    (hX : X.size = n)
    (hn : (n : Int) ≤ 1700)
    (hT : T.size = 8 + n)
    (z1 : ∀ W : World, (Instr.slice 9 (.string T) (some (.int .i64 6)) (some (.int .i64 8)) none).run Tryd.prog W = .ok (.string ⟨#[0, 0]⟩) W)
    (z2 : ∀ W : World, (Instr.slice 9 (.string T) (some (.int .i64 8)) none none).run Tryd.prog W = .ok (.string X) W)
    (CF : Hid (∀ W, Calls Tryd.prog 11 #[] W fun e W' => e = .returned (.bool true) ∧ Below W.heap.size W W')) :
    Calls Tryd.prog 7 #[.agg #[.int .u32 (s : Int), .int .u32 (d : Int)], .agg #[.int .i64 a, .int .i64 b, .bool true, .string B]] w fun e w' => e = .returned (.bool true) ∧ Below w.heap.size w w' := by
  go_enter Tryd.func7, Tryd.ntmps7
  go_wp2_with fail
  refine (unhide CU _).mono ?_
  rintro e w1 ⟨rfl, b1⟩
  have h1 := bthen (alloc_then (alloc_below w (.cells #[.int .u32 (s : Int), .int .u32 (d : Int)] 24))) b1
  have u1 := Below.row b1 (heap_alloc2_new w (.cells #[.int .u32 (s : Int), .int .u32 (d : Int)] 24) _)
  have o1 := Below.row b1 (heap_alloc2_old w (.cells #[.int .u32 (s : Int), .int .u32 (d : Int)] 24) _)
  obtain ⟨c0, c1, c2, c3, f0, f1, f2, f3⟩ := cells4 u1
  have h2 := below4 (v0 := .int .i64 a) (v1 := .int .i64 b) (v2 := .bool true) (v3 := .string X) h1 (Nat.le_succ _)
  have u2 := set4 (v0 := .int .i64 a) (v1 := .int .i64 b) (v2 := .bool true) (v3 := .string X) u1
  have o2 := other4 (v0 := .int .i64 a) (v1 := .int .i64 b) (v2 := .bool true) (v3 := .string X) (Nat.ne_of_lt (Nat.lt_succ_self w.heap.size)) o1
  obtain ⟨p0, p1, _⟩ := cells2 o2
  clear b1 CU
  go_wp2_with fail
  generalize ((((w1.setCell ⟨w.heap.size + 1, 0, none⟩ (.int .i64 a)).setCell ⟨w.heap.size + 1, 1, none⟩ (.int .i64 b)).setCell ⟨w.heap.size + 1, 2, none⟩ (.bool true)).setCell ⟨w.heap.size + 1, 3, none⟩ (.string X)) = w2 at *
  clear h1 u1 o1 c0 c1 c2 c3 f0 f1 f2 f3 p0 p1
  refine (unhide CB _).mono ?_
  rintro e w3 ⟨rfl, b3⟩
  have h3 := bthen h2 b3
  have u3 := Below.row b3 u2
  have o3 := Below.row b3 o2
  clear b3 CB h2 u2 o2
  go_wp2_with fail
  obtain ⟨c0, c1, c2, c3, _⟩ := cells4 u3
  replace c0 := cell_regrown c0
  replace c1 := cell_regrown c1
  replace c2 := cell_regrown c2
  replace c3 := cell_regrown c3
  have cF := at_grown (unhide CF) w3
  clear CF u3 o3
  refine wp_region_quiet_below (by kernel_rfl) (by kernel_rfl) ?_
  repeat (go_big_quiet_step ((go_at_call 11; exact cF _ _)))
  refine wpQuiet_nil ?_
  rintro _ ⟨⟨dr, osr⟩, rfl⟩
  go_wp2
  go_ret
  exact ⟨rfl, grown_then h3 dr osr⟩
set_option maxRecDepth 100000 in
set_option maxHeartbeats 4000000 in
theorem walk_sum (s d : Nat) (a b : Int) (B X T Z : ByteArray) (n : Nat) (w : World)
    (CU : Hid (∀ W, Calls Tryd.prog 8 #[.agg #[.int .i64 a, .int .i64 b, .bool false, .string B]] W fun e W' => e = .returned (.agg #[.int .i64 a, .int .i64 b, .bool false, .string X]) ∧ Below W.heap.size W W'))
    (CB : Hid (∀ W, Calls Tryd.prog 9 #[.int .u32 (s : Int), .int .u32 (d : Int), .agg #[.int .i64 a, .int .i64 b, .bool false, .string X]] W fun e W' => e = .returned (.tuple #[.string T, .int .i64 0]) ∧ Below W.heap.size W W'))
    (hX : X.size = n)
    (hn : (n : Int) ≤ 1700)
    (hT : T.size = 8 + n)
    (z1 : ∀ W : World, (Instr.slice 9 (.string T) (some (.int .i64 6)) (some (.int .i64 8)) none).run Tryd.prog W = .ok (.string Z) W)
    (z2 : ∀ W : World, (Instr.slice 9 (.string T) (some (.int .i64 8)) none none).run Tryd.prog W = .ok (.string X) W)
    (hz : (Z.toList == [0, 0]) = false)
    (CF : Hid (∀ W, Calls Tryd.prog 11 #[] W fun e W' => e = .returned (.bool true) ∧ Below W.heap.size W W')) :
    Calls Tryd.prog 7 #[.agg #[.int .u32 (s : Int), .int .u32 (d : Int)], .agg #[.int .i64 a, .int .i64 b, .bool false, .string B]] w fun e w' => e = .returned (.bool true) ∧ Below w.heap.size w w' := by
  go_enter Tryd.func7, Tryd.ntmps7
  go_wp2_with fail
  refine (unhide CU _).mono ?_
  rintro e w1 ⟨rfl, b1⟩
  have h1 := bthen (alloc_then (alloc_below w (.cells #[.int .u32 (s : Int), .int .u32 (d : Int)] 24))) b1
  have u1 := Below.row b1 (heap_alloc2_new w (.cells #[.int .u32 (s : Int), .int .u32 (d : Int)] 24) _)
  have o1 := Below.row b1 (heap_alloc2_old w (.cells #[.int .u32 (s : Int), .int .u32 (d : Int)] 24) _)
  obtain ⟨c0, c1, c2, c3, f0, f1, f2, f3⟩ := cells4 u1
  have h2 := below4 (v0 := .int .i64 a) (v1 := .int .i64 b) (v2 := .bool false) (v3 := .string X) h1 (Nat.le_succ _)
  have u2 := set4 (v0 := .int .i64 a) (v1 := .int .i64 b) (v2 := .bool false) (v3 := .string X) u1
  have o2 := other4 (v0 := .int .i64 a) (v1 := .int .i64 b) (v2 := .bool false) (v3 := .string X) (Nat.ne_of_lt (Nat.lt_succ_self w.heap.size)) o1
  obtain ⟨p0, p1, _⟩ := cells2 o2
  clear b1 CU
  go_wp2_with fail
  generalize ((((w1.setCell ⟨w.heap.size + 1, 0, none⟩ (.int .i64 a)).setCell ⟨w.heap.size + 1, 1, none⟩ (.int .i64 b)).setCell ⟨w.heap.size + 1, 2, none⟩ (.bool false)).setCell ⟨w.heap.size + 1, 3, none⟩ (.string X)) = w2 at *
  clear h1 u1 o1 c0 c1 c2 c3 f0 f1 f2 f3 p0 p1
  refine (unhide CB _).mono ?_
  rintro e w3 ⟨rfl, b3⟩
  have h3 := bthen h2 b3
  have u3 := Below.row b3 u2
  have o3 := Below.row b3 o2
  clear b3 CB h2 u2 o2
  go_wp2_with fail
  obtain ⟨c0, c1, c2, c3, _⟩ := cells4 u3
  replace c0 := cell_regrown c0
  replace c1 := cell_regrown c1
  replace c2 := cell_regrown c2
  replace c3 := cell_regrown c3
  have cF := at_grown (unhide CF) w3
  clear CF u3 o3
  refine wp_region_quiet_below (by kernel_rfl) (by kernel_rfl) ?_
  repeat (go_big_quiet_step ((go_at_call 11; exact cF _ _)))
  refine wpQuiet_nil ?_
  rintro _ ⟨⟨dr, osr⟩, rfl⟩
  go_wp2
  go_ret
  exact ⟨rfl, grown_then h3 dr osr⟩
theorem be_zero (c : Nat) (hc : c < 65536) (h : c ≠ 0) : ((bs (be c 2)).toList == [0, 0]) = false := by
  rw [Lib.toList_data, bs_toList, beq_eq_false_iff_ne]
  intro e
  have := num_be c 2 hc
  rw [e] at this
  exact h (this.symm.trans rfl)
theorem cut_mid (l : List UInt8) (a b : Nat) (h1 : a ≤ b) (h2 : b ≤ l.length) (W : World) : (Instr.slice 9 (.string (bs l)) (some (.int .i64 (a : Int))) (some (.int .i64 (b : Int))) none).run Tryd.prog W = .ok (.string (bs ((l.drop a).take (b - a)))) W := by
  have e := run_slice_string_lh (P := Tryd.prog) W 9 (bs l) Tryd.underlying9 .i64 .i64 (a : Int) (b : Int) (by omega) (by omega) (by rw [bs_size]; omega)
  rw [show ((a : Int)).toNat = a by omega, show ((b : Int)).toNat = b by omega] at e
  rw [e]
  have : (bs l).extract a b = bs ((l.drop a).take (b - a)) := by
    rw [← bs_of ((bs l).extract a b), extract_toList, bs_toList]
  rw [this]
theorem cut_from (l : List UInt8) (k : Nat) (h : k ≤ l.length) (W : World) : (Instr.slice 9 (.string (bs l)) (some (.int .i64 (k : Int))) none none).run Tryd.prog W = .ok (.string (bs (l.drop k))) W := by
  have e := run_slice_string_l (P := Tryd.prog) W 9 (bs l) Tryd.underlying9 .i64 (k : Int) (by omega) (by rw [bs_size]; omega)
  rw [show ((k : Int)).toNat = k by omega] at e
  rw [e]
  have : (bs l).extract k (bs l).size = bs (l.drop k) := by
    rw [← bs_of ((bs l).extract k (bs l).size), extract_toList, bs_toList, bs_size, List.take_of_length_le (by rw [List.length_drop]; omega)]
  rw [this]
theorem walk (s d : Nat) (u : Ud) (w : World) (hs : s < 4294967296) (hd : d < 4294967296) :
    Calls Tryd.prog 7 #[.agg #[.int .u32 (s : Int), .int .u32 (d : Int)], u.val] w fun e w' => e = .returned (.bool true) ∧ Below w.heap.size w w' := by
  obtain ⟨m, l, hl, mx, sx⟩ := firstN 1700 (bs u.body)
  obtain ⟨a, b, x, B⟩ := u
  have CU := fun W => cut_any a b x (bs B) (bs l) m W mx sx
  by_cases hc : (Ud.mk a b x l).check = 0
  · have CB := fun W => udpBuild_ok _ s d W hl hs hd hc
    have ho := check_ok.1 hc
    have hlen := (Ud.mk a b x l).bytes_length s d
    have hsum := (Ud.mk a b x l).sum_le s d
    have nums := (Ud.mk a b x l).fore_nums ((Ud.mk a b x l).sum s d) l ho (by omega)
    have z1 := cut_mid ((Ud.mk a b x l).bytes s d) 6 8 (by decide) (by omega)
    have z2 := cut_from ((Ud.mk a b x l).bytes s d) 8 (by omega)
    have e8 : ((Ud.mk a b x l).bytes s d).drop 8 = l := nums.2.2.2.2
    have e6 : (((Ud.mk a b x l).bytes s d).drop 6).take (8 - 6) = be ((Ud.mk a b x l).sum s d) 2 := by
      have := be_nm ((Ud.mk a b x l).bytes s d) 6 2 (by omega)
      rw [show nm ((Ud.mk a b x l).bytes s d) 6 2 = (Ud.mk a b x l).sum s d from nums.2.2.2.1] at this
      exact this.symm
    rw [e8] at z2
    rw [e6] at z1
    have hz := (Ud.mk a b x l).sum_zero s d
    cases x
    · exact walk_sum s d a b (bs B) (bs l) _ _ l.length w (hide CU) (hide CB) (bs_size l) (by omega) (by rw [bs_size]; exact hlen) z1 z2 (be_zero _ (by omega) (fun e => by cases hz.1 e)) (hide fixed_true)
    · rw [hz.2 rfl] at z1
      exact walk_bare s d a b (bs B) (bs l) _ l.length w (hide CU) (hide CB) (bs_size l) (by omega) (by rw [bs_size]; exact hlen) z1 z2 (hide fixed_true)
  · have CB := fun W => udpBuild_bad (Ud.mk a b x l) s d W hl hc
    have CK := fun W => udpCheck_any (Ud.mk a b x l) W hl
    exact walk_bad s d a b x (bs B) (bs l) _ w (hide CU) (hide CB) (by simpa using hc) (hide CK) (hide fixed_true)
set_option maxRecDepth 100000 in
theorem lifted (os : Os) (started : os.Started) (H : Type) (enc : TypeId × Value → H) :
    ReturnsInHanded {} Tryd.checked os 7 .any (fun w args => (Rows.udpSizesSpec.pre enc Tryd.prog Tryd.f7 [] false w args ∧ laidMetH Tryd.prog [("errors.errorType", Rows.laid_errors_errorType)] w) ∧ sizedMet enc Tryd.prog Tryd.f7 (OpenSpec.ofChange Rows.udpSizesSpec) false w args)
      (Rows.udpSizesSpec.post enc Tryd.prog Tryd.f7 false true false false) := by
  refine returnsInHanded_of_change_and (C := Tryd.checked) (X := fun w _ => laidMetH Tryd.prog [("errors.errorType", Rows.laid_errors_errorType)] w) (fun _ _ _ hh h => h.of_heap hh) own started (by kernel_rfl) Tryd.func7
    (ChangeSpec.witness_at (enc := enc) (C := Tryd.checked) (os := os) (X := fun w _ => laidMetH Tryd.prog [("errors.errorType", Rows.laid_errors_errorType)] w) false
      { World.holding Tryd.prog os ⟨#[], #[], []⟩ with heap := (World.holding Tryd.prog os ⟨#[], #[], []⟩).heap.modify 0 fun
        | .cells _ t frozen => .cells #[.iface 86 (.agg #[.pointer (some ⟨1, 59, none⟩)])] t frozen
        | o => o } #[.agg #[.int .u32 0, .int .u32 0], .agg #[.int .i64 0, .int .i64 0, .bool false, .string ByteArray.empty]] 8 rfl (by kernel_rfl) (by kernel_rfl) (by kernel_rfl) (by kernel_rfl) (by kernel_rfl) (laid_met os _)) ?_
  intro W base args ds gs before hval0 hW _ _ _ _
  have hval : ∀ (j : Nat) t v, Tryd.f7.params[j]? = some t → args[j]? = some v → Value.okWide Tryd.prog W .any base t v := hval0
  have hW' := hW
  obtain ⟨p, q, hA0, hV0, rfl, hfz, hnd⟩ := hW
  have hA : DataW.TrodAll enc Tryd.prog W 0 (fun _ => true) true Tryd.f7.params.toList args.toList ds p := hA0
  have hV : DataW.TrodVars enc Tryd.prog W (fun _ => true) [] gs q := hV0
  rw [Tryd.params7] at hA hval
  obtain ⟨v0, v1, d0, d1, p0, p1, rfl, rfl, rfl, h0, h1⟩ := trodAll_two hA
  obtain ⟨s0, d0, rfl, rfl, rfl, hs0, hd0, ws0, wd0⟩ := open_way (hval 0 24 v0 rfl rfl) h0
  obtain ⟨a1, rfl, rfl, rfl, hw1⟩ := open_udp (hval 1 26 v1 rfl rfl) h1
  obtain ⟨rfl, rfl⟩ := trodVars_none hV
  have e1 : Rows.udpSizesSpec.fn H ([wayD s0 d0, udD a1] ++ []) = { results := [.lit (.bool true)], args := [wayD s0 d0, udD a1] } := by simp [Rows.udpSizesSpec]
  refine (walk s0 d0 a1 W hs0 hd0).mono fun e W' ⟨he, hb⟩ => ?_
  subst he
  refine ⟨_, rfl, _, _, _, [], [], [], hW', ?_, ?_, ?_, hb.frame _, fun h => by cases h⟩
  · rw [e1]; exact trodAll_mk1 (shut_bool Tryd.underlying4 true)
  · rw [e1]; exact trodAll_mk2 (shut_way s0 d0 ws0 wd0) (shut_udp a1 hw1)
  · rw [e1]; rfl

theorem said : Rows.UdpSizesSaid :=
  OpenClaim.holds_of_wide 7 Tryd.f7 rfl rfl rfl rfl rfl rfl rfl ⟨rfl, rfl, rfl, rfl, rfl⟩ rfl rfl rfl rfl rfl (by kernel_rfl) Tryd.func7 (by kernel_rfl)
    (of_decide_eq_true (by kernel_rfl)) (by unfold Func.isWrapper; rw [if_neg (of_decide_eq_false (by kernel_rfl))]; exact ⟨rfl, rfl⟩)
    (fun os started H enc _ => lifted os started H enc)

theorem plain (f : FuncId) (fn : Func) (hf : Tryd.pinned.checked.prog.funcNamed Rows.udpSizesRow.func = some f) (hfn : Tryd.pinned.checked.prog.funcs[f]? = some fn) :
    true = Tryd.pinned.checked.prog.looks [] ∧ ∀ (j : Nat) t, fn.params[j]? = some t → Tryd.pinned.checked.prog.wantsStandIn t = false := by
  obtain rfl : f = 7 := Option.some.inj ((show Tryd.prog.funcNamed Rows.udpSizesRow.func = some 7 by kernel_rfl).symm.trans hf) |>.symm
  obtain rfl : fn = Tryd.f7 := (Option.some.inj (Tryd.func7.symm.trans hfn)).symm
  refine ⟨by kernel_rfl, fun j t ht => ?_⟩
  rw [Tryd.params7] at ht
  have hm := Array.mem_of_getElem? ht
  simp only [List.mem_toArray, List.mem_cons, List.not_mem_nil, or_false] at hm
  rcases hm with rfl | rfl
  · exact (show Tryd.prog.wantsStandIn 24 = false by kernel_rfl)
  · exact (show Tryd.prog.wantsStandIn 26 = false by kernel_rfl)

theorem card : Rows.UdpSizesCardSaid :=
  Claim7.holds_tied_plain_at .later [] _ _ _ _ said (fun _ h => by cases h) (by kernel_rfl) (fun _ h => by cases h) udpSizes_row_tie rfl ⟨rfl, rfl⟩ (by kernel_rfl) rfl plain (by kernel_rfl)
end Go.Proofs.YtcgilcofcjehmaaDoor.udpSizes
namespace Go.Proofs.YtcgilcofcjehmaaDoor
theorem udpSizes_card_holds : Rows.UdpSizesCardSaid := udpSizes.card
end Go.Proofs.YtcgilcofcjehmaaDoor
