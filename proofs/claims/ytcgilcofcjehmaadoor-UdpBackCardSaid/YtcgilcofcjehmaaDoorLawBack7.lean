/-
  Proved: for every two addresses, datagram (of a body cut to 1700 bytes) and text (cut to 1700 bytes), gangwaylaw07.UdpBack answers true (what is built is parsed as it was, between the same addresses and these the other way round, whatever stands behind, P7.1 to P7.3), and the arguments read afterwards as before. Conditions: errors.errorType holds what the program's own text lays (tied by the card; the walk asks nothing of it).
-/
import Derived.Test.YtcgilcofcjehmaaDoorRow7
import Derived.Deep.RegionHeld3
import Derived.Deep.DeepCutAuto
namespace Go.Proofs.YtcgilcofcjehmaaDoor.udpBack
open Go.ChangeShapes Go.WideShapes Go.ChangeAt Go.RowKit Go.Sort
open Go.ChangeMaps (open_string shut_string)

theorem keepO {W W' : World} {g : Nat} {t : TypeId} {a0 a1 : Value} (b : Below W.heap.size W W') (h : W.heap[g]? = some (.cells #[a0, a1] t (0, 0))) : W'.cell? ⟨g, 0, none⟩ = some a0 ∧ W'.cell? ⟨g, 1, none⟩ = some a1 := by
  obtain ⟨c0, c1, _⟩ := cells2 (Below.row b h)
  exact ⟨c0, c1⟩
theorem row_new {W W' : World} {o : Obj} (b : Below (W.alloc o).heap.size (W.alloc o) W') : W'.heap[W.heap.size]? = some o := Below.row b (heap_alloc_new W o)
theorem row_drew {W W' : World} {o : Obj} (b : Below (W.drew.alloc o).heap.size (W.drew.alloc o) W') : W'.heap[W.heap.size]? = some o := Below.row b (heap_alloc_new W.drew o)
set_option maxRecDepth 100000 in
set_option maxHeartbeats 1000000 in
theorem walk_bad (s d : Nat) (a b : Int) (x : Bool) (B X S0 S : ByteArray) (i : Nat) (k : Int) (w : World)
    (CU : Hid (∀ W, Calls Tryd.prog 8 #[.agg #[.int .i64 a, .int .i64 b, .bool x, .string B]] W fun e W' => e = .returned (.agg #[.int .i64 a, .int .i64 b, .bool x, .string X]) ∧ Below W.heap.size W W'))
    (ms : ∀ (ts : Array TypeId) (t : TypeId) (W : World), (Builtin.min_ ts t #[.int .i64 (S0.size : Int), .int .i64 1700]).run Tryd.prog W = .ok (.int .i64 (i : Int)) W)
    (ss : ∀ W : World, (Instr.slice 9 (.string S0) none (some (.int .i64 (i : Int))) none).run Tryd.prog W = .ok (.string S) W)
    (CB : Hid (∀ W, Calls Tryd.prog 9 #[.int .u32 (s : Int), .int .u32 (d : Int), .agg #[.int .i64 a, .int .i64 b, .bool x, .string X]] W fun e W' => e = .returned (.tuple #[.string ByteArray.empty, .int .i64 k]) ∧ Below W.heap.size W W'))
    (hk : (k != 0) = true)
    (CF : Hid (∀ W, Calls Tryd.prog 11 #[] W fun e W' => e = .returned (.bool true) ∧ Below W.heap.size W W')) :
    Calls Tryd.prog 5 #[.agg #[.int .u32 (s : Int), .int .u32 (d : Int)], .agg #[.int .i64 a, .int .i64 b, .bool x, .string B], .string S0] w fun e w' => e = .returned (.bool true) ∧ Below w.heap.size w w' := by
  go_enter Tryd.func5, Tryd.ntmps5
  go_wp2_with fail
  refine (unhide CU _).mono ?_
  rintro e w1 ⟨rfl, b1⟩
  have h1 := bthen (alloc_then (alloc_below w (.cells #[.int .u32 (s : Int), .int .u32 (d : Int)] 24))) b1
  have u1 := Below.row b1 (heap_alloc2_new w (.cells #[.int .u32 (s : Int), .int .u32 (d : Int)] 24) _)
  have o1 := Below.row b1 (heap_alloc2_old w (.cells #[.int .u32 (s : Int), .int .u32 (d : Int)] 24) _)
  obtain ⟨c0, c1, c2, c3, f0, f1, f2, f3⟩ := cells4 u1
  have h2 := below4 (v0 := .int .i64 a) (v1 := .int .i64 b) (v2 := .bool x) (v3 := .string X) h1 (Nat.le_succ _)
  have u2 := set4 (v0 := .int .i64 a) (v1 := .int .i64 b) (v2 := .bool x) (v3 := .string X) u1
  have o2 := other4 (v0 := .int .i64 a) (v1 := .int .i64 b) (v2 := .bool x) (v3 := .string X) (Nat.ne_of_lt (Nat.lt_succ_self w.heap.size)) o1
  obtain ⟨p0, p1, _⟩ := cells2 o2
  clear b1 CU
  go_wp2_with fail
  generalize ((((w1.setCell ⟨w.heap.size + 1, 0, none⟩ (.int .i64 a)).setCell ⟨w.heap.size + 1, 1, none⟩ (.int .i64 b)).setCell ⟨w.heap.size + 1, 2, none⟩ (.bool x)).setCell ⟨w.heap.size + 1, 3, none⟩ (.string X)) = w2 at *
  clear h1 u1 o1 c0 c1 c2 c3 f0 f1 f2 f3 p0 p1
  refine (unhide CB _).mono ?_
  rintro e w3 ⟨rfl, b3⟩
  have h3 := bthen h2 b3
  have u3 := Below.row b3 u2
  have o3 := Below.row b3 o2
  clear b3 CB h2 u2 o2
  go_wp2_with fail
  refine (unhide CF _).mono ?_
  rintro e w9 ⟨rfl, b9⟩
  have h9 := bthen h3 b9
  go_wp2_with fail
  go_ret
  exact ⟨rfl, h9⟩
set_option maxRecDepth 100000 in
set_option maxHeartbeats 4000000 in
theorem walk_good (s d : Nat) (a b : Int) (x : Bool) (B X S0 S T Y T1 : ByteArray) (i n : Nat) (w : World)
    (CU : Hid (∀ W, Calls Tryd.prog 8 #[.agg #[.int .i64 a, .int .i64 b, .bool x, .string B]] W fun e W' => e = .returned (.agg #[.int .i64 a, .int .i64 b, .bool x, .string X]) ∧ Below W.heap.size W W'))
    (ms : ∀ (ts : Array TypeId) (t : TypeId) (W : World), (Builtin.min_ ts t #[.int .i64 (S0.size : Int), .int .i64 1700]).run Tryd.prog W = .ok (.int .i64 (i : Int)) W)
    (ss : ∀ W : World, (Instr.slice 9 (.string S0) none (some (.int .i64 (i : Int))) none).run Tryd.prog W = .ok (.string S) W)
    (CB : Hid (∀ W, Calls Tryd.prog 9 #[.int .u32 (s : Int), .int .u32 (d : Int), .agg #[.int .i64 a, .int .i64 b, .bool x, .string X]] W fun e W' => e = .returned (.tuple #[.string T, .int .i64 0]) ∧ Below W.heap.size W W'))
    (hT : T.size = n)
    (hn : (8 : Int) ≤ (n : Int)) (hn2 : (n : Int) ≤ 10000)
    (hadd : ∀ W : World, (Op.stringOp .add T S).run Tryd.prog W = .ok (.string Y) W)
    (C1 : Hid (∀ W, Calls Tryd.prog 14 #[.int .u32 (s : Int), .int .u32 (d : Int), .string Y] W fun e W' => e = .returned (.tuple #[.agg #[.int .i64 a, .int .i64 b, .bool x, .string X], .int .i64 0]) ∧ Below W.heap.size W W'))
    (C2 : Hid (∀ W, Calls Tryd.prog 14 #[.int .u32 (d : Int), .int .u32 (s : Int), .string Y] W fun e W' => e = .returned (.tuple #[.agg #[.int .i64 a, .int .i64 b, .bool x, .string X], .int .i64 0]) ∧ Below W.heap.size W W'))
    (hw : wrap64 ((n : Int) - 1) = (n : Int) - 1) (hw2 : IntKind.i64.wrap ((n : Int) - 1) = (n : Int) - 1)
    (sl : ∀ W : World, (Instr.slice 9 (.string T) none (some (.int .i64 ((n : Int) - 1))) none).run Tryd.prog W = .ok (.string T1) W)
    (C3 : Hid (∀ W, Calls Tryd.prog 14 #[.int .u32 (s : Int), .int .u32 (d : Int), .string T1] W fun e W' => e = .returned (.tuple #[.agg #[.int .i64 0, .int .i64 0, .bool false, .string ⟨#[]⟩], .int .i64 70]) ∧ Below W.heap.size W W'))
    (CF : Hid (∀ W, Calls Tryd.prog 11 #[] W fun e W' => e = .returned (.bool true) ∧ Below W.heap.size W W')) :
    Calls Tryd.prog 5 #[.agg #[.int .u32 (s : Int), .int .u32 (d : Int)], .agg #[.int .i64 a, .int .i64 b, .bool x, .string B], .string S0] w fun e w' => e = .returned (.bool true) ∧ Below w.heap.size w w' := by
  have sm := same_udp a b x X
  go_enter Tryd.func5, Tryd.ntmps5
  go_wp2_with fail
  refine (unhide CU _).mono ?_
  rintro e w1 ⟨rfl, b1⟩
  have h1 := bthen (alloc_then (alloc_below w (.cells #[.int .u32 (s : Int), .int .u32 (d : Int)] 24))) b1
  have u1 := Below.row b1 (heap_alloc2_new w (.cells #[.int .u32 (s : Int), .int .u32 (d : Int)] 24) _)
  have o1 := Below.row b1 (heap_alloc2_old w (.cells #[.int .u32 (s : Int), .int .u32 (d : Int)] 24) _)
  obtain ⟨c0, c1, c2, c3, f0, f1, f2, f3⟩ := cells4 u1
  have h2 := below4 (v0 := .int .i64 a) (v1 := .int .i64 b) (v2 := .bool x) (v3 := .string X) h1 (Nat.le_succ _)
  have u2 := set4 (v0 := .int .i64 a) (v1 := .int .i64 b) (v2 := .bool x) (v3 := .string X) u1
  have o2 := other4 (v0 := .int .i64 a) (v1 := .int .i64 b) (v2 := .bool x) (v3 := .string X) (Nat.ne_of_lt (Nat.lt_succ_self w.heap.size)) o1
  obtain ⟨p0, p1, _⟩ := cells2 o2
  clear b1 CU
  go_wp2_with fail
  generalize ((((w1.setCell ⟨w.heap.size + 1, 0, none⟩ (.int .i64 a)).setCell ⟨w.heap.size + 1, 1, none⟩ (.int .i64 b)).setCell ⟨w.heap.size + 1, 2, none⟩ (.bool x)).setCell ⟨w.heap.size + 1, 3, none⟩ (.string X)) = w2 at *
  clear h1 u1 o1 c0 c1 c2 c3 f0 f1 f2 f3 p0 p1
  refine (unhide CB _).mono ?_
  rintro e w3 ⟨rfl, b3⟩
  have h3 := bthen h2 b3
  have u3 := Below.row b3 u2
  have o3 := Below.row b3 o2
  clear b3 CB h2 u2 o2
  obtain ⟨p0, p1, _⟩ := cells2 o3
  go_wp2_with fail
  refine (unhide C1 _).mono ?_
  rintro e w4 ⟨rfl, b4⟩
  have h4 := alloc_then (o := .cells #[.int .i64 a, .int .i64 b, .bool x, .string X] 26) (bthen h3 b4)
  have u4 := Below.row (alloc_below w4 (.cells #[.int .i64 a, .int .i64 b, .bool x, .string X] 26)) (Below.row b4 u3)
  have o4 := Below.row (alloc_below w4 (.cells #[.int .i64 a, .int .i64 b, .bool x, .string X] 26)) (Below.row b4 o3)
  have v4 := heap_alloc_new w4 (.cells #[.int .i64 a, .int .i64 b, .bool x, .string X] 26)
  clear C1 h3 u3 o3 p0 p1
  clear b4
  obtain ⟨p0, p1, _⟩ := cells2 o4
  go_wp2_with fail
  refine (unhide C2 _).mono ?_
  rintro e w5 ⟨rfl, b5⟩
  have h5 := alloc_then (o := .cells #[.int .i64 a, .int .i64 b, .bool x, .string X] 26) (bthen h4 b5)
  have u5 := Below.row (alloc_below w5 (.cells #[.int .i64 a, .int .i64 b, .bool x, .string X] 26)) (Below.row b5 u4)
  have o5 := Below.row (alloc_below w5 (.cells #[.int .i64 a, .int .i64 b, .bool x, .string X] 26)) (Below.row b5 o4)
  have y5 := heap_alloc_new w5 (.cells #[.int .i64 a, .int .i64 b, .bool x, .string X] 26)
  clear C2 h4 u4 o4 p0 p1
  have v5 := Below.row (alloc_below w5 (.cells #[.int .i64 a, .int .i64 b, .bool x, .string X] 26)) (Below.row b5 v4)
  clear b5 v4
  go_upto_region 10 with fail
  generalize w4.heap.size = V at *
  generalize w5.heap.size = Z at *
  generalize w5.alloc (.cells #[.int .i64 a, .int .i64 b, .bool x, .string X] 26) = w6 at *
  have HU := hide u5
  have HO := hide o5
  have HV := hide v5
  have HY := hide y5
  clear u5 o5 v5 y5
  go_cut [13, 14] (fun p h wx => ∃ K : Nat, p = .pointer (some ⟨K, 0, none⟩) ∧ h = .int .i64 70 ∧ Below w6.heap.size w6 wx)
  case first =>
    go_region_held3 (fun w' => w'.cell? ⟨w.heap.size, 0, none⟩ = some (.int .u32 (s : Int)) ∧ w'.cell? ⟨w.heap.size, 1, none⟩ = some (.int .u32 (d : Int))) ((refine keepO ?_ (unhide HO); (repeat (first | (with_reducible exact Below.refl _ _) | (with_reducible refine Below.drew ?_) | (with_reducible refine Below.setCell ?_ (by first | (show w6.heap.size ≤ w6.heap.size; exact Nat.le_refl _) | (show w6.heap.size ≤ w7.heap.size; exact l7)) _) | (with_reducible refine alloc_then ?_) | (with_reducible refine bthen ?_ B7))); done))
      ((go_at_call 14; refine (unhide C3 _).mono ?_; rintro e7 w7 ⟨rfl, B7⟩; have l7 := Below.size B7; first | (have r7 := row_new B7; obtain ⟨x0, x1, x2, x3, y0, y1, y2, y3⟩ := cells4 r7) | (have r7 := row_drew B7; obtain ⟨x0, x1, x2, x3, y0, y1, y2, y3⟩ := cells4 r7) | skip))
    all_goals
      go_wp2_with fail
      go_meet
      exact ⟨_, rfl, rfl, (by repeat (first | (with_reducible exact Below.refl _ _) | (with_reducible refine Below.drew ?_) | (with_reducible refine alloc_then ?_) | (with_reducible refine Below.setCell ?_ (by first | (show w6.heap.size ≤ w6.heap.size; exact Nat.le_refl _) | (show w6.heap.size ≤ w7.heap.size; exact l7)) _) | (with_reducible refine bthen ?_ B7)))⟩
  case rest =>
    obtain ⟨K, rfl, rfl, b8⟩ := hcut
    have h8 := bthen h5 b8
    have u8 := Below.row b8 (unhide HU)
    have v8 := Below.row b8 (unhide HV)
    have y8 := Below.row b8 (unhide HY)
    clear HU HO HV HY b8 h5
    obtain ⟨c0, c1, c2, c3, _⟩ := cells4 u8
    obtain ⟨g0, g1, g2, g3, _⟩ := cells4 v8
    obtain ⟨k0, k1, k2, k3, _⟩ := cells4 y8
    go_wp2_with fail
    refine (unhide CF _).mono ?_
    rintro e w9 ⟨rfl, b9⟩
    have h9 := bthen h8 b9
    go_wp2_with fail
    go_ret
    exact ⟨rfl, h9⟩
theorem walk (s d : Nat) (u : Ud) (S0 : ByteArray) (w : World) (hs : s < 4294967296) (hd : d < 4294967296) (_ : S0.size ≤ maxLen) :
    Calls Tryd.prog 5 #[.agg #[.int .u32 (s : Int), .int .u32 (d : Int)], u.val, .string S0] w fun e w' => e = .returned (.bool true) ∧ Below w.heap.size w w' := by
  obtain ⟨m, l, hl, mx, sx⟩ := firstN 1700 (bs u.body)
  obtain ⟨i, r, hr, ms, ss⟩ := firstN 1700 S0
  obtain ⟨a, b, x, B⟩ := u
  have CU := fun W => cut_any a b x (bs B) (bs l) m W mx sx
  by_cases hc : (Ud.mk a b x l).check = 0
  · have CB := fun W => udpBuild_ok (Ud.mk a b x l) s d W hl hs hd hc
    have ho := check_ok.1 hc
    have hlen := (Ud.mk a b x l).bytes_length s d
    simp only at hlen
    have hback := parse_built (Ud.mk a b x l) s d r ho
    have C1 := fun W => udpParse_any ((Ud.mk a b x l).bytes s d ++ r) s d W (by rw [List.length_append]; omega) hs hd
    have C2 := fun W => udpParse_any ((Ud.mk a b x l).bytes s d ++ r) d s W (by rw [List.length_append]; omega) hd hs
    rw [hback.1] at C1
    rw [hback.2] at C2
    have C3 := fun W => udpParse_any (((Ud.mk a b x l).bytes s d).take (7 + l.length)) s d W (by rw [List.length_take]; omega) hs hd
    rw [show Ud.parse s d (((Ud.mk a b x l).bytes s d).take (7 + l.length)) = (.none, 70) from parse_short (Ud.mk a b x l) s d s d ho] at C3
    have sl := cut_to ((Ud.mk a b x l).bytes s d) (7 + l.length) (by omega)
    rw [show ((7 + l.length : Nat) : Int) = ((8 + l.length : Nat) : Int) - 1 by omega] at sl
    exact walk_good s d a b x (bs B) (bs l) S0 (bs r) _ _ _ i (8 + l.length) w (hide CU) ms ss (hide CB) (by rw [bs_size]; exact hlen) (by omega) (by omega) (fun W => add_bs _ _ (by omega) W) (hide C1) (hide C2) (wrap64_id (by omega) (by omega)) (by rw [IntKind.wrap_i64]; omega) sl (hide C3) (hide fixed_true)
  · have CB := fun W => udpBuild_bad (Ud.mk a b x l) s d W hl hc
    exact walk_bad s d a b x (bs B) (bs l) S0 (bs r) i _ w (hide CU) ms ss (hide CB) (by simpa using hc) (hide fixed_true)
set_option maxRecDepth 100000 in
theorem lifted (os : Os) (started : os.Started) (H : Type) (enc : TypeId × Value → H) :
    ReturnsInHanded {} Tryd.checked os 5 .any (fun w args => (Rows.udpBackSpec.pre enc Tryd.prog Tryd.f5 [] false w args ∧ laidMetH Tryd.prog [("errors.errorType", Rows.laid_errors_errorType)] w) ∧ sizedMet enc Tryd.prog Tryd.f5 (OpenSpec.ofChange Rows.udpBackSpec) false w args)
      (Rows.udpBackSpec.post enc Tryd.prog Tryd.f5 false true false false) := by
  refine returnsInHanded_of_change_and (C := Tryd.checked) (X := fun w _ => laidMetH Tryd.prog [("errors.errorType", Rows.laid_errors_errorType)] w) (fun _ _ _ hh h => h.of_heap hh) own started (by kernel_rfl) Tryd.func5
    (ChangeSpec.witness_at (enc := enc) (C := Tryd.checked) (os := os) (X := fun w _ => laidMetH Tryd.prog [("errors.errorType", Rows.laid_errors_errorType)] w) false
      { World.holding Tryd.prog os ⟨#[], #[], []⟩ with heap := (World.holding Tryd.prog os ⟨#[], #[], []⟩).heap.modify 0 fun
        | .cells _ t frozen => .cells #[.iface 86 (.agg #[.pointer (some ⟨1, 59, none⟩)])] t frozen
        | o => o } #[.agg #[.int .u32 0, .int .u32 0], .agg #[.int .i64 0, .int .i64 0, .bool false, .string ByteArray.empty], .string ByteArray.empty] 8 rfl (by kernel_rfl) (by kernel_rfl) (by kernel_rfl) (by kernel_rfl) (by kernel_rfl) (laid_met os _)) ?_
  intro W base args ds gs before hval0 hW _ _ _ _
  have hval : ∀ (j : Nat) t v, Tryd.f5.params[j]? = some t → args[j]? = some v → Value.okWide Tryd.prog W .any base t v := hval0
  have hW' := hW
  obtain ⟨p, q, hA0, hV0, rfl, hfz, hnd⟩ := hW
  have hA : DataW.TrodAll enc Tryd.prog W 0 (fun _ => true) true Tryd.f5.params.toList args.toList ds p := hA0
  have hV : DataW.TrodVars enc Tryd.prog W (fun _ => true) [] gs q := hV0
  rw [Tryd.params5] at hA hval
  obtain ⟨v0, v1, v2, d0, d1, d2, p0, p1, p2, rfl, rfl, rfl, h0, h1, h2⟩ := trodAll_three hA
  obtain ⟨s0, d0, rfl, rfl, rfl, hs0, hd0, ws0, wd0⟩ := open_way (hval 0 24 v0 rfl rfl) h0
  obtain ⟨a1, rfl, rfl, rfl, hw1⟩ := open_udp (hval 1 26 v1 rfl rfl) h1
  obtain ⟨a2, rfl, rfl, rfl, w2⟩ := open_string Tryd.underlying9 (hval 2 9 v2 rfl rfl) h2
  obtain ⟨rfl, rfl⟩ := trodVars_none hV
  have e1 : Rows.udpBackSpec.fn H ([wayD s0 d0, udD a1, .lit (.string a2.data.toList)] ++ []) = { results := [.lit (.bool true)], args := [wayD s0 d0, udD a1, .lit (.string a2.data.toList)] } := by simp [Rows.udpBackSpec]
  refine (walk s0 d0 a1 a2 W hs0 hd0 w2).mono fun e W' ⟨he, hb⟩ => ?_
  subst he
  refine ⟨_, rfl, _, _, _, [], [], [], hW', ?_, ?_, ?_, hb.frame _, fun h => by cases h⟩
  · rw [e1]; exact trodAll_mk1 (shut_bool Tryd.underlying4 true)
  · rw [e1]; exact trodAll_mk3 (shut_way s0 d0 ws0 wd0) (shut_udp a1 hw1) (shut_string Tryd.underlying9 w2)
  · rw [e1]; rfl

theorem said : Rows.UdpBackSaid :=
  OpenClaim.holds_of_wide 5 Tryd.f5 rfl rfl rfl rfl rfl rfl rfl ⟨rfl, rfl, rfl, rfl, rfl⟩ rfl rfl rfl rfl rfl (by kernel_rfl) Tryd.func5 (by kernel_rfl)
    (of_decide_eq_true (by kernel_rfl)) (by unfold Func.isWrapper; rw [if_neg (of_decide_eq_false (by kernel_rfl))]; exact ⟨rfl, rfl⟩)
    (fun os started H enc _ => lifted os started H enc)

theorem plain (f : FuncId) (fn : Func) (hf : Tryd.pinned.checked.prog.funcNamed Rows.udpBackRow.func = some f) (hfn : Tryd.pinned.checked.prog.funcs[f]? = some fn) :
    true = Tryd.pinned.checked.prog.looks [] ∧ ∀ (j : Nat) t, fn.params[j]? = some t → Tryd.pinned.checked.prog.wantsStandIn t = false := by
  obtain rfl : f = 5 := Option.some.inj ((show Tryd.prog.funcNamed Rows.udpBackRow.func = some 5 by kernel_rfl).symm.trans hf) |>.symm
  obtain rfl : fn = Tryd.f5 := (Option.some.inj (Tryd.func5.symm.trans hfn)).symm
  refine ⟨by kernel_rfl, fun j t ht => ?_⟩
  rw [Tryd.params5] at ht
  have hm := Array.mem_of_getElem? ht
  simp only [List.mem_toArray, List.mem_cons, List.not_mem_nil, or_false] at hm
  rcases hm with rfl | rfl | rfl
  · exact (show Tryd.prog.wantsStandIn 24 = false by kernel_rfl)
  · exact (show Tryd.prog.wantsStandIn 26 = false by kernel_rfl)
  · exact (show Tryd.prog.wantsStandIn 9 = false by kernel_rfl)

theorem card : Rows.UdpBackCardSaid :=
  Claim7.holds_tied_plain_at .later [] _ _ _ _ said (fun _ h => by cases h) (by kernel_rfl) (fun _ h => by cases h) udpBack_row_tie rfl ⟨rfl, rfl⟩ (by kernel_rfl) rfl plain (by kernel_rfl)
end Go.Proofs.YtcgilcofcjehmaaDoor.udpBack
namespace Go.Proofs.YtcgilcofcjehmaaDoor
theorem udpBack_card_holds : Rows.UdpBackCardSaid := udpBack.card
end Go.Proofs.YtcgilcofcjehmaaDoor
