/-
  Proved: for every two texts (each cut to 800 bytes), gangwaylaw08.VxlanPorts answers true (a frame's port hangs on its first fourteen bytes alone, and is 49152 to 65535; bytes behind others are reckoned behind them, P8.2, P8.3), and the arguments read afterwards as before. Conditions: errors.errorType holds what the program's own text lays (tied by the card; the walk asks nothing of it).
-/
import Derived.Test.YtocbpkceokgohaaDoorRow8
import Derived.Test.YtocbpkceokgohaaDoorRef8
import Derived.BigQuiet
import Derived.Lib.QuietBelow
namespace Go.Proofs.YtocbpkceokgohaaDoor.vxlanPorts
open Go.ChangeShapes Go.WideShapes Go.ChangeAt Go.RowKit Go.Sort
open Go.ChangeMaps (open_string shut_string)

set_option maxRecDepth 100000 in
set_option maxHeartbeats 1000000 in
theorem walk_long_none (S0 M0 S : ByteArray) (i j p h : Nat) (T : ByteArray) (w : World)
    (ms : ∀ (ts : Array TypeId) (t : TypeId) (W : World), (Builtin.min_ ts t #[.int .i64 (S0.size : Int), .int .i64 800]).run Tryd.prog W = .ok (.int .i64 (i : Int)) W)
    (ss : ∀ W : World, (Instr.slice 9 (.string S0) none (some (.int .i64 (i : Int))) none).run Tryd.prog W = .ok (.string S) W)
    (msm : ∀ (ts : Array TypeId) (t : TypeId) (W : World), (Builtin.min_ ts t #[.int .i64 (M0.size : Int), .int .i64 800]).run Tryd.prog W = .ok (.int .i64 (j : Int)) W)
    (ssm : ∀ W : World, (Instr.slice 9 (.string M0) none (some (.int .i64 (j : Int))) none).run Tryd.prog W = .ok (.string ⟨#[]⟩) W)
    (hS : (S.size : Int) ≤ 800)
    (p0 : 49152 ≤ (p : Int))
    (p1 : (p : Int) ≤ 65535)
    (C1 : Hid (∀ W, Calls Tryd.prog 15 #[.string S] W fun e W' => e = .returned (.int .i64 (p : Int)) ∧ W' = W))
    (hl : 14 ≤ (S.size : Int))
    (s14 : ∀ W : World, (Instr.slice 9 (.string S) none (some (.int .i64 14)) none).run Tryd.prog W = .ok (.string T) W)
    (C2 : Hid (∀ W, Calls Tryd.prog 15 #[.string (S ++ ⟨#[]⟩)] W fun e W' => e = .returned (.int .i64 (p : Int)) ∧ W' = W))
    (C3 : Hid (∀ W, Calls Tryd.prog 15 #[.string T] W fun e W' => e = .returned (.int .i64 (p : Int)) ∧ W' = W))
    (C4 : Hid (∀ W, Calls Tryd.prog 13 #[.string (S ++ ⟨#[]⟩)] W fun e W' => e = .returned (.int .u32 (h : Int)) ∧ W' = W))
    (C5 : Hid (∀ W, Calls Tryd.prog 13 #[.string S] W fun e W' => e = .returned (.int .u32 (h : Int)) ∧ W' = W))
    (CF : Hid (∀ W, Calls Tryd.prog 12 #[] W fun e W' => e = .returned (.bool true) ∧ Below W.heap.size W W')) :
    Calls Tryd.prog 6 #[.string S0, .string M0] w fun e w' => e = .returned (.bool true) ∧ Below w.heap.size w w' := by
  go_enter Tryd.func6, Tryd.ntmps6
  go_wp2_with fail
  refine (unhide C1 _).mono ?_
  rintro e w1 ⟨rfl, rfl⟩
  clear C1
  go_wp2_with fail
  refine (unhide C2 _).mono ?_
  rintro e w2 ⟨rfl, rfl⟩
  clear C2
  go_wp2_with fail
  refine (unhide C3 _).mono ?_
  rintro e w3 ⟨rfl, rfl⟩
  clear C3
  go_wp2_with fail
  refine (unhide C4 _).mono ?_
  rintro e w4 ⟨rfl, rfl⟩
  clear C4
  go_wp2_with fail
  refine (unhide C5 _).mono ?_
  rintro e w5 ⟨rfl, rfl⟩
  clear C5
  go_wp2_with fail
  refine (unhide CF _).mono ?_
  rintro e w6 ⟨rfl, b6⟩
  clear CF
  go_wp2_with fail
  go_ret
  exact ⟨rfl, b6⟩
set_option maxRecDepth 100000 in
set_option maxHeartbeats 4000000 in
theorem walk_long_more (S0 M0 S M : ByteArray) (i j p : Nat) (N : ByteArray) (h h2 c q : Nat) (T : ByteArray) (w : World)
    (ms : ∀ (ts : Array TypeId) (t : TypeId) (W : World), (Builtin.min_ ts t #[.int .i64 (S0.size : Int), .int .i64 800]).run Tryd.prog W = .ok (.int .i64 (i : Int)) W)
    (ss : ∀ W : World, (Instr.slice 9 (.string S0) none (some (.int .i64 (i : Int))) none).run Tryd.prog W = .ok (.string S) W)
    (msm : ∀ (ts : Array TypeId) (t : TypeId) (W : World), (Builtin.min_ ts t #[.int .i64 (M0.size : Int), .int .i64 800]).run Tryd.prog W = .ok (.int .i64 (j : Int)) W)
    (ssm : ∀ W : World, (Instr.slice 9 (.string M0) none (some (.int .i64 (j : Int))) none).run Tryd.prog W = .ok (.string M) W)
    (hS : (S.size : Int) ≤ 800)
    (hM : (M.size : Int) ≤ 800)
    (p0 : 49152 ≤ (p : Int))
    (p1 : (p : Int) ≤ 65535)
    (he : (M.toList == []) = false)
    (hq : (M.size : Int) - 1 = (q : Int))
    (hm : q < M.size)
    (hc : (M[q]'hm).toNat = c)
    (sl : ∀ W : World, (Instr.slice 9 (.string M) none (some (.int .i64 (q : Int))) none).run Tryd.prog W = .ok (.string N) W)
    (hN : (N.size : Int) ≤ 800)
    (hcv : IntKind.u32.wrap (c : Int) = (c : Int))
    (hst : IntKind.u32.wrap (bits BinOp.xor IntKind.u32 (h : Int) (c : Int) * 16777619) = (h2 : Int))
    (C1 : Hid (∀ W, Calls Tryd.prog 15 #[.string S] W fun e W' => e = .returned (.int .i64 (p : Int)) ∧ W' = W))
    (hl : 14 ≤ (S.size : Int))
    (s14 : ∀ W : World, (Instr.slice 9 (.string S) none (some (.int .i64 14)) none).run Tryd.prog W = .ok (.string T) W)
    (C2 : Hid (∀ W, Calls Tryd.prog 15 #[.string (S ++ M)] W fun e W' => e = .returned (.int .i64 (p : Int)) ∧ W' = W))
    (C3 : Hid (∀ W, Calls Tryd.prog 15 #[.string T] W fun e W' => e = .returned (.int .i64 (p : Int)) ∧ W' = W))
    (C4 : Hid (∀ W, Calls Tryd.prog 13 #[.string (S ++ N)] W fun e W' => e = .returned (.int .u32 (h : Int)) ∧ W' = W))
    (C5 : Hid (∀ W, Calls Tryd.prog 13 #[.string (S ++ M)] W fun e W' => e = .returned (.int .u32 (h2 : Int)) ∧ Below W.heap.size W W'))
    (CF : Hid (∀ W, Calls Tryd.prog 12 #[] W fun e W' => e = .returned (.bool true) ∧ Below W.heap.size W W')) :
    Calls Tryd.prog 6 #[.string S0, .string M0] w fun e w' => e = .returned (.bool true) ∧ Below w.heap.size w w' := by
  go_enter Tryd.func6, Tryd.ntmps6
  go_wp2_with fail
  refine (unhide C1 _).mono ?_
  rintro e w1 ⟨rfl, rfl⟩
  clear C1
  go_wp2_with fail
  refine (unhide C2 _).mono ?_
  rintro e w2 ⟨rfl, rfl⟩
  clear C2
  go_wp2_with fail
  refine (unhide C3 _).mono ?_
  rintro e w3 ⟨rfl, rfl⟩
  clear C3
  go_wp2_with fail
  refine (unhide C4 _).mono ?_
  rintro e w4 ⟨rfl, rfl⟩
  clear C4
  go_wp2_with fail
  have cF := at_grown (unhide CF) w4
  have cH := at_grown (unhide C5) w4
  clear CF C5
  refine wp_region_quiet_below (by kernel_rfl) (by kernel_rfl) ?_
  repeat (go_big_quiet_step (first | (go_at_call 12; exact cF _ _) | (go_at_call 13; exact cH _ _)))
  refine wpQuiet_nil ?_
  rintro _ ⟨⟨dr, osr⟩, rfl⟩
  go_wp2
  go_ret
  exact ⟨rfl, grown_then (Below.refl _ _) dr osr⟩
set_option maxRecDepth 100000 in
set_option maxHeartbeats 1000000 in
theorem walk_short_none (S0 M0 S : ByteArray) (i j p h : Nat) (w : World)
    (ms : ∀ (ts : Array TypeId) (t : TypeId) (W : World), (Builtin.min_ ts t #[.int .i64 (S0.size : Int), .int .i64 800]).run Tryd.prog W = .ok (.int .i64 (i : Int)) W)
    (ss : ∀ W : World, (Instr.slice 9 (.string S0) none (some (.int .i64 (i : Int))) none).run Tryd.prog W = .ok (.string S) W)
    (msm : ∀ (ts : Array TypeId) (t : TypeId) (W : World), (Builtin.min_ ts t #[.int .i64 (M0.size : Int), .int .i64 800]).run Tryd.prog W = .ok (.int .i64 (j : Int)) W)
    (ssm : ∀ W : World, (Instr.slice 9 (.string M0) none (some (.int .i64 (j : Int))) none).run Tryd.prog W = .ok (.string ⟨#[]⟩) W)
    (hS : (S.size : Int) ≤ 800)
    (p0 : 49152 ≤ (p : Int))
    (p1 : (p : Int) ≤ 65535)
    (C1 : Hid (∀ W, Calls Tryd.prog 15 #[.string S] W fun e W' => e = .returned (.int .i64 (p : Int)) ∧ W' = W))
    (hl : ¬ 14 ≤ (S.size : Int))
    (C4 : Hid (∀ W, Calls Tryd.prog 13 #[.string (S ++ ⟨#[]⟩)] W fun e W' => e = .returned (.int .u32 (h : Int)) ∧ W' = W))
    (C5 : Hid (∀ W, Calls Tryd.prog 13 #[.string S] W fun e W' => e = .returned (.int .u32 (h : Int)) ∧ W' = W))
    (CF : Hid (∀ W, Calls Tryd.prog 12 #[] W fun e W' => e = .returned (.bool true) ∧ Below W.heap.size W W')) :
    Calls Tryd.prog 6 #[.string S0, .string M0] w fun e w' => e = .returned (.bool true) ∧ Below w.heap.size w w' := by
  go_enter Tryd.func6, Tryd.ntmps6
  go_wp2_with fail
  refine (unhide C1 _).mono ?_
  rintro e w1 ⟨rfl, rfl⟩
  clear C1
  go_wp2_with fail
  refine (unhide C4 _).mono ?_
  rintro e w4 ⟨rfl, rfl⟩
  clear C4
  go_wp2_with fail
  refine (unhide C5 _).mono ?_
  rintro e w5 ⟨rfl, rfl⟩
  clear C5
  go_wp2_with fail
  refine (unhide CF _).mono ?_
  rintro e w6 ⟨rfl, b6⟩
  clear CF
  go_wp2_with fail
  go_ret
  exact ⟨rfl, b6⟩
set_option maxRecDepth 100000 in
set_option maxHeartbeats 4000000 in
theorem walk_short_more (S0 M0 S M : ByteArray) (i j p : Nat) (N : ByteArray) (h h2 c q : Nat) (w : World)
    (ms : ∀ (ts : Array TypeId) (t : TypeId) (W : World), (Builtin.min_ ts t #[.int .i64 (S0.size : Int), .int .i64 800]).run Tryd.prog W = .ok (.int .i64 (i : Int)) W)
    (ss : ∀ W : World, (Instr.slice 9 (.string S0) none (some (.int .i64 (i : Int))) none).run Tryd.prog W = .ok (.string S) W)
    (msm : ∀ (ts : Array TypeId) (t : TypeId) (W : World), (Builtin.min_ ts t #[.int .i64 (M0.size : Int), .int .i64 800]).run Tryd.prog W = .ok (.int .i64 (j : Int)) W)
    (ssm : ∀ W : World, (Instr.slice 9 (.string M0) none (some (.int .i64 (j : Int))) none).run Tryd.prog W = .ok (.string M) W)
    (hS : (S.size : Int) ≤ 800)
    (hM : (M.size : Int) ≤ 800)
    (p0 : 49152 ≤ (p : Int))
    (p1 : (p : Int) ≤ 65535)
    (he : (M.toList == []) = false)
    (hq : (M.size : Int) - 1 = (q : Int))
    (hm : q < M.size)
    (hc : (M[q]'hm).toNat = c)
    (sl : ∀ W : World, (Instr.slice 9 (.string M) none (some (.int .i64 (q : Int))) none).run Tryd.prog W = .ok (.string N) W)
    (hN : (N.size : Int) ≤ 800)
    (hcv : IntKind.u32.wrap (c : Int) = (c : Int))
    (hst : IntKind.u32.wrap (bits BinOp.xor IntKind.u32 (h : Int) (c : Int) * 16777619) = (h2 : Int))
    (C1 : Hid (∀ W, Calls Tryd.prog 15 #[.string S] W fun e W' => e = .returned (.int .i64 (p : Int)) ∧ W' = W))
    (hl : ¬ 14 ≤ (S.size : Int))
    (C4 : Hid (∀ W, Calls Tryd.prog 13 #[.string (S ++ N)] W fun e W' => e = .returned (.int .u32 (h : Int)) ∧ W' = W))
    (C5 : Hid (∀ W, Calls Tryd.prog 13 #[.string (S ++ M)] W fun e W' => e = .returned (.int .u32 (h2 : Int)) ∧ Below W.heap.size W W'))
    (CF : Hid (∀ W, Calls Tryd.prog 12 #[] W fun e W' => e = .returned (.bool true) ∧ Below W.heap.size W W')) :
    Calls Tryd.prog 6 #[.string S0, .string M0] w fun e w' => e = .returned (.bool true) ∧ Below w.heap.size w w' := by
  go_enter Tryd.func6, Tryd.ntmps6
  go_wp2_with fail
  refine (unhide C1 _).mono ?_
  rintro e w1 ⟨rfl, rfl⟩
  clear C1
  go_wp2_with fail
  refine (unhide C4 _).mono ?_
  rintro e w4 ⟨rfl, rfl⟩
  clear C4
  go_wp2_with fail
  have cF := at_grown (unhide CF) w4
  have cH := at_grown (unhide C5) w4
  clear CF C5
  refine wp_region_quiet_below (by kernel_rfl) (by kernel_rfl) ?_
  repeat (go_big_quiet_step (first | (go_at_call 12; exact cF _ _) | (go_at_call 13; exact cH _ _)))
  refine wpQuiet_nil ?_
  rintro _ ⟨⟨dr, osr⟩, rfl⟩
  go_wp2
  go_ret
  exact ⟨rfl, grown_then (Below.refl _ _) dr osr⟩
theorem empty_right (S : ByteArray) : S ++ ⟨#[]⟩ = S := by
  apply ByteArray.ext
  simp
theorem not_empty (c : UInt8) (m : List UInt8) : ((bs (m ++ [c])).toList == []) = false := by
  rw [Lib.toList_data, bs_toList]
  cases m <;> rfl
theorem last_at (c : UInt8) (m : List UInt8) (h : m.length < (bs (m ++ [c])).size) : ((bs (m ++ [c]))[m.length]'h).toNat = c.toNat := by
  have e : (m ++ [c])[m.length]'(by simp) = c := by simp
  exact congrArg UInt8.toNat e
theorem walk (S0 M0 : ByteArray) (w : World) (_ : S0.size ≤ maxLen) (_ : M0.size ≤ maxLen) :
    Calls Tryd.prog 6 #[.string S0, .string M0] w fun e w' => e = .returned (.bool true) ∧ Below w.heap.size w w' := by
  obtain ⟨i, r, hr, ms, ss⟩ := firstN 800 S0
  obtain ⟨j, t, ht, mm, sm⟩ := firstN 800 M0
  have hsz : (bs r).size = r.length := bs_size r
  obtain ⟨p0, p1⟩ := port_le r
  have C1 := fun W => vport_any r W (by omega)
  rcases List.eq_nil_or_concat t with rfl | ⟨m, c, rfl⟩
  · have C4 := fun W => hash_any r W (by omega)
    by_cases h : 14 ≤ r.length
    · have C3 := fun W => vport_any (r.take 14) W (by rw [List.length_take]; omega)
      rw [port_first] at C3
      exact walk_long_none S0 M0 (bs r) i j _ _ (bs (r.take 14)) w ms ss mm sm (by omega) (by omega) (by omega) (hide C1) (by omega) (fun W => take_at r 14 h W) (hide (by rw [empty_right]; exact C1)) (hide C3) (hide (by rw [empty_right]; exact C4)) (hide C4) (hide fixed_true)
    · exact walk_short_none S0 M0 (bs r) i j _ _ w ms ss mm sm (by omega) (by omega) (by omega) (hide C1) (by omega) (hide (by rw [empty_right]; exact C4)) (hide C4) (hide fixed_true)
  · rw [List.concat_eq_append] at ht sm
    have hm : (m ++ [c]).length = m.length + 1 := by simp
    have hmz : (bs (m ++ [c])).size = m.length + 1 := by rw [bs_size, hm]
    have hlt : m.length < (bs (m ++ [c])).size := by omega
    have sl := fun W => take_at (m ++ [c]) m.length (by omega) W
    rw [List.take_left] at sl
    have hst : IntKind.u32.wrap (bits BinOp.xor IntKind.u32 ((hs (r ++ m) : Nat) : Int) ((c.toNat : Nat) : Int) * 16777619) = ((hs (r ++ (m ++ [c])) : Nat) : Int) := by
      rw [← List.append_assoc, hs_snoc, ← stir32 _ _ (hs_lt _) c.toNat_lt, IntKind.wrap_u32']
    have hcv : IntKind.u32.wrap ((c.toNat : Nat) : Int) = ((c.toNat : Nat) : Int) := by
      have := c.toNat_lt
      rw [IntKind.wrap_u32']; omega
    have C4 := fun W => hash_any (r ++ m) W (by rw [List.length_append]; omega)
    have C5 : ∀ W, Calls Tryd.prog 13 #[.string (bs (r ++ (m ++ [c])))] W fun e W' => e = .returned (.int .u32 ((hs (r ++ (m ++ [c])) : Nat) : Int)) ∧ Below W.heap.size W W' := fun W => (hash_any (r ++ (m ++ [c])) W (by rw [List.length_append, hm]; omega)).mono fun e W' ⟨he, hw⟩ => ⟨he, by rw [hw]; exact Below.refl _ _⟩
    rw [← bs_append] at C4 C5
    by_cases h : 14 ≤ r.length
    · have C2 := fun W => vport_any (r ++ (m ++ [c])) W (by rw [List.length_append, hm]; omega)
      rw [port_more r _ h, ← bs_append] at C2
      have C3 := fun W => vport_any (r.take 14) W (by rw [List.length_take]; omega)
      rw [port_first] at C3
      exact walk_long_more S0 M0 (bs r) (bs (m ++ [c])) i j _ (bs m) _ _ c.toNat m.length (bs (r.take 14)) w ms ss mm sm (by omega) (by omega) (by omega) (by omega) (not_empty c m) (by omega) hlt (last_at c m hlt) sl (by rw [bs_size]; omega) hcv hst (hide C1) (by omega) (fun W => take_at r 14 h W) (hide C2) (hide C3) (hide C4) (hide C5) (hide fixed_true)
    · exact walk_short_more S0 M0 (bs r) (bs (m ++ [c])) i j _ (bs m) _ _ c.toNat m.length w ms ss mm sm (by omega) (by omega) (by omega) (by omega) (not_empty c m) (by omega) hlt (last_at c m hlt) sl (by rw [bs_size]; omega) hcv hst (hide C1) (by omega) (hide C4) (hide C5) (hide fixed_true)
set_option maxRecDepth 100000 in
theorem lifted (os : Os) (started : os.Started) (H : Type) (enc : TypeId × Value → H) :
    ReturnsInHanded {} Tryd.checked os 6 .any (fun w args => (Rows.vxlanPortsSpec.pre enc Tryd.prog Tryd.f6 [] false w args ∧ laidMetH Tryd.prog [("errors.errorType", Rows.laid_errors_errorType)] w) ∧ sizedMet enc Tryd.prog Tryd.f6 (OpenSpec.ofChange Rows.vxlanPortsSpec) false w args)
      (Rows.vxlanPortsSpec.post enc Tryd.prog Tryd.f6 false true false false) := by
  refine returnsInHanded_of_change_and (C := Tryd.checked) (X := fun w _ => laidMetH Tryd.prog [("errors.errorType", Rows.laid_errors_errorType)] w) (fun _ _ _ hh h => h.of_heap hh) own started (by kernel_rfl) Tryd.func6
    (ChangeSpec.witness_at (enc := enc) (C := Tryd.checked) (os := os) (X := fun w _ => laidMetH Tryd.prog [("errors.errorType", Rows.laid_errors_errorType)] w) false
      { World.holding Tryd.prog os ⟨#[], #[], []⟩ with heap := (World.holding Tryd.prog os ⟨#[], #[], []⟩).heap.modify 0 fun
        | .cells _ t frozen => .cells #[.iface 70 (.agg #[.pointer (some ⟨1, 44, none⟩)])] t frozen
        | o => o } #[.string ByteArray.empty, .string ByteArray.empty] 8 rfl (by kernel_rfl) (by kernel_rfl) (by kernel_rfl) (by kernel_rfl) (by kernel_rfl) (laid_met os _)) ?_
  intro W base args ds gs before hval0 hW _ _ _ _
  have hval : ∀ (j : Nat) t v, Tryd.f6.params[j]? = some t → args[j]? = some v → Value.okWide Tryd.prog W .any base t v := hval0
  have hW' := hW
  obtain ⟨p, q, hA0, hV0, rfl, hfz, hnd⟩ := hW
  have hA : DataW.TrodAll enc Tryd.prog W 0 (fun _ => true) true Tryd.f6.params.toList args.toList ds p := hA0
  have hV : DataW.TrodVars enc Tryd.prog W (fun _ => true) [] gs q := hV0
  rw [Tryd.params6] at hA hval
  obtain ⟨v0, v1, d0, d1, p0, p1, rfl, rfl, rfl, h0, h1⟩ := trodAll_two hA
  obtain ⟨a0, rfl, rfl, rfl, w0⟩ := open_string Tryd.underlying9 (hval 0 9 v0 rfl rfl) h0
  obtain ⟨a1, rfl, rfl, rfl, w1⟩ := open_string Tryd.underlying9 (hval 1 9 v1 rfl rfl) h1
  obtain ⟨rfl, rfl⟩ := trodVars_none hV
  have e1 : Rows.vxlanPortsSpec.fn H ([.lit (.string a0.data.toList), .lit (.string a1.data.toList)] ++ []) = { results := [.lit (.bool true)], args := [.lit (.string a0.data.toList), .lit (.string a1.data.toList)] } := by simp [Rows.vxlanPortsSpec]
  refine (walk a0 a1 W w0 w1).mono fun e W' ⟨he, hb⟩ => ?_
  subst he
  refine ⟨_, rfl, _, _, _, [], [], [], hW', ?_, ?_, ?_, hb.frame _, fun h => by cases h⟩
  · rw [e1]; exact trodAll_mk1 (shut_bool Tryd.underlying4 true)
  · rw [e1]; exact trodAll_mk2 (shut_string Tryd.underlying9 w0) (shut_string Tryd.underlying9 w1)
  · rw [e1]; rfl

theorem said : Rows.VxlanPortsSaid :=
  OpenClaim.holds_of_wide 6 Tryd.f6 rfl rfl rfl rfl rfl rfl rfl ⟨rfl, rfl, rfl, rfl, rfl⟩ rfl rfl rfl rfl rfl (by kernel_rfl) Tryd.func6 (by kernel_rfl)
    (of_decide_eq_true (by kernel_rfl)) (by unfold Func.isWrapper; rw [if_neg (of_decide_eq_false (by kernel_rfl))]; exact ⟨rfl, rfl⟩)
    (fun os started H enc _ => lifted os started H enc)

theorem plain (f : FuncId) (fn : Func) (hf : Tryd.pinned.checked.prog.funcNamed Rows.vxlanPortsRow.func = some f) (hfn : Tryd.pinned.checked.prog.funcs[f]? = some fn) :
    true = Tryd.pinned.checked.prog.looks [] ∧ ∀ (j : Nat) t, fn.params[j]? = some t → Tryd.pinned.checked.prog.wantsStandIn t = false := by
  obtain rfl : f = 6 := Option.some.inj ((show Tryd.prog.funcNamed Rows.vxlanPortsRow.func = some 6 by kernel_rfl).symm.trans hf) |>.symm
  obtain rfl : fn = Tryd.f6 := (Option.some.inj (Tryd.func6.symm.trans hfn)).symm
  refine ⟨by kernel_rfl, fun j t ht => ?_⟩
  rw [Tryd.params6] at ht
  have hm := Array.mem_of_getElem? ht
  simp only [List.mem_toArray, List.mem_cons, List.not_mem_nil, or_false] at hm
  rcases hm with rfl | rfl
  · exact (show Tryd.prog.wantsStandIn 9 = false by kernel_rfl)
  · exact (show Tryd.prog.wantsStandIn 9 = false by kernel_rfl)

theorem card : Rows.VxlanPortsCardSaid :=
  Claim7.holds_tied_plain_at .later [] _ _ _ _ said (fun _ h => by cases h) (by kernel_rfl) (fun _ h => by cases h) vxlanPorts_row_tie rfl ⟨rfl, rfl⟩ (by kernel_rfl) rfl plain (by kernel_rfl)
end Go.Proofs.YtocbpkceokgohaaDoor.vxlanPorts
namespace Go.Proofs.YtocbpkceokgohaaDoor
theorem vxlanPorts_card_holds : Rows.VxlanPortsCardSaid := vxlanPorts.card
end Go.Proofs.YtocbpkceokgohaaDoor
