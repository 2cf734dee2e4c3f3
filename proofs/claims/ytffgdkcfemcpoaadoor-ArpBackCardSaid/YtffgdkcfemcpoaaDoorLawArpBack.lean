/-
  gangwaylaw05.ArpBack answers true, for every message and bytes.
-/
import Derived.Test.YtffgdkcfemcpoaaDoorRow5
namespace Go.Proofs.YtffgdkcfemcpoaaDoor.arpBack
open Go.ChangeShapes Go.WideShapes Go.ChangeAt Go.RowKit
open Go.ChangeMaps (open_string shut_string)

theorem parse_none (l : List UInt8) (h : (Ar.parse l).2 ≠ 0) : (Ar.parse l).1 = Ar.none := by
  unfold Ar.parse at h ⊢
  by_cases h1 : l.length < 28
  · rw [if_pos h1]
  · rw [if_neg h1] at h ⊢
    by_cases h2 : l.take 6 ≠ arpHead ∨ (Ar.of l).check ≠ 0
    · rw [if_pos h2]
    · rw [if_neg h2] at h; exact absurd rfl h
theorem parse_fits (l : List UInt8) (h28 : 28 ≤ l.length) (h : (Ar.parse l).2 = 0) : (Ar.parse l).1.fits := by
  unfold Ar.parse at h ⊢
  rw [if_neg (by omega)] at h ⊢
  by_cases h2 : l.take 6 ≠ arpHead ∨ (Ar.of l).check ≠ 0
  · rw [if_pos h2] at h; cases h
  · rw [if_neg h2]; exact Ar.of_fits l h28
theorem cut28 (l : List UInt8) (h : 28 ≤ l.length) (W : World) : (Instr.slice 9 (.string (bs l)) none (some (.int .i64 28)) none).run Tryd.prog W = .ok (.string (bs (l.take 28))) W := by
  have e := run_slice_string_h (P := Tryd.prog) W 9 (bs l) Tryd.underlying9 .i64 28 (by omega) (by rw [bs_size]; omega)
  rw [e, show ((28 : Int)).toNat = 28 from rfl, ← bs_of ((bs l).extract 0 28), extract_toList, bs_toList, List.drop_zero]
set_option maxRecDepth 100000 in
set_option maxHeartbeats 1000000 in
theorem walk_11 (op q i t j : Int) (op2 q2 i2 t2 j2 : Int) (x X T Y U : ByteArray) (m : Nat) (w : World)
    (mx : ∀ (ts : Array TypeId) (t : TypeId) (W : World), (Builtin.min_ ts t #[.int .i64 (x.size : Int), .int .i64 100]).run Tryd.prog W = .ok (.int .i64 (m : Int)) W)
    (sx : ∀ W : World, (Instr.slice 9 (.string x) none (some (.int .i64 (m : Int))) none).run Tryd.prog W = .ok (.string X) W)
    (CB : Hid (∀ W, Calls Tryd.prog 7 #[.agg #[.int .i64 op, .int .u64 q, .int .u32 i, .int .u64 t, .int .u32 j]] W fun e W' => e = .returned (.tuple #[.string T, .int .i64 0]) ∧ Below W.heap.size W W'))
    (hadd : ∀ W : World, (Op.stringOp .add T X).run Tryd.prog W = .ok (.string Y) W) (hT : T.size = 28)
    (CP1 : Hid (∀ W, Calls Tryd.prog 9 #[.string Y] W fun e W' => e = .returned (.tuple #[.agg #[.int .i64 op, .int .u64 q, .int .u32 i, .int .u64 t, .int .u32 j], .int .i64 0]) ∧ Below W.heap.size W W'))
    (CP : Hid (∀ W, Calls Tryd.prog 9 #[.string X] W fun e W' => e = .returned (.tuple #[.agg #[.int .i64 op2, .int .u64 q2, .int .u32 i2, .int .u64 t2, .int .u32 j2], .int .i64 0]) ∧ Below W.heap.size W W'))
    (CB2 : Hid (∀ W, Calls Tryd.prog 7 #[.agg #[.int .i64 op2, .int .u64 q2, .int .u32 i2, .int .u64 t2, .int .u32 j2]] W fun e W' => e = .returned (.tuple #[.string U, .int .i64 0]) ∧ Below W.heap.size W W'))
    (hX : 28 ≤ X.size) (sU : ∀ W : World, (Instr.slice 9 (.string X) none (some (.int .i64 28)) none).run Tryd.prog W = .ok (.string U) W) :
    Calls Tryd.prog 4 #[.agg #[.int .i64 op, .int .u64 q, .int .u32 i, .int .u64 t, .int .u32 j], .string x] w fun e w' => e = .returned (.bool true) ∧ Below w.heap.size w w' := by
  have oth := other_arp op q i t j
  go_enter Tryd.func4, Tryd.ntmps4
  go_wp2_with fail
  refine (unhide CB _).mono ?_
  rintro e w1 ⟨rfl, b1⟩
  have h1 := bthen (alloc_below w _) b1
  have r1 := Below.row b1 (heap_alloc_new w _)
  clear b1 CB
  go_wp2_with fail
  refine (unhide CP1 _).mono ?_
  rintro e w2 ⟨rfl, b2⟩
  have h2 := alloc_then (o := .cells #[.int .i64 op, .int .u64 q, .int .u32 i, .int .u64 t, .int .u32 j] 25) (bthen h1 b2)
  have r2 := Below.row (alloc_below w2 (.cells #[.int .i64 op, .int .u64 q, .int .u32 i, .int .u64 t, .int .u32 j] 25)) (Below.row b2 r1)
  obtain ⟨c0, c1, c2, c3, c4, _⟩ := cells5 r2
  clear b2 CP1 r1 r2
  go_wp2_with fail
  refine (unhide CP _).mono ?_
  rintro e w3 ⟨rfl, b3⟩
  have h3 := bthen h2 b3
  clear c0 c1 c2 c3 c4
  clear b3 CP
  have h4 := alloc_then (o := .cells #[.int .i64 op2, .int .u64 q2, .int .u32 i2, .int .u64 t2, .int .u32 j2] 25) h3
  go_wp2_with fail
  refine (unhide CB2 _).mono ?_
  rintro e w4 ⟨rfl, b4⟩
  have h5 := bthen h4 b4
  clear b4 CB2 h3 h4
  go_wp2_with fail
  refine (fixed_true _).mono ?_
  rintro e w6 ⟨rfl, b6⟩
  have h7 := bthen h5 b6
  go_wp2_with fail
  go_ret
  exact ⟨rfl, h7⟩
set_option maxRecDepth 100000 in
set_option maxHeartbeats 1000000 in
theorem walk_10 (op q i t j : Int) (c : Int) (x X T Y : ByteArray) (m : Nat) (w : World)
    (mx : ∀ (ts : Array TypeId) (t : TypeId) (W : World), (Builtin.min_ ts t #[.int .i64 (x.size : Int), .int .i64 100]).run Tryd.prog W = .ok (.int .i64 (m : Int)) W)
    (sx : ∀ W : World, (Instr.slice 9 (.string x) none (some (.int .i64 (m : Int))) none).run Tryd.prog W = .ok (.string X) W)
    (CB : Hid (∀ W, Calls Tryd.prog 7 #[.agg #[.int .i64 op, .int .u64 q, .int .u32 i, .int .u64 t, .int .u32 j]] W fun e W' => e = .returned (.tuple #[.string T, .int .i64 0]) ∧ Below W.heap.size W W'))
    (hadd : ∀ W : World, (Op.stringOp .add T X).run Tryd.prog W = .ok (.string Y) W) (hT : T.size = 28)
    (CP1 : Hid (∀ W, Calls Tryd.prog 9 #[.string Y] W fun e W' => e = .returned (.tuple #[.agg #[.int .i64 op, .int .u64 q, .int .u32 i, .int .u64 t, .int .u32 j], .int .i64 0]) ∧ Below W.heap.size W W'))
    (hc : (c != 0) = true)
    (CP : Hid (∀ W, Calls Tryd.prog 9 #[.string X] W fun e W' => e = .returned (.tuple #[.agg #[.int .i64 0, .int .u64 0, .int .u32 0, .int .u64 0, .int .u32 0], .int .i64 c]) ∧ Below W.heap.size W W')) :
    Calls Tryd.prog 4 #[.agg #[.int .i64 op, .int .u64 q, .int .u32 i, .int .u64 t, .int .u32 j], .string x] w fun e w' => e = .returned (.bool true) ∧ Below w.heap.size w w' := by
  have oth := other_arp op q i t j
  have zer := same_arp 0 0 0 0 0
  go_enter Tryd.func4, Tryd.ntmps4
  go_wp2_with fail
  refine (unhide CB _).mono ?_
  rintro e w1 ⟨rfl, b1⟩
  have h1 := bthen (alloc_below w _) b1
  have r1 := Below.row b1 (heap_alloc_new w _)
  clear b1 CB
  go_wp2_with fail
  refine (unhide CP1 _).mono ?_
  rintro e w2 ⟨rfl, b2⟩
  have h2 := alloc_then (o := .cells #[.int .i64 op, .int .u64 q, .int .u32 i, .int .u64 t, .int .u32 j] 25) (bthen h1 b2)
  have r2 := Below.row (alloc_below w2 (.cells #[.int .i64 op, .int .u64 q, .int .u32 i, .int .u64 t, .int .u32 j] 25)) (Below.row b2 r1)
  obtain ⟨c0, c1, c2, c3, c4, _⟩ := cells5 r2
  clear b2 CP1 r1 r2
  go_wp2_with fail
  refine (unhide CP _).mono ?_
  rintro e w3 ⟨rfl, b3⟩
  have h3 := bthen h2 b3
  clear c0 c1 c2 c3 c4
  clear b3 CP
  have h5 := alloc_then (o := .cells #[.int .i64 0, .int .u64 0, .int .u32 0, .int .u64 0, .int .u32 0] 25) h3
  go_wp2_with fail
  refine (fixed_true _).mono ?_
  rintro e w6 ⟨rfl, b6⟩
  have h7 := bthen h5 b6
  go_wp2_with fail
  go_ret
  exact ⟨rfl, h7⟩
set_option maxRecDepth 100000 in
set_option maxHeartbeats 1000000 in
theorem walk_01 (op q i t j : Int) (op2 q2 i2 t2 j2 : Int) (k : Int) (x X T U : ByteArray) (m : Nat) (w : World)
    (mx : ∀ (ts : Array TypeId) (t : TypeId) (W : World), (Builtin.min_ ts t #[.int .i64 (x.size : Int), .int .i64 100]).run Tryd.prog W = .ok (.int .i64 (m : Int)) W)
    (sx : ∀ W : World, (Instr.slice 9 (.string x) none (some (.int .i64 (m : Int))) none).run Tryd.prog W = .ok (.string X) W)
    (hk : (k == 0) = false)
    (CB : Hid (∀ W, Calls Tryd.prog 7 #[.agg #[.int .i64 op, .int .u64 q, .int .u32 i, .int .u64 t, .int .u32 j]] W fun e W' => e = .returned (.tuple #[.string T, .int .i64 k]) ∧ Below W.heap.size W W'))
    (CP : Hid (∀ W, Calls Tryd.prog 9 #[.string X] W fun e W' => e = .returned (.tuple #[.agg #[.int .i64 op2, .int .u64 q2, .int .u32 i2, .int .u64 t2, .int .u32 j2], .int .i64 0]) ∧ Below W.heap.size W W'))
    (CB2 : Hid (∀ W, Calls Tryd.prog 7 #[.agg #[.int .i64 op2, .int .u64 q2, .int .u32 i2, .int .u64 t2, .int .u32 j2]] W fun e W' => e = .returned (.tuple #[.string U, .int .i64 0]) ∧ Below W.heap.size W W'))
    (hX : 28 ≤ X.size) (sU : ∀ W : World, (Instr.slice 9 (.string X) none (some (.int .i64 28)) none).run Tryd.prog W = .ok (.string U) W) :
    Calls Tryd.prog 4 #[.agg #[.int .i64 op, .int .u64 q, .int .u32 i, .int .u64 t, .int .u32 j], .string x] w fun e w' => e = .returned (.bool true) ∧ Below w.heap.size w w' := by
  go_enter Tryd.func4, Tryd.ntmps4
  go_wp2_with fail
  refine (unhide CB _).mono ?_
  rintro e w1 ⟨rfl, b1⟩
  have h1 := bthen (alloc_below w _) b1
  clear b1 CB
  go_wp2_with fail
  refine (unhide CP _).mono ?_
  rintro e w3 ⟨rfl, b3⟩
  have h3 := bthen h1 b3
  clear b3 CP
  have h4 := alloc_then (o := .cells #[.int .i64 op2, .int .u64 q2, .int .u32 i2, .int .u64 t2, .int .u32 j2] 25) h3
  go_wp2_with fail
  refine (unhide CB2 _).mono ?_
  rintro e w4 ⟨rfl, b4⟩
  have h5 := bthen h4 b4
  clear b4 CB2 h3 h4
  go_wp2_with fail
  refine (fixed_true _).mono ?_
  rintro e w6 ⟨rfl, b6⟩
  have h7 := bthen h5 b6
  go_wp2_with fail
  go_ret
  exact ⟨rfl, h7⟩
set_option maxRecDepth 100000 in
set_option maxHeartbeats 1000000 in
theorem walk_00 (op q i t j : Int) (c : Int) (k : Int) (x X T : ByteArray) (m : Nat) (w : World)
    (mx : ∀ (ts : Array TypeId) (t : TypeId) (W : World), (Builtin.min_ ts t #[.int .i64 (x.size : Int), .int .i64 100]).run Tryd.prog W = .ok (.int .i64 (m : Int)) W)
    (sx : ∀ W : World, (Instr.slice 9 (.string x) none (some (.int .i64 (m : Int))) none).run Tryd.prog W = .ok (.string X) W)
    (hk : (k == 0) = false)
    (CB : Hid (∀ W, Calls Tryd.prog 7 #[.agg #[.int .i64 op, .int .u64 q, .int .u32 i, .int .u64 t, .int .u32 j]] W fun e W' => e = .returned (.tuple #[.string T, .int .i64 k]) ∧ Below W.heap.size W W'))
    (hc : (c != 0) = true)
    (CP : Hid (∀ W, Calls Tryd.prog 9 #[.string X] W fun e W' => e = .returned (.tuple #[.agg #[.int .i64 0, .int .u64 0, .int .u32 0, .int .u64 0, .int .u32 0], .int .i64 c]) ∧ Below W.heap.size W W')) :
    Calls Tryd.prog 4 #[.agg #[.int .i64 op, .int .u64 q, .int .u32 i, .int .u64 t, .int .u32 j], .string x] w fun e w' => e = .returned (.bool true) ∧ Below w.heap.size w w' := by
  have zer := same_arp 0 0 0 0 0
  go_enter Tryd.func4, Tryd.ntmps4
  go_wp2_with fail
  refine (unhide CB _).mono ?_
  rintro e w1 ⟨rfl, b1⟩
  have h1 := bthen (alloc_below w _) b1
  clear b1 CB
  go_wp2_with fail
  refine (unhide CP _).mono ?_
  rintro e w3 ⟨rfl, b3⟩
  have h3 := bthen h1 b3
  clear b3 CP
  have h5 := alloc_then (o := .cells #[.int .i64 0, .int .u64 0, .int .u32 0, .int .u64 0, .int .u32 0] 25) h3
  go_wp2_with fail
  refine (fixed_true _).mono ?_
  rintro e w6 ⟨rfl, b6⟩
  have h7 := bthen h5 b6
  go_wp2_with fail
  go_ret
  exact ⟨rfl, h7⟩
theorem walk (a : Ar) (x : ByteArray) (w : World) (h : a.fits) (_ : x.size ≤ maxLen) :
    Calls Tryd.prog 4 #[a.val, .string x] w fun e w' => e = .returned (.bool true) ∧ Below w.heap.size w w' := by
  obtain ⟨m, l, hl, mx, sx⟩ := firstN 100 x
  have hP := fun W => arpParse_any l W (by omega)
  unfold ParseTells at hP
  by_cases ha : a.check = 0
  · have CB := fun W => arpBuild_ok a W h ha
    have hadd := fun W => add_bs a.bytes l (by rw [Ar.bytes_length]; omega) W
    have CP1 := fun W => arpParse_any (a.bytes ++ l) W (by rw [List.length_append, Ar.bytes_length]; omega)
    rw [arp_back a l ha h.2.2.1 h.2.2.2.2] at CP1
    have hT : (bs a.bytes).size = 28 := by rw [bs_size, Ar.bytes_length]
    by_cases hp : (Ar.parse l).2 = 0
    · obtain ⟨h28, hc, hb, hi, hj⟩ := arp_told (s := l) (r := (Ar.parse l).1) (Prod.ext rfl hp)
      have hf := parse_fits l h28 hp
      have CB2 := fun W => arpBuild_ok _ W hf hc
      rw [hp] at hP
      rw [hb] at CB2
      exact walk_11 a.op a.smac a.sip a.tmac a.tip _ _ _ _ _ x (bs l) _ _ _ m w mx sx (hide CB) hadd hT (hide CP1) (hide hP) (hide CB2) (by rw [bs_size]; exact h28) (cut28 l h28)
    · have hn := parse_none l hp
      rw [hn] at hP
      exact walk_10 a.op a.smac a.sip a.tmac a.tip _ x (bs l) _ _ m w mx sx (hide CB) hadd hT (hide CP1) (by simpa using hp) (hide hP)
  · have CB := fun W => arpBuild_any a W h
    have hk : (a.check == 0) = false := by simpa using ha
    by_cases hp : (Ar.parse l).2 = 0
    · obtain ⟨h28, hc, hb, hi, hj⟩ := arp_told (s := l) (r := (Ar.parse l).1) (Prod.ext rfl hp)
      have hf := parse_fits l h28 hp
      have CB2 := fun W => arpBuild_ok _ W hf hc
      rw [hp] at hP
      rw [hb] at CB2
      exact walk_01 a.op a.smac a.sip a.tmac a.tip _ _ _ _ _ _ x (bs l) _ _ m w mx sx hk (hide CB) (hide hP) (hide CB2) (by rw [bs_size]; exact h28) (cut28 l h28)
    · have hn := parse_none l hp
      rw [hn] at hP
      exact walk_00 a.op a.smac a.sip a.tmac a.tip _ _ x (bs l) _ m w mx sx hk (hide CB) (by simpa using hp) (hide hP)
set_option maxRecDepth 100000 in
theorem lifted (os : Os) (started : os.Started) (H : Type) (enc : TypeId × Value → H) :
    ReturnsInHanded {} Tryd.checked os 4 .any (fun w args => (Rows.arpBackSpec.pre enc Tryd.prog Tryd.f4 [] false w args ∧ laidMetH Tryd.prog [("errors.errorType", Rows.laid_errors_errorType)] w) ∧ sizedMet enc Tryd.prog Tryd.f4 (OpenSpec.ofChange Rows.arpBackSpec) false w args)
      (Rows.arpBackSpec.post enc Tryd.prog Tryd.f4 false true false false) := by
  refine returnsInHanded_of_change_and (C := Tryd.checked) (X := fun w _ => laidMetH Tryd.prog [("errors.errorType", Rows.laid_errors_errorType)] w) (fun _ _ _ hh h => h.of_heap hh) own started (by kernel_rfl) Tryd.func4
    (ChangeSpec.witness_at (enc := enc) (C := Tryd.checked) (os := os) (X := fun w _ => laidMetH Tryd.prog [("errors.errorType", Rows.laid_errors_errorType)] w) false
      { World.holding Tryd.prog os ⟨#[], #[], []⟩ with heap := (World.holding Tryd.prog os ⟨#[], #[], []⟩).heap.modify 0 fun
        | .cells _ t frozen => .cells #[.iface 104 (.agg #[.pointer (some ⟨1, 56, none⟩)])] t frozen
        | o => o } #[.agg #[.int .i64 0, .int .u64 0, .int .u32 0, .int .u64 0, .int .u32 0], .string ByteArray.empty] 8 rfl (by kernel_rfl) (by kernel_rfl) (by kernel_rfl) (by kernel_rfl) (by kernel_rfl) (laid_met os _)) ?_
  intro W base args ds gs before hval0 hW _ _ _ _
  have hval : ∀ (j : Nat) t v, Tryd.f4.params[j]? = some t → args[j]? = some v → Value.okWide Tryd.prog W .any base t v := hval0
  have hW' := hW
  obtain ⟨p, q, hA0, hV0, rfl, hfz, hnd⟩ := hW
  have hA : DataW.TrodAll enc Tryd.prog W 0 (fun _ => true) true Tryd.f4.params.toList args.toList ds p := hA0
  have hV : DataW.TrodVars enc Tryd.prog W (fun _ => true) [] gs q := hV0
  rw [Tryd.params4] at hA hval
  obtain ⟨v0, v1, d0, d1, p0, p1, rfl, rfl, rfl, h0, h1⟩ := trodAll_two hA
  obtain ⟨a0, rfl, rfl, rfl, hf0, hw0⟩ := open_arp (hval 0 25 v0 rfl rfl) h0
  obtain ⟨a1, rfl, rfl, rfl, w1⟩ := open_string Tryd.underlying9 (hval 1 9 v1 rfl rfl) h1
  obtain ⟨rfl, rfl⟩ := trodVars_none hV
  have e1 : Rows.arpBackSpec.fn H ([arpD a0, .lit (.string a1.data.toList)] ++ []) = { results := [.lit (.bool true)], args := [arpD a0, .lit (.string a1.data.toList)] } := by simp [Rows.arpBackSpec]
  refine (walk a0 a1 W hf0 w1).mono fun e W' ⟨he, hb⟩ => ?_
  subst he
  refine ⟨_, rfl, _, _, _, [], [], [], hW', ?_, ?_, ?_, hb.frame _, fun h => by cases h⟩
  · rw [e1]; exact trodAll_mk1 (shut_bool Tryd.underlying4 true)
  · rw [e1]; exact trodAll_mk2 (shut_arp a0 hw0) (shut_string Tryd.underlying9 w1)
  · rw [e1]; rfl

theorem said : Rows.ArpBackSaid :=
  OpenClaim.holds_of_wide 4 Tryd.f4 rfl rfl rfl rfl rfl rfl rfl ⟨rfl, rfl, rfl, rfl, rfl⟩ rfl rfl rfl rfl rfl (by kernel_rfl) Tryd.func4 (by kernel_rfl)
    (of_decide_eq_true (by kernel_rfl)) (by unfold Func.isWrapper; rw [if_neg (of_decide_eq_false (by kernel_rfl))]; exact ⟨rfl, rfl⟩)
    (fun os started H enc _ => lifted os started H enc)

theorem plain (f : FuncId) (fn : Func) (hf : Tryd.pinned.checked.prog.funcNamed Rows.arpBackRow.func = some f) (hfn : Tryd.pinned.checked.prog.funcs[f]? = some fn) :
    true = Tryd.pinned.checked.prog.looks [] ∧ ∀ (j : Nat) t, fn.params[j]? = some t → Tryd.pinned.checked.prog.wantsStandIn t = false := by
  obtain rfl : f = 4 := Option.some.inj ((show Tryd.prog.funcNamed Rows.arpBackRow.func = some 4 by kernel_rfl).symm.trans hf) |>.symm
  obtain rfl : fn = Tryd.f4 := (Option.some.inj (Tryd.func4.symm.trans hfn)).symm
  refine ⟨by kernel_rfl, fun j t ht => ?_⟩
  rw [Tryd.params4] at ht
  have hm := Array.mem_of_getElem? ht
  simp only [List.mem_toArray, List.mem_cons, List.not_mem_nil, or_false] at hm
  rcases hm with rfl | rfl
  · exact (show Tryd.prog.wantsStandIn 25 = false by kernel_rfl)
  · exact (show Tryd.prog.wantsStandIn 9 = false by kernel_rfl)

theorem card : Rows.ArpBackCardSaid :=
  Claim7.holds_tied_plain_at .later [] _ _ _ _ said (fun _ h => by cases h) (by kernel_rfl) (fun _ h => by cases h) arpBack_row_tie rfl ⟨rfl, rfl⟩ (by kernel_rfl) rfl plain (by kernel_rfl)
end Go.Proofs.YtffgdkcfemcpoaaDoor.arpBack
namespace Go.Proofs.YtffgdkcfemcpoaaDoor
theorem arpBack_card_holds : Rows.ArpBackCardSaid := arpBack.card
end Go.Proofs.YtffgdkcfemcpoaaDoor
