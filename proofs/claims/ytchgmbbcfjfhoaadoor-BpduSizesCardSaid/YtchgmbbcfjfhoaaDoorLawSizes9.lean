/-
  Proved: a message has 7, 38 or 39 bytes; cut short it is none, and the arguments read afterwards as before. Conditions: errors.errorType holds what the program's own text lays (tied by the card; the walk asks nothing of it).
-/
import Derived.Test.YtchgmbbcfjfhoaaDoorRow9
import Derived.Test.YtchgmbbcfjfhoaaDoorFixed9
import Derived.Test.YtchgmbbcfjfhoaaDoorLoad9
namespace Go.Proofs.YtchgmbbcfjfhoaaDoor.bpduSizes
open Go.ChangeShapes Go.WideShapes Go.ChangeAt Go.RowKit Go.Sort
open Go.ChangeMaps (open_string shut_string)

set_option maxRecDepth 100000 in
set_option maxHeartbeats 4000000 in
theorem walk_bad (k : Int) (c p l f a x : Bool) (r R C B P A M H D : Int) (E z : Int) (w : World)
    (hE : (E != 0) = true)
    (CB : Hid (∀ W, Calls Tryd.prog 9 #[.agg #[.int .i64 k, .bool c, .bool p, .bool l, .bool f, .bool a, .bool x, .int .i64 r, .int .u64 R, .int .i64 C, .int .u64 B, .int .i64 P, .int .i64 A, .int .i64 M, .int .i64 H, .int .i64 D]] W fun e W' => e = .returned (.tuple #[.string ⟨#[]⟩, .int .i64 E]) ∧ Below W.heap.size W W'))
    (CF : Hid (∀ W, Calls Tryd.prog 11 #[] W fun e W' => e = .returned (.bool true) ∧ Below W.heap.size W W')) :
    Calls Tryd.prog 8 #[.agg #[.int .i64 k, .bool c, .bool p, .bool l, .bool f, .bool a, .bool x, .int .i64 r, .int .u64 R, .int .i64 C, .int .u64 B, .int .i64 P, .int .i64 A, .int .i64 M, .int .i64 H, .int .i64 D], .int .i64 z] w fun e w' => e = .returned (.bool true) ∧ Below w.heap.size w w' := by
  go_enter Tryd.func8, Tryd.ntmps8
  go_wp2_with fail
  refine (unhide CB _).mono ?_
  rintro e w1 ⟨rfl, b1⟩
  clear CB
  have h1 := hide (bthen (alloc_below w _) b1)
  clear b1
  go_wp2_with fail
  refine (unhide CF _).mono ?_
  rintro e w2 ⟨rfl, b2⟩
  clear CF
  have h2 := hide (bthen (unhide h1) b2)
  clear b2
  go_wp2_with fail
  go_ret
  exact ⟨rfl, unhide h2⟩
set_option maxRecDepth 100000 in
set_option maxHeartbeats 4000000 in
theorem walk_turn (c p l f a x : Bool) (r R C B P A M H D : Int) (z : Int) (S T : ByteArray) (q j : Nat) (w : World)
    (hS : S.size = 7)
    (hq : bits BinOp.and IntKind.i64 z 65535 = (q : Int))
    (hj : (q : Int) % 7 = (j : Int))
    (sl : ∀ W : World, (Instr.slice 9 (.string S) none (some (.int .i64 (j : Int))) none).run Tryd.prog W = .ok (.string T) W)
    (CB : Hid (∀ W, Calls Tryd.prog 9 #[.agg #[.int .i64 128, .bool c, .bool p, .bool l, .bool f, .bool a, .bool x, .int .i64 r, .int .u64 R, .int .i64 C, .int .u64 B, .int .i64 P, .int .i64 A, .int .i64 M, .int .i64 H, .int .i64 D]] W fun e W' => e = .returned (.tuple #[.string S, .int .i64 0]) ∧ Below W.heap.size W W'))
    (CP : Hid (∀ W, Calls Tryd.prog 14 #[.string T] W fun e W' => e = .returned (.tuple #[.agg #[.int .i64 0, .bool false, .bool false, .bool false, .bool false, .bool false, .bool false, .int .i64 0, .int .u64 0, .int .i64 0, .int .u64 0, .int .i64 0, .int .i64 0, .int .i64 0, .int .i64 0, .int .i64 0], .int .i64 90]) ∧ Below W.heap.size W W'))
    (CF : Hid (∀ W, Calls Tryd.prog 11 #[] W fun e W' => e = .returned (.bool true) ∧ Below W.heap.size W W')) :
    Calls Tryd.prog 8 #[.agg #[.int .i64 128, .bool c, .bool p, .bool l, .bool f, .bool a, .bool x, .int .i64 r, .int .u64 R, .int .i64 C, .int .u64 B, .int .i64 P, .int .i64 A, .int .i64 M, .int .i64 H, .int .i64 D], .int .i64 z] w fun e w' => e = .returned (.bool true) ∧ Below w.heap.size w w' := by
  have sm := same_bp 0 false false false false false false 0 0 0 0 0 0 0 0 0
  go_enter Tryd.func8, Tryd.ntmps8
  go_wp2_with fail
  refine (unhide CB _).mono ?_
  rintro e w1 ⟨rfl, b1⟩
  clear CB
  have h1 := hide (bthen (alloc_below w _) b1)
  have c0 := (cells16 (Below.row b1 (heap_alloc_new w _))).1
  clear b1
  go_wp2_with fail
  refine (unhide CP _).mono ?_
  rintro e w2 ⟨rfl, b2⟩
  clear CP
  have h2 := hide (alloc_then (o := .cells #[.int .i64 0, .bool false, .bool false, .bool false, .bool false, .bool false, .bool false, .int .i64 0, .int .u64 0, .int .i64 0, .int .u64 0, .int .i64 0, .int .i64 0, .int .i64 0, .int .i64 0, .int .i64 0] 24) (bthen (unhide h1) b2))
  have Q2 := hide (heap_alloc_new w2 (.cells #[.int .i64 0, .bool false, .bool false, .bool false, .bool false, .bool false, .bool false, .int .i64 0, .int .u64 0, .int .i64 0, .int .u64 0, .int .i64 0, .int .i64 0, .int .i64 0, .int .i64 0, .int .i64 0] 24))
  clear h1 b2 c0
  go_wp2_with (first | (refine load_want 24 _ rfl (w2.heap.size) rfl rfl 24 _ _ _ (unhide Q2) Tryd.underlying24 rfl (by kernel_rfl) ?_; simp only [Act.put, List.setIfInBounds_toArray, List.set_cons_zero, List.set_cons_succ]))
  refine (unhide CF _).mono ?_
  rintro e w3 ⟨rfl, b3⟩
  clear CF
  have h3 := hide (bthen (unhide h2) b3)
  clear b3
  go_wp2_with fail
  go_ret
  exact ⟨rfl, unhide h3⟩
set_option maxRecDepth 100000 in
set_option maxHeartbeats 4000000 in
theorem walk_conf (c p l f a x : Bool) (r R C B P A M H D : Int) (z : Int) (S T : ByteArray) (q j : Nat) (w : World)
    (hS : S.size = 38)
    (hq : bits BinOp.and IntKind.i64 z 65535 = (q : Int))
    (hj : (q : Int) % 38 = (j : Int))
    (sl : ∀ W : World, (Instr.slice 9 (.string S) none (some (.int .i64 (j : Int))) none).run Tryd.prog W = .ok (.string T) W)
    (CB : Hid (∀ W, Calls Tryd.prog 9 #[.agg #[.int .i64 0, .bool c, .bool p, .bool l, .bool f, .bool a, .bool x, .int .i64 r, .int .u64 R, .int .i64 C, .int .u64 B, .int .i64 P, .int .i64 A, .int .i64 M, .int .i64 H, .int .i64 D]] W fun e W' => e = .returned (.tuple #[.string S, .int .i64 0]) ∧ Below W.heap.size W W'))
    (CP : Hid (∀ W, Calls Tryd.prog 14 #[.string T] W fun e W' => e = .returned (.tuple #[.agg #[.int .i64 0, .bool false, .bool false, .bool false, .bool false, .bool false, .bool false, .int .i64 0, .int .u64 0, .int .i64 0, .int .u64 0, .int .i64 0, .int .i64 0, .int .i64 0, .int .i64 0, .int .i64 0], .int .i64 90]) ∧ Below W.heap.size W W'))
    (CF : Hid (∀ W, Calls Tryd.prog 11 #[] W fun e W' => e = .returned (.bool true) ∧ Below W.heap.size W W')) :
    Calls Tryd.prog 8 #[.agg #[.int .i64 0, .bool c, .bool p, .bool l, .bool f, .bool a, .bool x, .int .i64 r, .int .u64 R, .int .i64 C, .int .u64 B, .int .i64 P, .int .i64 A, .int .i64 M, .int .i64 H, .int .i64 D], .int .i64 z] w fun e w' => e = .returned (.bool true) ∧ Below w.heap.size w w' := by
  have sm := same_bp 0 false false false false false false 0 0 0 0 0 0 0 0 0
  go_enter Tryd.func8, Tryd.ntmps8
  go_wp2_with fail
  refine (unhide CB _).mono ?_
  rintro e w1 ⟨rfl, b1⟩
  clear CB
  have h1 := hide (bthen (alloc_below w _) b1)
  have c0 := (cells16 (Below.row b1 (heap_alloc_new w _))).1
  clear b1
  go_wp2_with fail
  refine (unhide CP _).mono ?_
  rintro e w2 ⟨rfl, b2⟩
  clear CP
  have h2 := hide (alloc_then (o := .cells #[.int .i64 0, .bool false, .bool false, .bool false, .bool false, .bool false, .bool false, .int .i64 0, .int .u64 0, .int .i64 0, .int .u64 0, .int .i64 0, .int .i64 0, .int .i64 0, .int .i64 0, .int .i64 0] 24) (bthen (unhide h1) b2))
  have Q2 := hide (heap_alloc_new w2 (.cells #[.int .i64 0, .bool false, .bool false, .bool false, .bool false, .bool false, .bool false, .int .i64 0, .int .u64 0, .int .i64 0, .int .u64 0, .int .i64 0, .int .i64 0, .int .i64 0, .int .i64 0, .int .i64 0] 24))
  clear h1 b2 c0
  go_wp2_with (first | (refine load_want 24 _ rfl (w2.heap.size) rfl rfl 24 _ _ _ (unhide Q2) Tryd.underlying24 rfl (by kernel_rfl) ?_; simp only [Act.put, List.setIfInBounds_toArray, List.set_cons_zero, List.set_cons_succ]))
  refine (unhide CF _).mono ?_
  rintro e w3 ⟨rfl, b3⟩
  clear CF
  have h3 := hide (bthen (unhide h2) b3)
  clear b3
  go_wp2_with fail
  go_ret
  exact ⟨rfl, unhide h3⟩
set_option maxRecDepth 100000 in
set_option maxHeartbeats 4000000 in
theorem walk_rap (c p l f a x : Bool) (r R C B P A M H D : Int) (z : Int) (S T : ByteArray) (q j : Nat) (w : World)
    (hS : S.size = 39)
    (hq : bits BinOp.and IntKind.i64 z 65535 = (q : Int))
    (hj : (q : Int) % 39 = (j : Int))
    (sl : ∀ W : World, (Instr.slice 9 (.string S) none (some (.int .i64 (j : Int))) none).run Tryd.prog W = .ok (.string T) W)
    (CB : Hid (∀ W, Calls Tryd.prog 9 #[.agg #[.int .i64 2, .bool c, .bool p, .bool l, .bool f, .bool a, .bool x, .int .i64 r, .int .u64 R, .int .i64 C, .int .u64 B, .int .i64 P, .int .i64 A, .int .i64 M, .int .i64 H, .int .i64 D]] W fun e W' => e = .returned (.tuple #[.string S, .int .i64 0]) ∧ Below W.heap.size W W'))
    (CP : Hid (∀ W, Calls Tryd.prog 14 #[.string T] W fun e W' => e = .returned (.tuple #[.agg #[.int .i64 0, .bool false, .bool false, .bool false, .bool false, .bool false, .bool false, .int .i64 0, .int .u64 0, .int .i64 0, .int .u64 0, .int .i64 0, .int .i64 0, .int .i64 0, .int .i64 0, .int .i64 0], .int .i64 90]) ∧ Below W.heap.size W W'))
    (CF : Hid (∀ W, Calls Tryd.prog 11 #[] W fun e W' => e = .returned (.bool true) ∧ Below W.heap.size W W')) :
    Calls Tryd.prog 8 #[.agg #[.int .i64 2, .bool c, .bool p, .bool l, .bool f, .bool a, .bool x, .int .i64 r, .int .u64 R, .int .i64 C, .int .u64 B, .int .i64 P, .int .i64 A, .int .i64 M, .int .i64 H, .int .i64 D], .int .i64 z] w fun e w' => e = .returned (.bool true) ∧ Below w.heap.size w w' := by
  have sm := same_bp 0 false false false false false false 0 0 0 0 0 0 0 0 0
  go_enter Tryd.func8, Tryd.ntmps8
  go_wp2_with fail
  refine (unhide CB _).mono ?_
  rintro e w1 ⟨rfl, b1⟩
  clear CB
  have h1 := hide (bthen (alloc_below w _) b1)
  have c0 := (cells16 (Below.row b1 (heap_alloc_new w _))).1
  clear b1
  go_wp2_with fail
  refine (unhide CP _).mono ?_
  rintro e w2 ⟨rfl, b2⟩
  clear CP
  have h2 := hide (alloc_then (o := .cells #[.int .i64 0, .bool false, .bool false, .bool false, .bool false, .bool false, .bool false, .int .i64 0, .int .u64 0, .int .i64 0, .int .u64 0, .int .i64 0, .int .i64 0, .int .i64 0, .int .i64 0, .int .i64 0] 24) (bthen (unhide h1) b2))
  have Q2 := hide (heap_alloc_new w2 (.cells #[.int .i64 0, .bool false, .bool false, .bool false, .bool false, .bool false, .bool false, .int .i64 0, .int .u64 0, .int .i64 0, .int .u64 0, .int .i64 0, .int .i64 0, .int .i64 0, .int .i64 0, .int .i64 0] 24))
  clear h1 b2 c0
  go_wp2_with (first | (refine load_want 24 _ rfl (w2.heap.size) rfl rfl 24 _ _ _ (unhide Q2) Tryd.underlying24 rfl (by kernel_rfl) ?_; simp only [Act.put, List.setIfInBounds_toArray, List.set_cons_zero, List.set_cons_succ]))
  refine (unhide CF _).mono ?_
  rintro e w3 ⟨rfl, b3⟩
  clear CF
  have h3 := hide (bthen (unhide h2) b3)
  clear b3
  go_wp2_with fail
  go_ret
  exact ⟨rfl, unhide h3⟩
theorem walk (b : Bp) (z : Int) (w : World) (hf : b.fits) (_ : -9223372036854775808 ≤ z) (_ : z ≤ 9223372036854775807) :
    Calls Tryd.prog 8 #[b.val, .int .i64 z] w fun e w' => e = .returned (.bool true) ∧ Below w.heap.size w w' := by
  have CB := fun W => bpBuild_any b W hf
  have hl := b.bytes_length
  obtain ⟨q, hq, _⟩ := and_mask z 65535 (by decide)
  have hq' : bits BinOp.and IntKind.i64 z 65535 = (q : Int) := hq
  unfold Bp.built at CB
  by_cases h : b.check = 0
  · rw [if_pos h, h] at CB
    have hk := Bp.check_ok.1 h
    have sl : ∀ n, n ≤ b.bytes.length → ∀ W : World, (Instr.slice 9 (.string (bs b.bytes)) none (some (.int .i64 (n : Int))) none).run Tryd.prog W = .ok (.string (bs (b.bytes.take n))) W := fun n hn W => take_at b.bytes n hn W
    have CP : ∀ n, n < b.bytes.length → ∀ W, Calls Tryd.prog 14 #[.string (bs (b.bytes.take n))] W fun e W' => e = .returned (.tuple #[.agg #[.int .i64 0, .bool false, .bool false, .bool false, .bool false, .bool false, .bool false, .int .i64 0, .int .u64 0, .int .i64 0, .int .u64 0, .int .i64 0, .int .i64 0, .int .i64 0, .int .i64 0, .int .i64 0], .int .i64 90]) ∧ Below W.heap.size W W' := fun n hn W => by
      have c := bpParse_any (b.bytes.take n) W (by rw [List.length_take]; have := hl; split at this <;> (try split at this) <;> omega)
      rw [b.parse_short n hk hn hf.1 hf.2] at c
      exact c
    have hs := bs_size b.bytes
    rw [hl] at hs
    clear h
    rcases hk with k | ⟨k, _⟩ | ⟨k, _⟩
    · subst k
      rw [hl] at sl CP
      exact walk_turn false false false false false false 0 0 0 0 0 0 0 0 0 z _ _ q (q % 7) w hs hq' (by omega) (sl (q % 7) (by show _ ≤ 7; omega)) (hide CB) (hide (CP (q % 7) (by show _ < 7; omega))) (hide fun W => fixed_true W)
    · rw [if_neg (by omega), if_pos k] at hs hl
      rw [hl] at sl CP
      have s2 := sl (q % 38) (by omega)
      have C2 := CP (q % 38) (by omega)
      generalize b.bytes = Y at *
      clear sl CP hl hf
      obtain ⟨k, c, p, l, f, a, x, r, R, C, B, P, A, M, H, D⟩ := b
      simp only at k
      subst k
      exact walk_conf c p l f a x r R C B P A M H D z _ _ q (q % 38) w hs hq' (by omega) s2 (hide CB) (hide C2) (hide fun W => fixed_true W)
    · rw [if_neg (by omega), if_neg (by omega)] at hs hl
      rw [hl] at sl CP
      have s2 := sl (q % 39) (by omega)
      have C2 := CP (q % 39) (by omega)
      generalize b.bytes = Y at *
      clear sl CP hl hf
      obtain ⟨k, c, p, l, f, a, x, r, R, C, B, P, A, M, H, D⟩ := b
      simp only at k
      subst k
      exact walk_rap c p l f a x r R C B P A M H D z _ _ q (q % 39) w hs hq' (by omega) s2 (hide CB) (hide C2) (hide fun W => fixed_true W)
  · rw [if_neg h] at CB
    exact walk_bad b.kind b.change b.propose b.learn b.forward b.agree b.ack b.role b.root b.cost b.bridge b.port b.age b.maxAge b.hello b.delay _ z w (by simpa using h) (hide CB) (hide fun W => fixed_true W)
set_option maxRecDepth 100000 in
theorem lifted (os : Os) (started : os.Started) (H : Type) (enc : TypeId × Value → H) :
    ReturnsInHanded {} Tryd.checked os 8 .any (fun w args => (Rows.bpduSizesSpec.pre enc Tryd.prog Tryd.f8 [] false w args ∧ laidMetH Tryd.prog [("errors.errorType", Rows.laid_errors_errorType)] w) ∧ sizedMet enc Tryd.prog Tryd.f8 (OpenSpec.ofChange Rows.bpduSizesSpec) false w args)
      (Rows.bpduSizesSpec.post enc Tryd.prog Tryd.f8 false true false false) := by
  refine returnsInHanded_of_change_and (C := Tryd.checked) (X := fun w _ => laidMetH Tryd.prog [("errors.errorType", Rows.laid_errors_errorType)] w) (fun _ _ _ hh h => h.of_heap hh) own started (by kernel_rfl) Tryd.func8
    (ChangeSpec.witness_at (enc := enc) (C := Tryd.checked) (os := os) (X := fun w _ => laidMetH Tryd.prog [("errors.errorType", Rows.laid_errors_errorType)] w) false
      { World.holding Tryd.prog os ⟨#[], #[], []⟩ with heap := (World.holding Tryd.prog os ⟨#[], #[], []⟩).heap.modify 0 fun
        | .cells _ t frozen => .cells #[.iface 111 (.agg #[.pointer (some ⟨1, 61, none⟩)])] t frozen
        | o => o } #[.agg #[.int .i64 0, .bool false, .bool false, .bool false, .bool false, .bool false, .bool false, .int .i64 0, .int .u64 0, .int .i64 0, .int .u64 0, .int .i64 0, .int .i64 0, .int .i64 0, .int .i64 0, .int .i64 0], .int .i64 0] 8 rfl (by kernel_rfl) (by kernel_rfl) (by kernel_rfl) (by kernel_rfl) (by kernel_rfl) (laid_met os _)) ?_
  intro W base args ds gs before hval0 hW _ _ _ _
  have hval : ∀ (j : Nat) t v, Tryd.f8.params[j]? = some t → args[j]? = some v → Value.okWide Tryd.prog W .any base t v := hval0
  have hW' := hW
  obtain ⟨p, q, hA0, hV0, rfl, hfz, hnd⟩ := hW
  have hA : DataW.TrodAll enc Tryd.prog W 0 (fun _ => true) true Tryd.f8.params.toList args.toList ds p := hA0
  have hV : DataW.TrodVars enc Tryd.prog W (fun _ => true) [] gs q := hV0
  rw [Tryd.params8] at hA hval
  obtain ⟨v0, v1, d0, d1, p0, p1, rfl, rfl, rfl, h0, h1⟩ := trodAll_two hA
  obtain ⟨a0, rfl, rfl, rfl, hw0, hf0⟩ := open_bp (hval 0 24 v0 rfl rfl) h0
  obtain ⟨a1, rfl, rfl, rfl, w1⟩ := open_int Tryd.underlying3 (hval 1 3 v1 rfl rfl) h1
  have b1 := bounds_i64 w1
  obtain ⟨rfl, rfl⟩ := trodVars_none hV
  have e1 : Rows.bpduSizesSpec.fn H ([bpD a0, .lit (.int .i64 a1)] ++ []) = { results := [.lit (.bool true)], args := [bpD a0, .lit (.int .i64 a1)] } := by simp [Rows.bpduSizesSpec]
  refine (walk a0 a1 W hf0 (by omega) (by omega)).mono fun e W' ⟨he, hb⟩ => ?_
  subst he
  refine ⟨_, rfl, _, _, _, [], [], [], hW', ?_, ?_, ?_, hb.frame _, fun h => by cases h⟩
  · rw [e1]; exact trodAll_mk1 (shut_bool Tryd.underlying4 true)
  · rw [e1]; exact trodAll_mk2 (shut_bp a0 hw0) (shut_int Tryd.underlying3 w1)
  · rw [e1]; rfl

theorem said : Rows.BpduSizesSaid :=
  OpenClaim.holds_of_wide 8 Tryd.f8 rfl rfl rfl rfl rfl rfl rfl ⟨rfl, rfl, rfl, rfl, rfl⟩ rfl rfl rfl rfl rfl (by kernel_rfl) Tryd.func8 (by kernel_rfl)
    (of_decide_eq_true (by kernel_rfl)) (by unfold Func.isWrapper; rw [if_neg (of_decide_eq_false (by kernel_rfl))]; exact ⟨rfl, rfl⟩)
    (fun os started H enc _ => lifted os started H enc)

theorem plain (f : FuncId) (fn : Func) (hf : Tryd.pinned.checked.prog.funcNamed Rows.bpduSizesRow.func = some f) (hfn : Tryd.pinned.checked.prog.funcs[f]? = some fn) :
    true = Tryd.pinned.checked.prog.looks [] ∧ ∀ (j : Nat) t, fn.params[j]? = some t → Tryd.pinned.checked.prog.wantsStandIn t = false := by
  obtain rfl : f = 8 := Option.some.inj ((show Tryd.prog.funcNamed Rows.bpduSizesRow.func = some 8 by kernel_rfl).symm.trans hf) |>.symm
  obtain rfl : fn = Tryd.f8 := (Option.some.inj (Tryd.func8.symm.trans hfn)).symm
  refine ⟨by kernel_rfl, fun j t ht => ?_⟩
  rw [Tryd.params8] at ht
  have hm := Array.mem_of_getElem? ht
  simp only [List.mem_toArray, List.mem_cons, List.not_mem_nil, or_false] at hm
  rcases hm with rfl | rfl
  · exact (show Tryd.prog.wantsStandIn 24 = false by kernel_rfl)
  · exact (show Tryd.prog.wantsStandIn 3 = false by kernel_rfl)

theorem card : Rows.BpduSizesCardSaid :=
  Claim7.holds_tied_plain_at .later [] _ _ _ _ said (fun _ h => by cases h) (by kernel_rfl) (fun _ h => by cases h) bpduSizes_row_tie rfl ⟨rfl, rfl⟩ (by kernel_rfl) rfl plain (by kernel_rfl)
end Go.Proofs.YtchgmbbcfjfhoaaDoor.bpduSizes
namespace Go.Proofs.YtchgmbbcfjfhoaaDoor
theorem bpduSizes_card_holds : Rows.BpduSizesCardSaid := bpduSizes.card
end Go.Proofs.YtchgmbbcfjfhoaaDoor
