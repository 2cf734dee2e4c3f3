/-
  Proved: the frame that any message goes in, and the message in any frame, is as the document says, and the arguments read afterwards as before. Conditions: errors.errorType holds what the program's own text lays (tied by the card; the walk asks nothing of it).
-/
import Derived.Test.YtchgmbbcfjfhoaaDoorRow9
import Derived.Test.YtchgmbbcfjfhoaaDoorFixed9
import Derived.Test.YtchgmbbcfjfhoaaDoorLoad9
import Derived.Test.YtchgmbbcfjfhoaaDoorRef9f
import Derived.Test.YtchgmbbcfjfhoaaDoorSame9
namespace Go.Proofs.YtchgmbbcfjfhoaaDoor.bpduFrames
open Go.ChangeShapes Go.WideShapes Go.ChangeAt Go.RowKit Go.Sort
open Go.ChangeMaps (open_string shut_string)

set_option maxRecDepth 100000 in
set_option maxHeartbeats 4000000 in
theorem walk_at (src : Int) (k : Int) (c p l f a x : Bool) (r R C B P A M H D : Int) (d s : Int) (has : Bool) (pri : Int) (dei : Bool) (vid ty : Int) (Y0 Y : ByteArray) (i : Nat) (d1 s1 : Int) (has1 : Bool) (pri1 : Int) (dei1 : Bool) (vid1 ty1 : Int) (Y1 : ByteArray) (k2 : Int) (c2 p2 l2 f2 a2 x2 : Bool) (r2 R2 C2 B2 P2 A2 M2 H2 D2 : Int) (E : Int) (z : Bool) (w : World)
    (ms : ∀ (ts : Array TypeId) (t : TypeId) (W : World), (Builtin.min_ ts t #[.int .i64 (Y0.size : Int), .int .i64 200]).run Tryd.prog W = .ok (.int .i64 (i : Int)) W)
    (ss : ∀ W : World, (Instr.slice 9 (.string Y0) none (some (.int .i64 (i : Int))) none).run Tryd.prog W = .ok (.string Y) W)
    (CF1 : Hid (∀ W, Calls Tryd.prog 16 #[.int .u64 src, .agg #[.int .i64 k, .bool c, .bool p, .bool l, .bool f, .bool a, .bool x, .int .i64 r, .int .u64 R, .int .i64 C, .int .u64 B, .int .i64 P, .int .i64 A, .int .i64 M, .int .i64 H, .int .i64 D]] W fun e W' => e = .returned (.tuple #[.agg #[.int .u64 d1, .int .u64 s1, .bool has1, .int .i64 pri1, .bool dei1, .int .i64 vid1, .int .i64 ty1, .string Y1], .int .i64 E]) ∧ Below W.heap.size W W'))
    (RF1 : Hid (∀ W, Calls Tryd.prog 17 #[.int .u64 src, .agg #[.int .i64 k, .bool c, .bool p, .bool l, .bool f, .bool a, .bool x, .int .i64 r, .int .u64 R, .int .i64 C, .int .u64 B, .int .i64 P, .int .i64 A, .int .i64 M, .int .i64 H, .int .i64 D]] W fun e W' => e = .returned (.tuple #[.agg #[.int .u64 d1, .int .u64 s1, .bool has1, .int .i64 pri1, .bool dei1, .int .i64 vid1, .int .i64 ty1, .string Y1], .int .i64 E]) ∧ Below W.heap.size W W'))
    (CO : Hid (∀ W, Calls Tryd.prog 18 #[.agg #[.int .u64 d, .int .u64 s, .bool has, .int .i64 pri, .bool dei, .int .i64 vid, .int .i64 ty, .string Y]] W fun e W' => e = .returned (.tuple #[.agg #[.int .i64 k2, .bool c2, .bool p2, .bool l2, .bool f2, .bool a2, .bool x2, .int .i64 r2, .int .u64 R2, .int .i64 C2, .int .u64 B2, .int .i64 P2, .int .i64 A2, .int .i64 M2, .int .i64 H2, .int .i64 D2], .bool z]) ∧ Below W.heap.size W W'))
    (RO : Hid (∀ W, Calls Tryd.prog 19 #[.agg #[.int .u64 d, .int .u64 s, .bool has, .int .i64 pri, .bool dei, .int .i64 vid, .int .i64 ty, .string Y]] W fun e W' => e = .returned (.tuple #[.agg #[.int .i64 k2, .bool c2, .bool p2, .bool l2, .bool f2, .bool a2, .bool x2, .int .i64 r2, .int .u64 R2, .int .i64 C2, .int .u64 B2, .int .i64 P2, .int .i64 A2, .int .i64 M2, .int .i64 H2, .int .i64 D2], .bool z]) ∧ Below W.heap.size W W'))
    (CF : Hid (∀ W, Calls Tryd.prog 11 #[] W fun e W' => e = .returned (.bool true) ∧ Below W.heap.size W W')) :
    Calls Tryd.prog 5 #[.int .u64 src, .agg #[.int .i64 k, .bool c, .bool p, .bool l, .bool f, .bool a, .bool x, .int .i64 r, .int .u64 R, .int .i64 C, .int .u64 B, .int .i64 P, .int .i64 A, .int .i64 M, .int .i64 H, .int .i64 D], .agg #[.int .u64 d, .int .u64 s, .bool has, .int .i64 pri, .bool dei, .int .i64 vid, .int .i64 ty, .string Y0]] w fun e w' => e = .returned (.bool true) ∧ Below w.heap.size w w' := by
  have sm := same_bp k2 c2 p2 l2 f2 a2 x2 r2 R2 C2 B2 P2 A2 M2 H2 D2
  have sf := same_frame d1 s1 has1 pri1 dei1 vid1 ty1 Y1
  go_enter Tryd.func5, Tryd.ntmps5
  have h0 := hide (alloc_then (o := .cells #[.int .u64 d, .int .u64 s, .bool has, .int .i64 pri, .bool dei, .int .i64 vid, .int .i64 ty, .string Y] 37) (alloc_below w (.cells #[.int .i64 k, .bool c, .bool p, .bool l, .bool f, .bool a, .bool x, .int .i64 r, .int .u64 R, .int .i64 C, .int .u64 B, .int .i64 P, .int .i64 A, .int .i64 M, .int .i64 H, .int .i64 D] 24)))
  have B0 := hide (heap_alloc2_old w (.cells #[.int .i64 k, .bool c, .bool p, .bool l, .bool f, .bool a, .bool x, .int .i64 r, .int .u64 R, .int .i64 C, .int .u64 B, .int .i64 P, .int .i64 A, .int .i64 M, .int .i64 H, .int .i64 D] 24) (.cells #[.int .u64 d, .int .u64 s, .bool has, .int .i64 pri, .bool dei, .int .i64 vid, .int .i64 ty, .string Y] 37))
  have F0 := hide (heap_alloc2_new w (.cells #[.int .i64 k, .bool c, .bool p, .bool l, .bool f, .bool a, .bool x, .int .i64 r, .int .u64 R, .int .i64 C, .int .u64 B, .int .i64 P, .int .i64 A, .int .i64 M, .int .i64 H, .int .i64 D] 24) (.cells #[.int .u64 d, .int .u64 s, .bool has, .int .i64 pri, .bool dei, .int .i64 vid, .int .i64 ty, .string Y] 37))
  go_wp2_with (first | (refine load_want 24 _ rfl (w.heap.size) rfl rfl 24 _ _ _ (unhide B0) Tryd.underlying24 rfl (by kernel_rfl) ?_; simp only [Act.put, List.setIfInBounds_toArray, List.set_cons_zero, List.set_cons_succ]))
  generalize (w.alloc (.cells #[.int .i64 k, .bool c, .bool p, .bool l, .bool f, .bool a, .bool x, .int .i64 r, .int .u64 R, .int .i64 C, .int .u64 B, .int .i64 P, .int .i64 A, .int .i64 M, .int .i64 H, .int .i64 D] 24)).alloc (.cells #[.int .u64 d, .int .u64 s, .bool has, .int .i64 pri, .bool dei, .int .i64 vid, .int .i64 ty, .string Y] 37) = v0 at *
  refine (unhide CF1 _).mono ?_
  rintro e w1 ⟨rfl, b1⟩
  clear CF1
  have h1 := hide (alloc_then (o := .cells #[.int .u64 d1, .int .u64 s1, .bool has1, .int .i64 pri1, .bool dei1, .int .i64 vid1, .int .i64 ty1, .string Y1] 37) (bthen (unhide h0) b1))
  have B1 := hide (Below.row (alloc_below w1 (.cells #[.int .u64 d1, .int .u64 s1, .bool has1, .int .i64 pri1, .bool dei1, .int .i64 vid1, .int .i64 ty1, .string Y1] 37)) (Below.row b1 (unhide B0)))
  have F1 := hide (Below.row (alloc_below w1 (.cells #[.int .u64 d1, .int .u64 s1, .bool has1, .int .i64 pri1, .bool dei1, .int .i64 vid1, .int .i64 ty1, .string Y1] 37)) (Below.row b1 (unhide F0)))
  have G1 := hide (heap_alloc_new w1 (.cells #[.int .u64 d1, .int .u64 s1, .bool has1, .int .i64 pri1, .bool dei1, .int .i64 vid1, .int .i64 ty1, .string Y1] 37))
  clear b1 h0 B0 F0 
  go_wp2_with (first | (refine load_want 24 _ rfl (w.heap.size) rfl rfl 24 _ _ _ (unhide B1) Tryd.underlying24 rfl (by kernel_rfl) ?_; simp only [Act.put, List.setIfInBounds_toArray, List.set_cons_zero, List.set_cons_succ]))
  generalize w1.alloc (.cells #[.int .u64 d1, .int .u64 s1, .bool has1, .int .i64 pri1, .bool dei1, .int .i64 vid1, .int .i64 ty1, .string Y1] 37) = v1 at *
  generalize w1.heap.size = N1 at *
  refine (unhide RF1 _).mono ?_
  rintro e w2 ⟨rfl, b2⟩
  clear RF1
  have h2 := hide (alloc_then (o := .cells #[.int .u64 d1, .int .u64 s1, .bool has1, .int .i64 pri1, .bool dei1, .int .i64 vid1, .int .i64 ty1, .string Y1] 37) (bthen (unhide h1) b2))
  have F2 := hide (Below.row (alloc_below w2 (.cells #[.int .u64 d1, .int .u64 s1, .bool has1, .int .i64 pri1, .bool dei1, .int .i64 vid1, .int .i64 ty1, .string Y1] 37)) (Below.row b2 (unhide F1)))
  have G2 := hide (Below.row (alloc_below w2 (.cells #[.int .u64 d1, .int .u64 s1, .bool has1, .int .i64 pri1, .bool dei1, .int .i64 vid1, .int .i64 ty1, .string Y1] 37)) (Below.row b2 (unhide G1)))
  have K2 := hide (heap_alloc_new w2 (.cells #[.int .u64 d1, .int .u64 s1, .bool has1, .int .i64 pri1, .bool dei1, .int .i64 vid1, .int .i64 ty1, .string Y1] 37))
  clear b2 h1 F1 G1 B1
  go_wp2_with (first | (refine load_want 37 _ rfl (w.heap.size + 1) rfl rfl 37 _ _ _ (unhide F2) Tryd.underlying37 rfl (by kernel_rfl) ?_; simp only [Act.put, List.setIfInBounds_toArray, List.set_cons_zero, List.set_cons_succ]))
  generalize w2.alloc (.cells #[.int .u64 d1, .int .u64 s1, .bool has1, .int .i64 pri1, .bool dei1, .int .i64 vid1, .int .i64 ty1, .string Y1] 37) = v2 at *
  generalize w2.heap.size = N2 at *
  refine (unhide CO _).mono ?_
  rintro e w3 ⟨rfl, b3⟩
  clear CO
  have h3 := hide (alloc_then (o := .cells #[.int .i64 k2, .bool c2, .bool p2, .bool l2, .bool f2, .bool a2, .bool x2, .int .i64 r2, .int .u64 R2, .int .i64 C2, .int .u64 B2, .int .i64 P2, .int .i64 A2, .int .i64 M2, .int .i64 H2, .int .i64 D2] 24) (bthen (unhide h2) b3))
  have F3 := hide (Below.row (alloc_below w3 (.cells #[.int .i64 k2, .bool c2, .bool p2, .bool l2, .bool f2, .bool a2, .bool x2, .int .i64 r2, .int .u64 R2, .int .i64 C2, .int .u64 B2, .int .i64 P2, .int .i64 A2, .int .i64 M2, .int .i64 H2, .int .i64 D2] 24)) (Below.row b3 (unhide F2)))
  have G3 := hide (Below.row (alloc_below w3 (.cells #[.int .i64 k2, .bool c2, .bool p2, .bool l2, .bool f2, .bool a2, .bool x2, .int .i64 r2, .int .u64 R2, .int .i64 C2, .int .u64 B2, .int .i64 P2, .int .i64 A2, .int .i64 M2, .int .i64 H2, .int .i64 D2] 24)) (Below.row b3 (unhide G2)))
  have K3 := hide (Below.row (alloc_below w3 (.cells #[.int .i64 k2, .bool c2, .bool p2, .bool l2, .bool f2, .bool a2, .bool x2, .int .i64 r2, .int .u64 R2, .int .i64 C2, .int .u64 B2, .int .i64 P2, .int .i64 A2, .int .i64 M2, .int .i64 H2, .int .i64 D2] 24)) (Below.row b3 (unhide K2)))
  have M3 := hide (heap_alloc_new w3 (.cells #[.int .i64 k2, .bool c2, .bool p2, .bool l2, .bool f2, .bool a2, .bool x2, .int .i64 r2, .int .u64 R2, .int .i64 C2, .int .u64 B2, .int .i64 P2, .int .i64 A2, .int .i64 M2, .int .i64 H2, .int .i64 D2] 24))
  clear b3 h2 F2 G2 K2 
  go_wp2_with (first | (refine load_want 37 _ rfl (w.heap.size + 1) rfl rfl 37 _ _ _ (unhide F3) Tryd.underlying37 rfl (by kernel_rfl) ?_; simp only [Act.put, List.setIfInBounds_toArray, List.set_cons_zero, List.set_cons_succ]))
  generalize w3.alloc (.cells #[.int .i64 k2, .bool c2, .bool p2, .bool l2, .bool f2, .bool a2, .bool x2, .int .i64 r2, .int .u64 R2, .int .i64 C2, .int .u64 B2, .int .i64 P2, .int .i64 A2, .int .i64 M2, .int .i64 H2, .int .i64 D2] 24) = v3 at *
  generalize w3.heap.size = N3 at *
  refine (unhide RO _).mono ?_
  rintro e w4 ⟨rfl, b4⟩
  clear RO
  have h4 := hide (alloc_then (o := .cells #[.int .i64 k2, .bool c2, .bool p2, .bool l2, .bool f2, .bool a2, .bool x2, .int .i64 r2, .int .u64 R2, .int .i64 C2, .int .u64 B2, .int .i64 P2, .int .i64 A2, .int .i64 M2, .int .i64 H2, .int .i64 D2] 24) (bthen (unhide h3) b4))
  have G4 := hide (Below.row (alloc_below w4 (.cells #[.int .i64 k2, .bool c2, .bool p2, .bool l2, .bool f2, .bool a2, .bool x2, .int .i64 r2, .int .u64 R2, .int .i64 C2, .int .u64 B2, .int .i64 P2, .int .i64 A2, .int .i64 M2, .int .i64 H2, .int .i64 D2] 24)) (Below.row b4 (unhide G3)))
  have K4 := hide (Below.row (alloc_below w4 (.cells #[.int .i64 k2, .bool c2, .bool p2, .bool l2, .bool f2, .bool a2, .bool x2, .int .i64 r2, .int .u64 R2, .int .i64 C2, .int .u64 B2, .int .i64 P2, .int .i64 A2, .int .i64 M2, .int .i64 H2, .int .i64 D2] 24)) (Below.row b4 (unhide K3)))
  have M4 := hide (Below.row (alloc_below w4 (.cells #[.int .i64 k2, .bool c2, .bool p2, .bool l2, .bool f2, .bool a2, .bool x2, .int .i64 r2, .int .u64 R2, .int .i64 C2, .int .u64 B2, .int .i64 P2, .int .i64 A2, .int .i64 M2, .int .i64 H2, .int .i64 D2] 24)) (Below.row b4 (unhide M3)))
  have O4 := hide (heap_alloc_new w4 (.cells #[.int .i64 k2, .bool c2, .bool p2, .bool l2, .bool f2, .bool a2, .bool x2, .int .i64 r2, .int .u64 R2, .int .i64 C2, .int .u64 B2, .int .i64 P2, .int .i64 A2, .int .i64 M2, .int .i64 H2, .int .i64 D2] 24))
  clear b4 h3 G3 K3 M3 F3
  go_wp2_with fail
  generalize w4.alloc (.cells #[.int .i64 k2, .bool c2, .bool p2, .bool l2, .bool f2, .bool a2, .bool x2, .int .i64 r2, .int .u64 R2, .int .i64 C2, .int .u64 B2, .int .i64 P2, .int .i64 A2, .int .i64 M2, .int .i64 H2, .int .i64 D2] 24) = v4 at *
  generalize w4.heap.size = N4 at *
  refine (unhide CF _).mono ?_
  rintro e w5 ⟨rfl, b5⟩
  clear CF
  have h5 := hide (bthen (unhide h4) b5)
  have G5 := hide (Below.row b5 (unhide G4))
  have K5 := hide (Below.row b5 (unhide K4))
  have M5 := hide (Below.row b5 (unhide M4))
  have O5 := hide (Below.row b5 (unhide O4))
  clear b5 h4 G4 K4 M4 O4
  go_wp2_with (first | (refine load_want 37 _ rfl (N1) rfl rfl 37 _ _ _ (unhide G5) Tryd.underlying37 rfl (by kernel_rfl) ?_; simp only [Act.put, List.setIfInBounds_toArray, List.set_cons_zero, List.set_cons_succ]) | (refine load_want 37 _ rfl (N2) rfl rfl 37 _ _ _ (unhide K5) Tryd.underlying37 rfl (by kernel_rfl) ?_; simp only [Act.put, List.setIfInBounds_toArray, List.set_cons_zero, List.set_cons_succ]) | (refine load_want 24 _ rfl (N3) rfl rfl 24 _ _ _ (unhide M5) Tryd.underlying24 rfl (by kernel_rfl) ?_; simp only [Act.put, List.setIfInBounds_toArray, List.set_cons_zero, List.set_cons_succ]) | (refine load_want 24 _ rfl (N4) rfl rfl 24 _ _ _ (unhide O5) Tryd.underlying24 rfl (by kernel_rfl) ?_; simp only [Act.put, List.setIfInBounds_toArray, List.set_cons_zero, List.set_cons_succ]))
  go_ret
  exact ⟨rfl, unhide h5⟩
theorem walk (src : Nat) (b : Bp) (d s : Nat) (has : Bool) (pri : Int) (dei : Bool) (vid ty : Int) (Y0 : ByteArray) (w : World) (hs : src < 18446744073709551616) (hf : b.fits) (_ : d < 18446744073709551616) (_ : s < 18446744073709551616) :
    Calls Tryd.prog 5 #[.int .u64 (src : Int), b.val, .agg #[.int .u64 (d : Int), .int .u64 (s : Int), .bool has, .int .i64 pri, .bool dei, .int .i64 vid, .int .i64 ty, .string Y0]] w fun e w' => e = .returned (.bool true) ∧ Below w.heap.size w w' := by
  obtain ⟨i, l, hl, ms, ss⟩ := firstN 200 Y0
  exact walk_at src b.kind b.change b.propose b.learn b.forward b.agree b.ack b.role b.root b.cost b.bridge b.port b.age b.maxAge b.hello b.delay d s has pri dei vid ty Y0 (bs l) i _ _ _ _ _ _ _ _ _ _ _ _ _ _ _ _ _ _ _ _ _ _ _ _ _ _ w ms ss (hide fun W => frame_any src b W hs hf) (hide fun W => rframe_any src b W hs hf) (hide fun W => of_any ⟨d, s, has, pri, dei, vid, ty, l⟩ W (by show l.length ≤ 10000; omega)) (hide fun W => rof_any ⟨d, s, has, pri, dei, vid, ty, l⟩ W (by show l.length ≤ 10000; omega)) (hide fun W => fixed_true W)
set_option maxRecDepth 100000 in
theorem lifted (os : Os) (started : os.Started) (H : Type) (enc : TypeId × Value → H) :
    ReturnsInHanded {} Tryd.checked os 5 .any (fun w args => (Rows.bpduFramesSpec.pre enc Tryd.prog Tryd.f5 [] false w args ∧ laidMetH Tryd.prog [("errors.errorType", Rows.laid_errors_errorType)] w) ∧ sizedMet enc Tryd.prog Tryd.f5 (OpenSpec.ofChange Rows.bpduFramesSpec) false w args)
      (Rows.bpduFramesSpec.post enc Tryd.prog Tryd.f5 false true false false) := by
  refine returnsInHanded_of_change_and (C := Tryd.checked) (X := fun w _ => laidMetH Tryd.prog [("errors.errorType", Rows.laid_errors_errorType)] w) (fun _ _ _ hh h => h.of_heap hh) own started (by kernel_rfl) Tryd.func5
    (ChangeSpec.witness_at (enc := enc) (C := Tryd.checked) (os := os) (X := fun w _ => laidMetH Tryd.prog [("errors.errorType", Rows.laid_errors_errorType)] w) false
      { World.holding Tryd.prog os ⟨#[], #[], []⟩ with heap := (World.holding Tryd.prog os ⟨#[], #[], []⟩).heap.modify 0 fun
        | .cells _ t frozen => .cells #[.iface 111 (.agg #[.pointer (some ⟨1, 61, none⟩)])] t frozen
        | o => o } #[.int .u64 0, .agg #[.int .i64 0, .bool false, .bool false, .bool false, .bool false, .bool false, .bool false, .int .i64 0, .int .u64 0, .int .i64 0, .int .u64 0, .int .i64 0, .int .i64 0, .int .i64 0, .int .i64 0, .int .i64 0], .agg #[.int .u64 0, .int .u64 0, .bool false, .int .i64 0, .bool false, .int .i64 0, .int .i64 0, .string ByteArray.empty]] 8 rfl (by kernel_rfl) (by kernel_rfl) (by kernel_rfl) (by kernel_rfl) (by kernel_rfl) (laid_met os _)) ?_
  intro W base args ds gs before hval0 hW _ _ _ _
  have hval : ∀ (j : Nat) t v, Tryd.f5.params[j]? = some t → args[j]? = some v → Value.okWide Tryd.prog W .any base t v := hval0
  have hW' := hW
  obtain ⟨p, q, hA0, hV0, rfl, hfz, hnd⟩ := hW
  have hA : DataW.TrodAll enc Tryd.prog W 0 (fun _ => true) true Tryd.f5.params.toList args.toList ds p := hA0
  have hV : DataW.TrodVars enc Tryd.prog W (fun _ => true) [] gs q := hV0
  rw [Tryd.params5] at hA hval
  obtain ⟨v0, v1, v2, d0, d1, d2, p0, p1, p2, rfl, rfl, rfl, h0, h1, h2⟩ := trodAll_three hA
  obtain ⟨a0, rfl, rfl, rfl, w0⟩ := open_int Tryd.underlying22 (hval 0 22 v0 rfl rfl) h0
  have b0 := bounds_u64 w0
  obtain ⟨m0, rfl⟩ : ∃ m : Nat, a0 = m := ⟨a0.toNat, by omega⟩
  obtain ⟨a1, rfl, rfl, rfl, hw1, hf1⟩ := open_bp (hval 1 24 v1 rfl rfl) h1
  obtain ⟨fd2, fs2, fh2, fp2, fe2, fv2, ft2, fy2, rfl, rfl, rfl, hd2, hs2, wd2, ws2, wp2, wv2, wt2, wy2⟩ := open_frame (hval 2 37 v2 rfl rfl) h2
  obtain ⟨rfl, rfl⟩ := trodVars_none hV
  have e1 : Rows.bpduFramesSpec.fn H ([.lit (.int .u64 (m0 : Int)), bpD a1, frameD fd2 fs2 fh2 fp2 fe2 fv2 ft2 fy2] ++ []) = { results := [.lit (.bool true)], args := [.lit (.int .u64 (m0 : Int)), bpD a1, frameD fd2 fs2 fh2 fp2 fe2 fv2 ft2 fy2] } := by simp [Rows.bpduFramesSpec]
  refine (walk m0 a1 fd2 fs2 fh2 fp2 fe2 fv2 ft2 fy2 W (by omega) hf1 hd2 hs2).mono fun e W' ⟨he, hb⟩ => ?_
  subst he
  refine ⟨_, rfl, _, _, _, [], [], [], hW', ?_, ?_, ?_, hb.frame _, fun h => by cases h⟩
  · rw [e1]; exact trodAll_mk1 (shut_bool Tryd.underlying4 true)
  · rw [e1]; exact trodAll_mk3 (shut_int Tryd.underlying22 w0) (shut_bp a1 hw1) (shut_frame fd2 fs2 fh2 fp2 fe2 fv2 ft2 fy2 wd2 ws2 wp2 wv2 wt2 wy2)
  · rw [e1]; rfl

theorem said : Rows.BpduFramesSaid :=
  OpenClaim.holds_of_wide 5 Tryd.f5 rfl rfl rfl rfl rfl rfl rfl ⟨rfl, rfl, rfl, rfl, rfl⟩ rfl rfl rfl rfl rfl (by kernel_rfl) Tryd.func5 (by kernel_rfl)
    (of_decide_eq_true (by kernel_rfl)) (by unfold Func.isWrapper; rw [if_neg (of_decide_eq_false (by kernel_rfl))]; exact ⟨rfl, rfl⟩)
    (fun os started H enc _ => lifted os started H enc)

theorem plain (f : FuncId) (fn : Func) (hf : Tryd.pinned.checked.prog.funcNamed Rows.bpduFramesRow.func = some f) (hfn : Tryd.pinned.checked.prog.funcs[f]? = some fn) :
    true = Tryd.pinned.checked.prog.looks [] ∧ ∀ (j : Nat) t, fn.params[j]? = some t → Tryd.pinned.checked.prog.wantsStandIn t = false := by
  obtain rfl : f = 5 := Option.some.inj ((show Tryd.prog.funcNamed Rows.bpduFramesRow.func = some 5 by kernel_rfl).symm.trans hf) |>.symm
  obtain rfl : fn = Tryd.f5 := (Option.some.inj (Tryd.func5.symm.trans hfn)).symm
  refine ⟨by kernel_rfl, fun j t ht => ?_⟩
  rw [Tryd.params5] at ht
  have hm := Array.mem_of_getElem? ht
  simp only [List.mem_toArray, List.mem_cons, List.not_mem_nil, or_false] at hm
  rcases hm with rfl | rfl | rfl
  · exact (show Tryd.prog.wantsStandIn 22 = false by kernel_rfl)
  · exact (show Tryd.prog.wantsStandIn 24 = false by kernel_rfl)
  · exact (show Tryd.prog.wantsStandIn 37 = false by kernel_rfl)

theorem card : Rows.BpduFramesCardSaid :=
  Claim7.holds_tied_plain_at .later [] _ _ _ _ said (fun _ h => by cases h) (by kernel_rfl) (fun _ h => by cases h) bpduFrames_row_tie rfl ⟨rfl, rfl⟩ (by kernel_rfl) rfl plain (by kernel_rfl)
end Go.Proofs.YtchgmbbcfjfhoaaDoor.bpduFrames
namespace Go.Proofs.YtchgmbbcfjfhoaaDoor
theorem bpduFrames_card_holds : Rows.BpduFramesCardSaid := bpduFrames.card
end Go.Proofs.YtchgmbbcfjfhoaaDoor
