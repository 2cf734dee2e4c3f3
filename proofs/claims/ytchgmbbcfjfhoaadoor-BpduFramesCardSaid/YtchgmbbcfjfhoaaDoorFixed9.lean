/-
  gangwaylaw09.rapid, fixed: calls whose answers the document fixes: true, always; no cell that was there before has turned.
-/
import Derived.Test.YtchgmbbcfjfhoaaDoorBp6
import Derived.Test.YtchgmbbcfjfhoaaDoorParts9
namespace Go.Proofs.YtchgmbbcfjfhoaaDoor
open Go.RowKit Go.Sort

theorem rapid_any (w : World) : Calls Tryd.prog 27 #[] w fun e w' => e = .returned (.agg #[.int .i64 2, .bool false, .bool true, .bool false, .bool false, .bool false, .bool false, .int .i64 3, .int .u64 9223372036854775810, .int .i64 5, .int .u64 9223372036854775814, .int .i64 32769, .int .i64 0, .int .i64 5120, .int .i64 512, .int .i64 3840]) ∧ Below w.heap.size w w' := by
  go_enter Tryd.func27, Tryd.ntmps27
  go_wp2_with fail
  refine bodyPost_ret (v := .agg #[.int .i64 2, .bool false, .bool true, .bool false, .bool false, .bool false, .bool false, .int .i64 3, .int .u64 9223372036854775810, .int .i64 5, .int .u64 9223372036854775814, .int .i64 32769, .int .i64 0, .int .i64 5120, .int .i64 512, .int .i64 3840]) ?_ rfl ⟨rfl, alloc_below _ _⟩
  exact results_cell_row rfl _ _ w.heap.size 24 _ _ _ rfl (heap_last w _ _ rfl) Tryd.underlying24 rfl (by kernel_rfl)
theorem quiet_load_row {P : Program} {C : World → Prop} {a : Act} {o : Oper} {K : Act → Prop} (ty : TypeId) (x : Operand) (ho : o.op = .load ty x) (g : Nat) (hx : a.eval x = .pointer (some ⟨g, 0, none⟩)) (t : TypeId) (cs : Array Value) (fr : Nat × Nat) (d : TypeDesc)
    (hg : ∀ w, C w → w.heap[g]? = some (.cells cs t fr)) (hu : P.underlying ty = some d) (hd : (match d with | .struct _ | .array _ _ => true | _ => false) = true) (hi : (P.info? ty).map (·.size) = some cs.size)
    (hk : K (a.put o.dst (.agg cs))) : o.quiet P a C K :=
  ⟨_, fun w hw => by
    unfold Oper.quietAt execOp
    simp only [ho, hx, Instr.loadAt, Instr.sureAddr, Sem.run_bind, Sem.run_pure, Result.andThen_ok, run_loadVar_row w g t ty cs fr d (hg w hw) hu hd hi]
    exact ⟨rfl, rfl⟩, hk⟩
/-- a row of an old block, in every world with more blocks -/
theorem row_regrown {W : World} {g : Nat} {ob : Obj} (h : W.heap[g]? = some ob) : ∀ w, (∃ p : Regrown, w = grow (redrawn W p.d) p.os) → w.heap[g]? = some ob := by
  rintro _ ⟨p, rfl⟩
  exact Below.row (below_regrown W p.d p.os) h
set_option maxRecDepth 100000 in
set_option maxHeartbeats 4000000 in
theorem fixed_at (k : Int) (c p l f a x : Bool) (r R C B P A M H D : Int) (d : Int) (S S4 S38 : ByteArray) (w : World) (hS : S.size = 39) (hd : (d == 1652522221568) = true)
    (A0 : Hid (∀ W, Calls Tryd.prog 27 #[] W fun e W' => e = .returned (.agg #[.int .i64 k, .bool c, .bool p, .bool l, .bool f, .bool a, .bool x, .int .i64 r, .int .u64 R, .int .i64 C, .int .u64 B, .int .i64 P, .int .i64 A, .int .i64 M, .int .i64 H, .int .i64 D]) ∧ Below W.heap.size W W'))
    (A1 : Hid (∀ W, Calls Tryd.prog 9 #[.agg #[.int .i64 k, .bool c, .bool p, .bool l, .bool f, .bool a, .bool x, .int .i64 r, .int .u64 R, .int .i64 C, .int .u64 B, .int .i64 P, .int .i64 A, .int .i64 M, .int .i64 H, .int .i64 D]] W fun e W' => e = .returned (.tuple #[.string S, .int .i64 0]) ∧ Below W.heap.size W W'))
    (A2 : Hid (∀ W, Calls Tryd.prog 9 #[.agg #[.int .i64 128, .bool false, .bool false, .bool false, .bool false, .bool false, .bool false, .int .i64 0, .int .u64 0, .int .i64 0, .int .u64 0, .int .i64 0, .int .i64 0, .int .i64 0, .int .i64 0, .int .i64 0]] W fun e W' => e = .returned (.tuple #[.string ⟨#[66, 66, 3, 0, 0, 0, 128]⟩, .int .i64 0]) ∧ Below W.heap.size W W'))
    (g : ∀ W, (Op.stringOp .add S ⟨#[109, 111, 114, 101]⟩).run Tryd.prog W = .ok (.string S4) W)
    (A3 : Hid (∀ W, Calls Tryd.prog 14 #[.string S4] W fun e W' => e = .returned (.tuple #[.agg #[.int .i64 k, .bool c, .bool p, .bool l, .bool f, .bool a, .bool x, .int .i64 r, .int .u64 R, .int .i64 C, .int .u64 B, .int .i64 P, .int .i64 A, .int .i64 M, .int .i64 H, .int .i64 D], .int .i64 0]) ∧ Below W.heap.size W W'))
    (mx : ∀ (ts : Array TypeId) (t : TypeId) (W : World), (Builtin.min_ ts t #[.int .i64 39, .int .i64 38]).run Tryd.prog W = .ok (.int .i64 38) W)
    (sl : ∀ W : World, (Instr.slice 9 (.string S) none (some (.int .i64 38)) none).run Tryd.prog W = .ok (.string S38) W)
    (A4 : Hid (∀ W, Calls Tryd.prog 14 #[.string S38] W fun e W' => e = .returned (.tuple #[.agg #[.int .i64 0, .bool false, .bool false, .bool false, .bool false, .bool false, .bool false, .int .i64 0, .int .u64 0, .int .i64 0, .int .u64 0, .int .i64 0, .int .i64 0, .int .i64 0, .int .i64 0, .int .i64 0], .int .i64 90]) ∧ Below W.heap.size W W'))
    (A5 : Hid (∀ W, Calls Tryd.prog 14 #[.string ⟨#[66, 66, 3, 0, 1, 0, 128]⟩] W fun e W' => e = .returned (.tuple #[.agg #[.int .i64 0, .bool false, .bool false, .bool false, .bool false, .bool false, .bool false, .int .i64 0, .int .u64 0, .int .i64 0, .int .u64 0, .int .i64 0, .int .i64 0, .int .i64 0, .int .i64 0, .int .i64 0], .int .i64 91]) ∧ Below W.heap.size W W'))
    (A6 : Hid (∀ W, Calls Tryd.prog 9 #[.agg #[.int .i64 0, .bool false, .bool true, .bool false, .bool false, .bool false, .bool false, .int .i64 0, .int .u64 0, .int .i64 0, .int .u64 0, .int .i64 0, .int .i64 0, .int .i64 0, .int .i64 0, .int .i64 0]] W fun e W' => e = .returned (.tuple #[.string ⟨#[]⟩, .int .i64 91]) ∧ Below W.heap.size W W'))
    (A7 : Hid (∀ W, Calls Tryd.prog 16 #[.int .u64 2, .agg #[.int .i64 k, .bool c, .bool p, .bool l, .bool f, .bool a, .bool x, .int .i64 r, .int .u64 R, .int .i64 C, .int .u64 B, .int .i64 P, .int .i64 A, .int .i64 M, .int .i64 H, .int .i64 D]] W fun e W' => e = .returned (.tuple #[.agg #[.int .u64 d, .int .u64 2, .bool false, .int .i64 0, .bool false, .int .i64 0, .int .i64 0, .string S], .int .i64 0]) ∧ Below W.heap.size W W'))
    (A8 : Hid (∀ W, Calls Tryd.prog 18 #[.agg #[.int .u64 d, .int .u64 2, .bool false, .int .i64 0, .bool false, .int .i64 0, .int .i64 0, .string S]] W fun e W' => e = .returned (.tuple #[.agg #[.int .i64 k, .bool c, .bool p, .bool l, .bool f, .bool a, .bool x, .int .i64 r, .int .u64 R, .int .i64 C, .int .u64 B, .int .i64 P, .int .i64 A, .int .i64 M, .int .i64 H, .int .i64 D], .bool true]) ∧ Below W.heap.size W W')) :
    Calls Tryd.prog 11 #[] w fun e w' => e = .returned (.bool true) ∧ Below w.heap.size w w' := by
  have sm := same_bp k c p l f a x r R C B P A M H D
  go_enter Tryd.func11, Tryd.ntmps11
  go_wp2_with fail
  refine (unhide A0 _).mono ?_
  rintro e w1 ⟨rfl, b1⟩
  have H1 := hide b1
  clear b1
  go_wp2_with fail
  refine (unhide A1 _).mono ?_
  rintro e w2 ⟨rfl, b2⟩
  have H2 := hide (bthen (unhide H1) b2)
  clear H1 b2 A1
  go_wp2_with fail
  refine (unhide A2 _).mono ?_
  rintro e w3 ⟨rfl, b3⟩
  have H3 := hide (bthen (unhide H2) b3)
  clear H2 b3 A2
  go_wp2_with fail
  refine (unhide A3 _).mono ?_
  rintro e w4 ⟨rfl, b4⟩
  have H4 := hide (alloc_then (o := .cells #[.int .i64 k, .bool c, .bool p, .bool l, .bool f, .bool a, .bool x, .int .i64 r, .int .u64 R, .int .i64 C, .int .u64 B, .int .i64 P, .int .i64 A, .int .i64 M, .int .i64 H, .int .i64 D] 24) (bthen (unhide H3) b4))
  have R4 := hide (heap_alloc_new w4 (.cells #[.int .i64 k, .bool c, .bool p, .bool l, .bool f, .bool a, .bool x, .int .i64 r, .int .u64 R, .int .i64 C, .int .u64 B, .int .i64 P, .int .i64 A, .int .i64 M, .int .i64 H, .int .i64 D] 24))
  clear b4 H3 A3
  go_wp2_with fail
  generalize w4.alloc (.cells #[.int .i64 k, .bool c, .bool p, .bool l, .bool f, .bool a, .bool x, .int .i64 r, .int .u64 R, .int .i64 C, .int .u64 B, .int .i64 P, .int .i64 A, .int .i64 M, .int .i64 H, .int .i64 D] 24) = v4 at *
  generalize w4.heap.size = G4 at *
  refine (unhide A4 _).mono ?_
  rintro e w5 ⟨rfl, b5⟩
  have H5 := hide (alloc_then (o := .cells #[.int .i64 0, .bool false, .bool false, .bool false, .bool false, .bool false, .bool false, .int .i64 0, .int .u64 0, .int .i64 0, .int .u64 0, .int .i64 0, .int .i64 0, .int .i64 0, .int .i64 0, .int .i64 0] 24) (bthen (unhide H4) b5))
  have R5 := hide (Below.row (alloc_below w5 (.cells #[.int .i64 0, .bool false, .bool false, .bool false, .bool false, .bool false, .bool false, .int .i64 0, .int .u64 0, .int .i64 0, .int .u64 0, .int .i64 0, .int .i64 0, .int .i64 0, .int .i64 0, .int .i64 0] 24)) (Below.row b5 (unhide R4)))
  clear b5 H4 R4 A4
  go_wp2_with fail
  generalize w5.alloc (.cells #[.int .i64 0, .bool false, .bool false, .bool false, .bool false, .bool false, .bool false, .int .i64 0, .int .u64 0, .int .i64 0, .int .u64 0, .int .i64 0, .int .i64 0, .int .i64 0, .int .i64 0, .int .i64 0] 24) = v5 at *
  refine (unhide A5 _).mono ?_
  rintro e w6 ⟨rfl, b6⟩
  have H6 := hide (alloc_then (o := .cells #[.int .i64 0, .bool false, .bool false, .bool false, .bool false, .bool false, .bool false, .int .i64 0, .int .u64 0, .int .i64 0, .int .u64 0, .int .i64 0, .int .i64 0, .int .i64 0, .int .i64 0, .int .i64 0] 24) (bthen (unhide H5) b6))
  have R6 := hide (Below.row (alloc_below w6 (.cells #[.int .i64 0, .bool false, .bool false, .bool false, .bool false, .bool false, .bool false, .int .i64 0, .int .u64 0, .int .i64 0, .int .u64 0, .int .i64 0, .int .i64 0, .int .i64 0, .int .i64 0, .int .i64 0] 24)) (Below.row b6 (unhide R5)))
  clear b6 H5 R5 A5
  go_wp2_with fail
  generalize w6.alloc (.cells #[.int .i64 0, .bool false, .bool false, .bool false, .bool false, .bool false, .bool false, .int .i64 0, .int .u64 0, .int .i64 0, .int .u64 0, .int .i64 0, .int .i64 0, .int .i64 0, .int .i64 0, .int .i64 0] 24) = v6 at *
  refine (unhide A6 _).mono ?_
  rintro e w7 ⟨rfl, b7⟩
  have H7 := hide (bthen (unhide H6) b7)
  have R7 := hide (Below.row b7 (unhide R6))
  clear b7 H6 R6 A6
  go_wp2_with fail
  refine (unhide A0 _).mono ?_
  rintro e w8 ⟨rfl, b8⟩
  have H8 := hide (bthen (unhide H7) b8)
  have R8 := hide (Below.row b8 (unhide R7))
  clear b8 H7 R7
  go_wp2_with fail
  refine (unhide A7 _).mono ?_
  rintro e w9 ⟨rfl, b9⟩
  have H9 := hide (alloc_then (o := .cells #[.int .u64 d, .int .u64 2, .bool false, .int .i64 0, .bool false, .int .i64 0, .int .i64 0, .string S] 37) (bthen (unhide H8) b9))
  have R9 := hide (Below.row (alloc_below w9 (.cells #[.int .u64 d, .int .u64 2, .bool false, .int .i64 0, .bool false, .int .i64 0, .int .i64 0, .string S] 37)) (Below.row b9 (unhide R8)))
  have Q9 := hide (heap_alloc_new w9 (.cells #[.int .u64 d, .int .u64 2, .bool false, .int .i64 0, .bool false, .int .i64 0, .int .i64 0, .string S] 37))
  clear b9 H8 R8 A7
  go_wp2_with fail
  generalize w9.alloc (.cells #[.int .u64 d, .int .u64 2, .bool false, .int .i64 0, .bool false, .int .i64 0, .int .i64 0, .string S] 37) = v9 at *
  generalize w9.heap.size = G9 at *
  refine (unhide A8 _).mono ?_
  rintro e w10 ⟨rfl, b10⟩
  have H10 := hide (alloc_then (o := .cells #[.int .i64 k, .bool c, .bool p, .bool l, .bool f, .bool a, .bool x, .int .i64 r, .int .u64 R, .int .i64 C, .int .u64 B, .int .i64 P, .int .i64 A, .int .i64 M, .int .i64 H, .int .i64 D] 24) (bthen (unhide H9) b10))
  have R10 := hide (Below.row (alloc_below w10 (.cells #[.int .i64 k, .bool c, .bool p, .bool l, .bool f, .bool a, .bool x, .int .i64 r, .int .u64 R, .int .i64 C, .int .u64 B, .int .i64 P, .int .i64 A, .int .i64 M, .int .i64 H, .int .i64 D] 24)) (Below.row b10 (unhide R9)))
  have Q10 := hide (Below.row (alloc_below w10 (.cells #[.int .i64 k, .bool c, .bool p, .bool l, .bool f, .bool a, .bool x, .int .i64 r, .int .u64 R, .int .i64 C, .int .u64 B, .int .i64 P, .int .i64 A, .int .i64 M, .int .i64 H, .int .i64 D] 24)) (Below.row b10 (unhide Q9)))
  have S10 := hide (heap_alloc_new w10 (.cells #[.int .i64 k, .bool c, .bool p, .bool l, .bool f, .bool a, .bool x, .int .i64 r, .int .u64 R, .int .i64 C, .int .u64 B, .int .i64 P, .int .i64 A, .int .i64 M, .int .i64 H, .int .i64 D] 24))
  clear b10 H9 R9 Q9 A8
  go_wp2_with fail
  generalize w10.alloc (.cells #[.int .i64 k, .bool c, .bool p, .bool l, .bool f, .bool a, .bool x, .int .i64 r, .int .u64 R, .int .i64 C, .int .u64 B, .int .i64 P, .int .i64 A, .int .i64 M, .int .i64 H, .int .i64 D] 24) = w11 at *
  generalize w10.heap.size = G10 at *
  obtain ⟨q0, _⟩ := cells8 (unhide Q10)
  replace q0 := cell_regrown q0
  have L4 := hide (row_regrown (unhide R10))
  have L10 := hide (row_regrown (unhide S10))
  have dA := at_grown (unhide A0) w11
  refine wp_region_quiet_below (by kernel_rfl) (by kernel_rfl) ?_
  repeat (first | (go_big_quiet_want; refine quiet_load_row 24 _ rfl G4 rfl 24 _ _ _ (unhide L4) Tryd.underlying24 rfl (by kernel_rfl) ?_; simp only [Act.put, List.setIfInBounds_toArray, List.set_cons_zero, List.set_cons_succ]; go_big_quiet_on) | (go_big_quiet_want; refine quiet_load_row 24 _ rfl G10 rfl 24 _ _ _ (unhide L10) Tryd.underlying24 rfl (by kernel_rfl) ?_; simp only [Act.put, List.setIfInBounds_toArray, List.set_cons_zero, List.set_cons_succ]; go_big_quiet_on) | (go_big_quiet_step (first | (go_at_call 27; exact dA _ _))))
  refine wpQuiet_nil ?_
  rintro _ ⟨⟨dq, osq⟩, rfl⟩
  have hb := grown_then (unhide H10) dq osq
  generalize grow (redrawn w11 dq) osq = w12 at *
  go_wp2_with fail
  go_ret
  exact ⟨rfl, hb⟩
/-- the page's message -/
def b0 : Bp := ⟨2, false, true, false, false, false, false, 3, 9223372036854775810, 5, 9223372036854775814, 32769, 0, 5120, 512, 3840⟩
theorem b0_ok : b0.ok := Or.inr (Or.inr ⟨rfl, by unfold Bp.room b0; decide⟩)
theorem b0_fits : b0.fits := by unfold Bp.fits b0; decide
theorem b0_len : b0.bytes.length = 39 := rfl
theorem pro_check : Bp.check ⟨0, false, true, false, false, false, false, 0, 0, 0, 0, 0, 0, 0, 0, 0⟩ = 91 := by decide
theorem fixed_true (w : World) : Calls Tryd.prog 11 #[] w fun e w' => e = .returned (.bool true) ∧ Below w.heap.size w w' := by
  have k0 : b0.check = 0 := Bp.check_ok.2 b0_ok
  have A1 := fun W => bpBuild_any b0 W b0_fits
  rw [show b0.built = b0.bytes from if_pos k0, k0] at A1
  have A2 := fun W => bpBuild_any Bp.turn W (by unfold Bp.fits Bp.turn; decide)
  have A3 := fun W => bpParse_any (b0.bytes ++ [109, 111, 114, 101]) W (by rw [List.length_append, b0_len]; decide)
  rw [b0.parse_built _ b0_ok b0_fits.1 b0_fits.2] at A3
  have A4 := fun W => bpParse_any (b0.bytes.take 38) W (by rw [List.length_take, b0_len]; decide)
  rw [b0.parse_short 38 b0_ok (by rw [b0_len]; decide) b0_fits.1 b0_fits.2] at A4
  have A5 := fun W => bpParse_any [66, 66, 3, 0, 1, 0, 128] W (by decide)
  have A6 := fun W => bpBuild_any ⟨0, false, true, false, false, false, false, 0, 0, 0, 0, 0, 0, 0, 0, 0⟩ W (by unfold Bp.fits; decide)
  rw [show Bp.built ⟨0, false, true, false, false, false, false, 0, 0, 0, 0, 0, 0, 0, 0, 0⟩ = [] from if_neg (by rw [pro_check]; decide), pro_check] at A6
  have A7 := fun W => frame_any 2 b0 W (by decide) b0_fits
  rw [show framed 2 b0 = (bpFr 2 b0, 0) from if_pos ⟨k0, by decide⟩] at A7
  have A8 := fun W => of_any (bpFr 2 b0) W (by show b0.bytes.length ≤ 10000; rw [b0_len]; decide)
  have e8 : ofFr (bpFr 2 b0) = (b0, true) := by
    unfold ofFr bpFr
    simp only
    rw [if_pos ⟨trivial, trivial, trivial⟩, b0.parse_back b0_ok b0_fits.1 b0_fits.2]
    rfl
  rw [e8] at A8
  refine fixed_at _ _ _ _ _ _ _ _ _ _ _ _ _ _ _ _ _ (bs b0.bytes) (bs (b0.bytes ++ [109, 111, 114, 101])) (bs (b0.bytes.take 38)) w (by rw [bs_size, b0_len]) (by decide) (hide rapid_any) (hide A1) (hide A2) (fun W => add_bs _ [109, 111, 114, 101] (by rw [b0_len]; decide) W) (hide A3) (fun ts t W => min_at 39 38 ts t W) (fun W => ?_) (hide A4) (hide A5) (hide A6) (hide A7) (hide A8)
  exact take_at b0.bytes 38 (by rw [b0_len]; decide) W
end Go.Proofs.YtchgmbbcfjfhoaaDoor
