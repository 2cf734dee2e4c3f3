/-
  The contracts of bpdu.put, fields, written and Build: a message's bytes; no cell that was there before has turned.
-/
import Derived.Test.YtchgmbbcfjfhoaaDoorBp1b
namespace Go.Proofs.YtchgmbbcfjfhoaaDoor
open Go.RowKit Go.Sort

theorem bput_any (v n : Nat) (w : World) (h1 : 1 ≤ n) (h2 : n ≤ 8) (hv : v < 256 ^ n) :
    Calls Tryd.prog 42 #[.int .u64 (v : Int), .int .i64 (n : Int)] w fun e w' => e = .returned (.string (bs (be v n))) ∧ Below w.heap.size w w' := by
  have k := hide (put_ok v n w h1 h2 hv)
  clear h1 h2 hv
  generalize bs (be v n) = S at *
  go_enter Tryd.func42, Tryd.ntmps42
  go_wp2_with fail
  refine (unhide k).mono ?_
  rintro e w1 ⟨rfl, b1⟩
  clear k
  go_wp2_with fail
  go_ret
  exact ⟨rfl, b1⟩
set_option maxRecDepth 100000 in
set_option maxHeartbeats 4000000 in
theorem fields_at (k : Int) (c p l f a x : Bool) (r R C B P A M H D : Int) (V : Int) (S0 S1 S2 S3 S4 S5 S6 S7 S8 X1 X2 X3 X4 X5 X6 X7 X8 : ByteArray) (w : World)
    (kv : ∀ W, Calls Tryd.prog 45 #[.agg #[.int .i64 k, .bool c, .bool p, .bool l, .bool f, .bool a, .bool x, .int .i64 r, .int .u64 R, .int .i64 C, .int .u64 B, .int .i64 P, .int .i64 A, .int .i64 M, .int .i64 H, .int .i64 D]] W fun e W' => e = .returned (.int .i64 V) ∧ Below W.heap.size W W')
    (eV : IntKind.u64.wrap V = V) (eC : IntKind.u64.wrap C = C) (eP : IntKind.u64.wrap P = P) (eA : IntKind.u64.wrap A = A) (eM : IntKind.u64.wrap M = M) (eH : IntKind.u64.wrap H = H) (eD : IntKind.u64.wrap D = D)
    (k0 : ∀ W, Calls Tryd.prog 42 #[.int .u64 V, .int .i64 1] W fun e W' => e = .returned (.string S0) ∧ Below W.heap.size W W')
    (k1 : ∀ W, Calls Tryd.prog 42 #[.int .u64 R, .int .i64 8] W fun e W' => e = .returned (.string S1) ∧ Below W.heap.size W W')
    (k2 : ∀ W, Calls Tryd.prog 42 #[.int .u64 C, .int .i64 4] W fun e W' => e = .returned (.string S2) ∧ Below W.heap.size W W')
    (k3 : ∀ W, Calls Tryd.prog 42 #[.int .u64 B, .int .i64 8] W fun e W' => e = .returned (.string S3) ∧ Below W.heap.size W W')
    (k4 : ∀ W, Calls Tryd.prog 42 #[.int .u64 P, .int .i64 2] W fun e W' => e = .returned (.string S4) ∧ Below W.heap.size W W')
    (k5 : ∀ W, Calls Tryd.prog 42 #[.int .u64 A, .int .i64 2] W fun e W' => e = .returned (.string S5) ∧ Below W.heap.size W W')
    (k6 : ∀ W, Calls Tryd.prog 42 #[.int .u64 M, .int .i64 2] W fun e W' => e = .returned (.string S6) ∧ Below W.heap.size W W')
    (k7 : ∀ W, Calls Tryd.prog 42 #[.int .u64 H, .int .i64 2] W fun e W' => e = .returned (.string S7) ∧ Below W.heap.size W W')
    (k8 : ∀ W, Calls Tryd.prog 42 #[.int .u64 D, .int .i64 2] W fun e W' => e = .returned (.string S8) ∧ Below W.heap.size W W')
    (g1 : ∀ W, (Op.stringOp .add S0 S1).run Tryd.prog W = .ok (.string X1) W) (g2 : ∀ W, (Op.stringOp .add X1 S2).run Tryd.prog W = .ok (.string X2) W) (g3 : ∀ W, (Op.stringOp .add X2 S3).run Tryd.prog W = .ok (.string X3) W) (g4 : ∀ W, (Op.stringOp .add X3 S4).run Tryd.prog W = .ok (.string X4) W) (g5 : ∀ W, (Op.stringOp .add X4 S5).run Tryd.prog W = .ok (.string X5) W) (g6 : ∀ W, (Op.stringOp .add X5 S6).run Tryd.prog W = .ok (.string X6) W) (g7 : ∀ W, (Op.stringOp .add X6 S7).run Tryd.prog W = .ok (.string X7) W) (g8 : ∀ W, (Op.stringOp .add X7 S8).run Tryd.prog W = .ok (.string X8) W) :
    Calls Tryd.prog 43 #[.agg #[.int .i64 k, .bool c, .bool p, .bool l, .bool f, .bool a, .bool x, .int .i64 r, .int .u64 R, .int .i64 C, .int .u64 B, .int .i64 P, .int .i64 A, .int .i64 M, .int .i64 H, .int .i64 D]] w fun e w' => e = .returned (.string X8) ∧ Below w.heap.size w w' := by
  go_enter Tryd.func43, Tryd.ntmps43
  go_wp2_with fail
  have hb := alloc_below w (.cells #[.int .i64 k, .bool c, .bool p, .bool l, .bool f, .bool a, .bool x, .int .i64 r, .int .u64 R, .int .i64 C, .int .u64 B, .int .i64 P, .int .i64 A, .int .i64 M, .int .i64 H, .int .i64 D] 24)
  have hr := heap_alloc_new w (.cells #[.int .i64 k, .bool c, .bool p, .bool l, .bool f, .bool a, .bool x, .int .i64 r, .int .u64 R, .int .i64 C, .int .u64 B, .int .i64 P, .int .i64 A, .int .i64 M, .int .i64 H, .int .i64 D] 24)
  generalize w.alloc (.cells #[.int .i64 k, .bool c, .bool p, .bool l, .bool f, .bool a, .bool x, .int .i64 r, .int .u64 R, .int .i64 C, .int .u64 B, .int .i64 P, .int .i64 A, .int .i64 M, .int .i64 H, .int .i64 D] 24) = w1 at *
  obtain ⟨c0, c1, c2, c3, c4, c5, c6, c7, c8, c9, c10, c11, c12, c13, c14, c15, _⟩ := cells16 hr
  replace c0 := cell_regrown c0
  replace c1 := cell_regrown c1
  replace c2 := cell_regrown c2
  replace c3 := cell_regrown c3
  replace c4 := cell_regrown c4
  replace c5 := cell_regrown c5
  replace c6 := cell_regrown c6
  replace c7 := cell_regrown c7
  replace c8 := cell_regrown c8
  replace c9 := cell_regrown c9
  replace c10 := cell_regrown c10
  replace c11 := cell_regrown c11
  replace c12 := cell_regrown c12
  replace c13 := cell_regrown c13
  replace c14 := cell_regrown c14
  replace c15 := cell_regrown c15
  clear hr
  have dv := at_grown kv w1
  have d0 := at_grown k0 w1
  have d1 := at_grown k1 w1
  have d2 := at_grown k2 w1
  have d3 := at_grown k3 w1
  have d4 := at_grown k4 w1
  have d5 := at_grown k5 w1
  have d6 := at_grown k6 w1
  have d7 := at_grown k7 w1
  have d8 := at_grown k8 w1
  clear kv k0 k1 k2 k3 k4 k5 k6 k7 k8
  refine wp_region_quiet_below (by kernel_rfl) (by kernel_rfl) ?_
  repeat (go_big_quiet_step (first | (go_at_call 45; exact dv _ _) | (go_at_call_of 42 V; exact d0 _ _) | (go_at_call_of 42 R; exact d1 _ _) | (go_at_call_of 42 C; exact d2 _ _) | (go_at_call_of 42 B; exact d3 _ _) | (go_at_call_of 42 P; exact d4 _ _) | (go_at_call_of 42 A; exact d5 _ _) | (go_at_call_of 42 M; exact d6 _ _) | (go_at_call_of 42 H; exact d7 _ _) | (go_at_call_of 42 D; exact d8 _ _)))
  refine wpQuiet_nil ?_
  rintro _ ⟨⟨dq, osq⟩, rfl⟩
  have hb2 := grown_then hb dq osq
  generalize grow (redrawn w1 dq) osq = w2 at *
  go_wp2_with fail
  go_ret
  exact ⟨rfl, hb2⟩
set_option maxRecDepth 100000 in
set_option maxHeartbeats 4000000 in
theorem written_turn (c p l f a x : Bool) (r R C B P A M H D : Int) (T X : ByteArray) (w : World)
    (kt : Hid (∀ W, Calls Tryd.prog 42 #[.int .u64 128, .int .i64 2] W fun e W' => e = .returned (.string T) ∧ Below W.heap.size W W')) (g : ∀ W, (Op.stringOp .add ⟨#[66, 66, 3, 0, 0]⟩ T).run Tryd.prog W = .ok (.string X) W) :
    Calls Tryd.prog 24 #[.agg #[.int .i64 128, .bool c, .bool p, .bool l, .bool f, .bool a, .bool x, .int .i64 r, .int .u64 R, .int .i64 C, .int .u64 B, .int .i64 P, .int .i64 A, .int .i64 M, .int .i64 H, .int .i64 D]] w fun e w' => e = .returned (.string X) ∧ Below w.heap.size w w' := by
  go_enter Tryd.func24, Tryd.ntmps24
  go_wp2_with fail
  refine (unhide kt _).mono ?_
  rintro e w1 ⟨rfl, b1⟩
  have hb := bthen (alloc_below w _) b1
  clear kt b1
  go_wp2_with fail
  go_ret
  exact ⟨rfl, hb⟩
set_option maxRecDepth 100000 in
set_option maxHeartbeats 4000000 in
theorem written_conf (c p l f a x : Bool) (r R C B P A M H D : Int) (T X1 Y X2 : ByteArray) (w : World)
    (kt : ∀ W, Calls Tryd.prog 42 #[.int .u64 0, .int .i64 2] W fun e W' => e = .returned (.string T) ∧ Below W.heap.size W W') (kf : ∀ W, Calls Tryd.prog 43 #[.agg #[.int .i64 0, .bool c, .bool p, .bool l, .bool f, .bool a, .bool x, .int .i64 r, .int .u64 R, .int .i64 C, .int .u64 B, .int .i64 P, .int .i64 A, .int .i64 M, .int .i64 H, .int .i64 D]] W fun e W' => e = .returned (.string Y) ∧ Below W.heap.size W W') (g1 : ∀ W, (Op.stringOp .add ⟨#[66, 66, 3, 0, 0]⟩ T).run Tryd.prog W = .ok (.string X1) W) (g2 : ∀ W, (Op.stringOp .add X1 Y).run Tryd.prog W = .ok (.string X2) W) :
    Calls Tryd.prog 24 #[.agg #[.int .i64 0, .bool c, .bool p, .bool l, .bool f, .bool a, .bool x, .int .i64 r, .int .u64 R, .int .i64 C, .int .u64 B, .int .i64 P, .int .i64 A, .int .i64 M, .int .i64 H, .int .i64 D]] w fun e w' => e = .returned (.string X2) ∧ Below w.heap.size w w' := by
  go_enter Tryd.func24, Tryd.ntmps24
  go_wp2_with fail
  have hb := alloc_below w (.cells #[.int .i64 0, .bool c, .bool p, .bool l, .bool f, .bool a, .bool x, .int .i64 r, .int .u64 R, .int .i64 C, .int .u64 B, .int .i64 P, .int .i64 A, .int .i64 M, .int .i64 H, .int .i64 D] 24)
  have hr := heap_alloc_new w (.cells #[.int .i64 0, .bool c, .bool p, .bool l, .bool f, .bool a, .bool x, .int .i64 r, .int .u64 R, .int .i64 C, .int .u64 B, .int .i64 P, .int .i64 A, .int .i64 M, .int .i64 H, .int .i64 D] 24)
  generalize w.alloc (.cells #[.int .i64 0, .bool c, .bool p, .bool l, .bool f, .bool a, .bool x, .int .i64 r, .int .u64 R, .int .i64 C, .int .u64 B, .int .i64 P, .int .i64 A, .int .i64 M, .int .i64 H, .int .i64 D] 24) = w1 at *
  obtain ⟨c0, c1, c2, c3, c4, c5, c6, c7, c8, c9, c10, c11, c12, c13, c14, c15, _⟩ := cells16 hr
  replace c0 := cell_regrown c0
  replace c1 := cell_regrown c1
  replace c2 := cell_regrown c2
  replace c3 := cell_regrown c3
  replace c4 := cell_regrown c4
  replace c5 := cell_regrown c5
  replace c6 := cell_regrown c6
  replace c7 := cell_regrown c7
  replace c8 := cell_regrown c8
  replace c9 := cell_regrown c9
  replace c10 := cell_regrown c10
  replace c11 := cell_regrown c11
  replace c12 := cell_regrown c12
  replace c13 := cell_regrown c13
  replace c14 := cell_regrown c14
  replace c15 := cell_regrown c15
  clear hr
  have dt := at_grown kt w1
  have df := at_grown kf w1
  clear kt kf
  refine wp_region_quiet_below (by kernel_rfl) (by kernel_rfl) ?_
  repeat (go_big_quiet_step (first | (go_at_call 43; exact df _ _) | (go_at_call 42; exact dt _ _)))
  refine wpQuiet_nil ?_
  rintro _ ⟨⟨dq, osq⟩, rfl⟩
  have hb2 := grown_then hb dq osq
  generalize grow (redrawn w1 dq) osq = w2 at *
  go_wp2_with fail
  go_ret
  exact ⟨rfl, hb2⟩
set_option maxRecDepth 100000 in
set_option maxHeartbeats 4000000 in
theorem written_rap (c p l f a x : Bool) (r R C B P A M H D : Int) (T X1 Y X2 Z X3 : ByteArray) (w : World)
    (kt : ∀ W, Calls Tryd.prog 42 #[.int .u64 514, .int .i64 2] W fun e W' => e = .returned (.string T) ∧ Below W.heap.size W W') (kf : ∀ W, Calls Tryd.prog 43 #[.agg #[.int .i64 2, .bool c, .bool p, .bool l, .bool f, .bool a, .bool x, .int .i64 r, .int .u64 R, .int .i64 C, .int .u64 B, .int .i64 P, .int .i64 A, .int .i64 M, .int .i64 H, .int .i64 D]] W fun e W' => e = .returned (.string Y) ∧ Below W.heap.size W W') (kz : ∀ W, Calls Tryd.prog 42 #[.int .u64 0, .int .i64 1] W fun e W' => e = .returned (.string Z) ∧ Below W.heap.size W W') (g1 : ∀ W, (Op.stringOp .add ⟨#[66, 66, 3, 0, 0]⟩ T).run Tryd.prog W = .ok (.string X1) W) (g2 : ∀ W, (Op.stringOp .add X1 Y).run Tryd.prog W = .ok (.string X2) W) (g3 : ∀ W, (Op.stringOp .add X2 Z).run Tryd.prog W = .ok (.string X3) W) :
    Calls Tryd.prog 24 #[.agg #[.int .i64 2, .bool c, .bool p, .bool l, .bool f, .bool a, .bool x, .int .i64 r, .int .u64 R, .int .i64 C, .int .u64 B, .int .i64 P, .int .i64 A, .int .i64 M, .int .i64 H, .int .i64 D]] w fun e w' => e = .returned (.string X3) ∧ Below w.heap.size w w' := by
  go_enter Tryd.func24, Tryd.ntmps24
  go_wp2_with fail
  have hb := alloc_below w (.cells #[.int .i64 2, .bool c, .bool p, .bool l, .bool f, .bool a, .bool x, .int .i64 r, .int .u64 R, .int .i64 C, .int .u64 B, .int .i64 P, .int .i64 A, .int .i64 M, .int .i64 H, .int .i64 D] 24)
  have hr := heap_alloc_new w (.cells #[.int .i64 2, .bool c, .bool p, .bool l, .bool f, .bool a, .bool x, .int .i64 r, .int .u64 R, .int .i64 C, .int .u64 B, .int .i64 P, .int .i64 A, .int .i64 M, .int .i64 H, .int .i64 D] 24)
  generalize w.alloc (.cells #[.int .i64 2, .bool c, .bool p, .bool l, .bool f, .bool a, .bool x, .int .i64 r, .int .u64 R, .int .i64 C, .int .u64 B, .int .i64 P, .int .i64 A, .int .i64 M, .int .i64 H, .int .i64 D] 24) = w1 at *
  obtain ⟨c0, c1, c2, c3, c4, c5, c6, c7, c8, c9, c10, c11, c12, c13, c14, c15, _⟩ := cells16 hr
  replace c0 := cell_regrown c0
  replace c1 := cell_regrown c1
  replace c2 := cell_regrown c2
  replace c3 := cell_regrown c3
  replace c4 := cell_regrown c4
  replace c5 := cell_regrown c5
  replace c6 := cell_regrown c6
  replace c7 := cell_regrown c7
  replace c8 := cell_regrown c8
  replace c9 := cell_regrown c9
  replace c10 := cell_regrown c10
  replace c11 := cell_regrown c11
  replace c12 := cell_regrown c12
  replace c13 := cell_regrown c13
  replace c14 := cell_regrown c14
  replace c15 := cell_regrown c15
  clear hr
  have dt := at_grown kt w1
  have df := at_grown kf w1
  have dz := at_grown kz w1
  clear kt kf kz
  refine wp_region_quiet_below (by kernel_rfl) (by kernel_rfl) ?_
  repeat (go_big_quiet_step (first | (go_at_call 43; exact df _ _) | (go_at_call 42; with_reducible exact dt _ _) | (go_at_call 42; with_reducible exact dz _ _)))
  refine wpQuiet_nil ?_
  rintro _ ⟨⟨dq, osq⟩, rfl⟩
  have hb2 := grown_then hb dq osq
  generalize grow (redrawn w1 dq) osq = w2 at *
  go_wp2_with fail
  go_ret
  exact ⟨rfl, hb2⟩
theorem fields_any (b : Bp) (w : World) (h : b.room) (hf : b.fits) : Calls Tryd.prog 43 #[b.val] w fun e w' => e = .returned (.string (bs b.fields)) ∧ Below w.heap.size w w' := by
  have kv := fun W => flags_any b W h.1
  have hv := (b.flags_back h.1).1
  unfold Bp.fields
  generalize b.flags = V at kv hv ⊢
  obtain ⟨k, c, p, l, f, a, x, r, R, C, B, P, A, M, H, D⟩ := b
  obtain ⟨_, h2, h3, h4, h5, h6, h7⟩ := h
  obtain ⟨hR, hB⟩ := hf
  simp only at h2 h3 h4 h5 h6 h7 hR hB ⊢
  obtain ⟨C1, rfl⟩ : ∃ n : Nat, C = n := ⟨C.toNat, by omega⟩
  have zC : ((C1 : Nat) : Int).toNat = C1 := by omega
  obtain ⟨P1, rfl⟩ : ∃ n : Nat, P = n := ⟨P.toNat, by omega⟩
  have zP : ((P1 : Nat) : Int).toNat = P1 := by omega
  obtain ⟨A1, rfl⟩ : ∃ n : Nat, A = n := ⟨A.toNat, by omega⟩
  have zA : ((A1 : Nat) : Int).toNat = A1 := by omega
  obtain ⟨M1, rfl⟩ : ∃ n : Nat, M = n := ⟨M.toNat, by omega⟩
  have zM : ((M1 : Nat) : Int).toNat = M1 := by omega
  obtain ⟨H1, rfl⟩ : ∃ n : Nat, H = n := ⟨H.toNat, by omega⟩
  have zH : ((H1 : Nat) : Int).toNat = H1 := by omega
  obtain ⟨D1, rfl⟩ : ∃ n : Nat, D = n := ⟨D.toNat, by omega⟩
  have zD : ((D1 : Nat) : Int).toNat = D1 := by omega
  rw [zC, zP, zA, zM, zH, zD]
  have c := fields_at k c p l f a x r R C1 B P1 A1 M1 H1 D1 V _ _ _ _ _ _ _ _ _ _ _ _ _ _ _ _ _ w kv (u64_id V (by omega)) (u64_id C1 (by omega)) (u64_id P1 (by omega)) (u64_id A1 (by omega)) (u64_id M1 (by omega)) (u64_id H1 (by omega)) (u64_id D1 (by omega))
    (fun W => bput_any V 1 W (by decide) (by decide) (by omega)) (fun W => bput_any R 8 W (by decide) (by decide) (by omega)) (fun W => bput_any C1 4 W (by decide) (by decide) (by omega)) (fun W => bput_any B 8 W (by decide) (by decide) (by omega)) (fun W => bput_any P1 2 W (by decide) (by decide) (by omega)) (fun W => bput_any A1 2 W (by decide) (by decide) (by omega)) (fun W => bput_any M1 2 W (by decide) (by decide) (by omega)) (fun W => bput_any H1 2 W (by decide) (by decide) (by omega)) (fun W => bput_any D1 2 W (by decide) (by decide) (by omega))
    (fun W => add_bs _ _ (by simp [be_length]) W) (fun W => add_bs _ _ (by simp [be_length]) W) (fun W => add_bs _ _ (by simp [be_length]) W) (fun W => add_bs _ _ (by simp [be_length]) W) (fun W => add_bs _ _ (by simp [be_length]) W) (fun W => add_bs _ _ (by simp [be_length]) W) (fun W => add_bs _ _ (by simp [be_length]) W) (fun W => add_bs _ _ (by simp [be_length]) W)
  simp only [List.append_assoc] at c
  exact c
theorem written_any (b : Bp) (w : World) (h : b.ok) (hf : b.fits) : Calls Tryd.prog 24 #[b.val] w fun e w' => e = .returned (.string (bs b.bytes)) ∧ Below w.heap.size w w' := by
  rcases h with rfl | ⟨k, h, _⟩ | ⟨k, h⟩
  · exact written_turn false false false false false false 0 0 0 0 0 0 0 0 0 _ _ w (hide fun W => bput_any 128 2 W (by decide) (by decide) (by decide)) (fun W => add_bs [66, 66, 3, 0, 0] (be 128 2) (by decide) W)
  · have kf := fun W => fields_any b W h hf
    have hl := b.fields_length
    have e : b.bytes = (bpHead ++ be 0 2) ++ b.fields := by
      unfold Bp.bytes; rw [if_neg (by omega), if_pos k, List.append_assoc]; rfl
    rw [e]
    generalize b.fields = Y at kf hl ⊢
    clear e h hf
    obtain ⟨k', c, p, l, f, a, x, r, R, C, B, P, A, M, H, D⟩ := b
    simp only at k
    subst k
    exact written_conf c p l f a x r R C B P A M H D _ _ _ _ w (fun W => bput_any 0 2 W (by decide) (by decide) (by decide)) kf (fun W => add_bs [66, 66, 3, 0, 0] (be 0 2) (by decide) W) (fun W => add_bs _ Y (by simp [be_length, hl]) W)
  · have kf := fun W => fields_any b W h hf
    have hl := b.fields_length
    have e : b.bytes = ((bpHead ++ be 514 2) ++ b.fields) ++ be 0 1 := by
      unfold Bp.bytes; rw [if_neg (by omega), if_neg (by omega), List.append_assoc, List.append_assoc]; rfl
    rw [e]
    generalize b.fields = Y at kf hl ⊢
    clear e h hf
    obtain ⟨k', c, p, l, f, a, x, r, R, C, B, P, A, M, H, D⟩ := b
    simp only at k
    subst k
    exact written_rap c p l f a x r R C B P A M H D _ _ _ _ _ _ w (fun W => bput_any 514 2 W (by decide) (by decide) (by decide)) kf (fun W => bput_any 0 1 W (by decide) (by decide) (by decide)) (fun W => add_bs [66, 66, 3, 0, 0] (be 514 2) (by decide) W) (fun W => add_bs _ Y (by simp [be_length, hl]) W) (fun W => add_bs _ (be 0 1) (by simp [be_length, hl]) W)
set_option maxRecDepth 100000 in
set_option maxHeartbeats 4000000 in
theorem build_not (k : Int) (c p l f a x : Bool) (r R C B P A M H D : Int) (E : Int) (w : World) (hE : (E != 0) = true) (k1 : Hid (∀ W, Calls Tryd.prog 12 #[.agg #[.int .i64 k, .bool c, .bool p, .bool l, .bool f, .bool a, .bool x, .int .i64 r, .int .u64 R, .int .i64 C, .int .u64 B, .int .i64 P, .int .i64 A, .int .i64 M, .int .i64 H, .int .i64 D]] W fun e W' => e = .returned (.int .i64 E) ∧ Below W.heap.size W W')) :
    Calls Tryd.prog 9 #[.agg #[.int .i64 k, .bool c, .bool p, .bool l, .bool f, .bool a, .bool x, .int .i64 r, .int .u64 R, .int .i64 C, .int .u64 B, .int .i64 P, .int .i64 A, .int .i64 M, .int .i64 H, .int .i64 D]] w fun e w' => e = .returned (.tuple #[.string ⟨#[]⟩, .int .i64 E]) ∧ Below w.heap.size w w' := by
  go_enter Tryd.func9, Tryd.ntmps9
  go_wp2_with fail
  refine (unhide k1 _).mono ?_
  rintro e w1 ⟨rfl, b1⟩
  have hb := bthen (alloc_below w _) b1
  clear k1 b1
  go_wp2_with fail
  go_ret2
  exact ⟨rfl, hb⟩
set_option maxRecDepth 100000 in
set_option maxHeartbeats 4000000 in
theorem build_good (k : Int) (c p l f a x : Bool) (r R C B P A M H D : Int) (X : ByteArray) (w : World) (k1 : Hid (∀ W, Calls Tryd.prog 12 #[.agg #[.int .i64 k, .bool c, .bool p, .bool l, .bool f, .bool a, .bool x, .int .i64 r, .int .u64 R, .int .i64 C, .int .u64 B, .int .i64 P, .int .i64 A, .int .i64 M, .int .i64 H, .int .i64 D]] W fun e W' => e = .returned (.int .i64 0) ∧ Below W.heap.size W W')) (k2 : Hid (∀ W, Calls Tryd.prog 24 #[.agg #[.int .i64 k, .bool c, .bool p, .bool l, .bool f, .bool a, .bool x, .int .i64 r, .int .u64 R, .int .i64 C, .int .u64 B, .int .i64 P, .int .i64 A, .int .i64 M, .int .i64 H, .int .i64 D]] W fun e W' => e = .returned (.string X) ∧ Below W.heap.size W W')) :
    Calls Tryd.prog 9 #[.agg #[.int .i64 k, .bool c, .bool p, .bool l, .bool f, .bool a, .bool x, .int .i64 r, .int .u64 R, .int .i64 C, .int .u64 B, .int .i64 P, .int .i64 A, .int .i64 M, .int .i64 H, .int .i64 D]] w fun e w' => e = .returned (.tuple #[.string X, .int .i64 0]) ∧ Below w.heap.size w w' := by
  go_enter Tryd.func9, Tryd.ntmps9
  go_wp2_with fail
  refine (unhide k1 _).mono ?_
  rintro e w1 ⟨rfl, b1⟩
  have hb := bthen (alloc_below w _) b1
  have hr := Below.row b1 (heap_alloc_new w _)
  clear k1 b1
  obtain ⟨c0, c1, c2, c3, c4, c5, c6, c7, c8, c9, c10, c11, c12, c13, c14, c15, _⟩ := cells16 hr
  clear hr
  go_wp2_with fail
  refine (unhide k2 _).mono ?_
  rintro e w2 ⟨rfl, b2⟩
  have hb2 := bthen hb b2
  clear k2 b2 hb
  go_wp2_with fail
  go_ret2
  exact ⟨rfl, hb2⟩
/-- the bytes, if it may be -/
def Bp.built (b : Bp) : List UInt8 := if b.check = 0 then b.bytes else []
theorem bpBuild_any (b : Bp) (w : World) (hf : b.fits) : Calls Tryd.prog 9 #[b.val] w fun e w' => e = .returned (.tuple #[.string (bs b.built), .int .i64 b.check]) ∧ Below w.heap.size w w' := by
  have k := fun W => bpCheck_any b W
  unfold Bp.built
  by_cases h : b.check = 0
  · rw [if_pos h, h]
    rw [h] at k
    exact build_good b.kind b.change b.propose b.learn b.forward b.agree b.ack b.role b.root b.cost b.bridge b.port b.age b.maxAge b.hello b.delay _ w (hide k) (hide fun W => written_any b W (Bp.check_ok.1 h) hf)
  · rw [if_neg h]
    exact build_not b.kind b.change b.propose b.learn b.forward b.agree b.ack b.role b.root b.cost b.bridge b.port b.age b.maxAge b.hello b.delay _ w (by simpa using h) (hide k)
end Go.Proofs.YtchgmbbcfjfhoaaDoor
