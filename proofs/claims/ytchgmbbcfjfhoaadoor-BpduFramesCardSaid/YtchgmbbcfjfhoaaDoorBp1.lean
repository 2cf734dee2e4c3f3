/-
  The contracts of bpdu.within, room, flag, flags, fine and Check: whether a message may be; no cell that was there before has turned.
-/
import Derived.Test.YtchgmbbcfjfhoaaDoorCells16
import Derived.Test.YtchgmbbcfjfhoaaDoorBpPlain
namespace Go.Proofs.YtchgmbbcfjfhoaaDoor
open Go.RowKit Go.Sort

/-- a message as the program has it -/
def Bp.val (b : Bp) : Value := .agg #[.int .i64 b.kind, .bool b.change, .bool b.propose, .bool b.learn, .bool b.forward, .bool b.agree, .bool b.ack, .int .i64 b.role, .int .u64 (b.root : Int), .int .i64 b.cost, .int .u64 (b.bridge : Int), .int .i64 b.port, .int .i64 b.age, .int .i64 b.maxAge, .int .i64 b.hello, .int .i64 b.delay]
/-- a message's numbers are of their types -/
def Bp.fits (b : Bp) : Prop := b.root < 18446744073709551616 ∧ b.bridge < 18446744073709551616
theorem fields_bp : Tryd.prog.underlying 24 = some (.struct (Tryd.prog.fieldsOf 24)) := by kernel_rfl
theorem held_bp : Tryd.prog.stoodInHeld 24 = false := by kernel_rfl
theorem same_bp (k : Int) (c p l f a x : Bool) (r R C B P A M H D : Int) (W : World) : (binOp .eql 24 (.agg #[.int .i64 k, .bool c, .bool p, .bool l, .bool f, .bool a, .bool x, .int .i64 r, .int .u64 R, .int .i64 C, .int .u64 B, .int .i64 P, .int .i64 A, .int .i64 M, .int .i64 H, .int .i64 D]) (.agg #[.int .i64 k, .bool c, .bool p, .bool l, .bool f, .bool a, .bool x, .int .i64 r, .int .u64 R, .int .i64 C, .int .u64 B, .int .i64 P, .int .i64 A, .int .i64 M, .int .i64 H, .int .i64 D])).run Tryd.prog W = .ok (.bool true) W := by
  rw [run_eql_struct, run_equalIn_agg _ _ _ _ _ fields_bp held_bp]
  simp [go_sem, Tryd.underlying24]
theorem other_bp (k : Int) (c p l f a x : Bool) (r R C B P A M H D : Int) (W : World) : (binOp .neq 24 (.agg #[.int .i64 k, .bool c, .bool p, .bool l, .bool f, .bool a, .bool x, .int .i64 r, .int .u64 R, .int .i64 C, .int .u64 B, .int .i64 P, .int .i64 A, .int .i64 M, .int .i64 H, .int .i64 D]) (.agg #[.int .i64 k, .bool c, .bool p, .bool l, .bool f, .bool a, .bool x, .int .i64 r, .int .u64 R, .int .i64 C, .int .u64 B, .int .i64 P, .int .i64 A, .int .i64 M, .int .i64 H, .int .i64 D])).run Tryd.prog W = .ok (.bool false) W := by
  rw [run_neq_struct, run_equalIn_agg _ _ _ _ _ fields_bp held_bp]
  simp [go_sem, Tryd.underlying24]
theorem eql_bp (k : Int) (c p l f a x : Bool) (r R C B P A M H D : Int) (k2 : Int) (c2 p2 l2 f2 a2 x2 : Bool) (r2 R2 C2 B2 P2 A2 M2 H2 D2 : Int) (z : Bool) (hz : decide (k = k2 ∧ c = c2 ∧ p = p2 ∧ l = l2 ∧ f = f2 ∧ a = a2 ∧ x = x2 ∧ r = r2 ∧ R = R2 ∧ C = C2 ∧ B = B2 ∧ P = P2 ∧ A = A2 ∧ M = M2 ∧ H = H2 ∧ D = D2) = z) (W : World) : (binOp .eql 24 (.agg #[.int .i64 k, .bool c, .bool p, .bool l, .bool f, .bool a, .bool x, .int .i64 r, .int .u64 R, .int .i64 C, .int .u64 B, .int .i64 P, .int .i64 A, .int .i64 M, .int .i64 H, .int .i64 D]) (.agg #[.int .i64 k2, .bool c2, .bool p2, .bool l2, .bool f2, .bool a2, .bool x2, .int .i64 r2, .int .u64 R2, .int .i64 C2, .int .u64 B2, .int .i64 P2, .int .i64 A2, .int .i64 M2, .int .i64 H2, .int .i64 D2])).run Tryd.prog W = .ok (.bool z) W := by
  subst hz
  by_cases h : k = k2 ∧ c = c2 ∧ p = p2 ∧ l = l2 ∧ f = f2 ∧ a = a2 ∧ x = x2 ∧ r = r2 ∧ R = R2 ∧ C = C2 ∧ B = B2 ∧ P = P2 ∧ A = A2 ∧ M = M2 ∧ H = H2 ∧ D = D2
  · rw [decide_eq_true h]
    obtain ⟨rfl, rfl, rfl, rfl, rfl, rfl, rfl, rfl, rfl, rfl, rfl, rfl, rfl, rfl, rfl, rfl⟩ := h
    exact same_bp k c p l f a x r R C B P A M H D W
  · rw [decide_eq_false h]
    rw [run_eql_struct, run_equalIn_agg _ _ _ _ _ fields_bp held_bp]
    simp [go_sem, Tryd.underlying24]
    intro q0 q1 q2 q3 q4 q5 q6 q7 q8 q9 q10 q11 q12 q13 q14 q15
    exact h ⟨q0, q1, q2, q3, q4, q5, q6, q7, q8, q9, q10, q11, q12, q13, q14, q15⟩
theorem within_any (v l : Int) (w : World) : Calls Tryd.prog 59 #[.int .i64 v, .int .i64 l] w fun e w' => e = .returned (.bool (decide (0 ≤ v ∧ v ≤ l))) ∧ w' = w := by
  by_cases h : 0 ≤ v
  · by_cases h2 : v ≤ l
    · rw [decide_eq_true ⟨h, h2⟩]
      go_enter Tryd.func59, Tryd.ntmps59
      go_wp2
      go_ret
      exact ⟨rfl, rfl⟩
    · rw [decide_eq_false (fun q => h2 q.2)]
      go_enter Tryd.func59, Tryd.ntmps59
      go_wp2
      go_ret
      exact ⟨rfl, rfl⟩
  · rw [decide_eq_false (fun q => h q.1)]
    go_enter Tryd.func59, Tryd.ntmps59
    go_wp2
    go_ret
    exact ⟨rfl, rfl⟩
set_option maxRecDepth 100000 in
set_option maxHeartbeats 4000000 in
theorem room_at (k : Int) (c p l f a x : Bool) (r R C B P A M H D : Int) (t1 t2 t3 t4 t5 t6 t7 : Bool) (w : World)
    (k1 : Hid (∀ W, Calls Tryd.prog 59 #[.int .i64 r, .int .i64 3] W fun e W' => e = .returned (.bool t1) ∧ W' = W))
    (k2 : Hid (∀ W, Calls Tryd.prog 59 #[.int .i64 C, .int .i64 4294967295] W fun e W' => e = .returned (.bool t2) ∧ W' = W))
    (k3 : Hid (∀ W, Calls Tryd.prog 59 #[.int .i64 P, .int .i64 65535] W fun e W' => e = .returned (.bool t3) ∧ W' = W))
    (k4 : Hid (∀ W, Calls Tryd.prog 59 #[.int .i64 A, .int .i64 65535] W fun e W' => e = .returned (.bool t4) ∧ W' = W))
    (k5 : Hid (∀ W, Calls Tryd.prog 59 #[.int .i64 M, .int .i64 65535] W fun e W' => e = .returned (.bool t5) ∧ W' = W))
    (k6 : Hid (∀ W, Calls Tryd.prog 59 #[.int .i64 H, .int .i64 65535] W fun e W' => e = .returned (.bool t6) ∧ W' = W))
    (k7 : Hid (∀ W, Calls Tryd.prog 59 #[.int .i64 D, .int .i64 65535] W fun e W' => e = .returned (.bool t7) ∧ W' = W)) :
    Calls Tryd.prog 44 #[.agg #[.int .i64 k, .bool c, .bool p, .bool l, .bool f, .bool a, .bool x, .int .i64 r, .int .u64 R, .int .i64 C, .int .u64 B, .int .i64 P, .int .i64 A, .int .i64 M, .int .i64 H, .int .i64 D]] w fun e w' => e = .returned (.bool (t1 && t2 && t3 && t4 && t5 && t6 && t7)) ∧ Below w.heap.size w w' := by
  cases t1
  · go_enter Tryd.func44, Tryd.ntmps44
    go_wp2_with fail
    refine (unhide k1 _).mono ?_
    rintro e w1 ⟨rfl, rfl⟩
    go_wp2_with fail
    go_ret
    exact ⟨rfl, alloc_below _ _⟩
  · cases t2
    · go_enter Tryd.func44, Tryd.ntmps44
      go_wp2_with fail
      refine (unhide k1 _).mono ?_
      rintro e w1 ⟨rfl, rfl⟩
      go_wp2_with fail
      refine (unhide k2 _).mono ?_
      rintro e w2 ⟨rfl, rfl⟩
      go_wp2_with fail
      go_ret
      exact ⟨rfl, alloc_below _ _⟩
    · cases t3
      · go_enter Tryd.func44, Tryd.ntmps44
        go_wp2_with fail
        refine (unhide k1 _).mono ?_
        rintro e w1 ⟨rfl, rfl⟩
        go_wp2_with fail
        refine (unhide k2 _).mono ?_
        rintro e w2 ⟨rfl, rfl⟩
        go_wp2_with fail
        refine (unhide k3 _).mono ?_
        rintro e w3 ⟨rfl, rfl⟩
        go_wp2_with fail
        go_ret
        exact ⟨rfl, alloc_below _ _⟩
      · cases t4
        · go_enter Tryd.func44, Tryd.ntmps44
          go_wp2_with fail
          refine (unhide k1 _).mono ?_
          rintro e w1 ⟨rfl, rfl⟩
          go_wp2_with fail
          refine (unhide k2 _).mono ?_
          rintro e w2 ⟨rfl, rfl⟩
          go_wp2_with fail
          refine (unhide k3 _).mono ?_
          rintro e w3 ⟨rfl, rfl⟩
          go_wp2_with fail
          refine (unhide k4 _).mono ?_
          rintro e w4 ⟨rfl, rfl⟩
          go_wp2_with fail
          go_ret
          exact ⟨rfl, alloc_below _ _⟩
        · cases t5
          · go_enter Tryd.func44, Tryd.ntmps44
            go_wp2_with fail
            refine (unhide k1 _).mono ?_
            rintro e w1 ⟨rfl, rfl⟩
            go_wp2_with fail
            refine (unhide k2 _).mono ?_
            rintro e w2 ⟨rfl, rfl⟩
            go_wp2_with fail
            refine (unhide k3 _).mono ?_
            rintro e w3 ⟨rfl, rfl⟩
            go_wp2_with fail
            refine (unhide k4 _).mono ?_
            rintro e w4 ⟨rfl, rfl⟩
            go_wp2_with fail
            refine (unhide k5 _).mono ?_
            rintro e w5 ⟨rfl, rfl⟩
            go_wp2_with fail
            go_ret
            exact ⟨rfl, alloc_below _ _⟩
          · cases t6
            · go_enter Tryd.func44, Tryd.ntmps44
              go_wp2_with fail
              refine (unhide k1 _).mono ?_
              rintro e w1 ⟨rfl, rfl⟩
              go_wp2_with fail
              refine (unhide k2 _).mono ?_
              rintro e w2 ⟨rfl, rfl⟩
              go_wp2_with fail
              refine (unhide k3 _).mono ?_
              rintro e w3 ⟨rfl, rfl⟩
              go_wp2_with fail
              refine (unhide k4 _).mono ?_
              rintro e w4 ⟨rfl, rfl⟩
              go_wp2_with fail
              refine (unhide k5 _).mono ?_
              rintro e w5 ⟨rfl, rfl⟩
              go_wp2_with fail
              refine (unhide k6 _).mono ?_
              rintro e w6 ⟨rfl, rfl⟩
              go_wp2_with fail
              go_ret
              exact ⟨rfl, alloc_below _ _⟩
            · cases t7
              · go_enter Tryd.func44, Tryd.ntmps44
                go_wp2_with fail
                refine (unhide k1 _).mono ?_
                rintro e w1 ⟨rfl, rfl⟩
                go_wp2_with fail
                refine (unhide k2 _).mono ?_
                rintro e w2 ⟨rfl, rfl⟩
                go_wp2_with fail
                refine (unhide k3 _).mono ?_
                rintro e w3 ⟨rfl, rfl⟩
                go_wp2_with fail
                refine (unhide k4 _).mono ?_
                rintro e w4 ⟨rfl, rfl⟩
                go_wp2_with fail
                refine (unhide k5 _).mono ?_
                rintro e w5 ⟨rfl, rfl⟩
                go_wp2_with fail
                refine (unhide k6 _).mono ?_
                rintro e w6 ⟨rfl, rfl⟩
                go_wp2_with fail
                refine (unhide k7 _).mono ?_
                rintro e w7 ⟨rfl, rfl⟩
                go_wp2_with fail
                go_ret
                exact ⟨rfl, alloc_below _ _⟩
              · go_enter Tryd.func44, Tryd.ntmps44
                go_wp2_with fail
                refine (unhide k1 _).mono ?_
                rintro e w1 ⟨rfl, rfl⟩
                go_wp2_with fail
                refine (unhide k2 _).mono ?_
                rintro e w2 ⟨rfl, rfl⟩
                go_wp2_with fail
                refine (unhide k3 _).mono ?_
                rintro e w3 ⟨rfl, rfl⟩
                go_wp2_with fail
                refine (unhide k4 _).mono ?_
                rintro e w4 ⟨rfl, rfl⟩
                go_wp2_with fail
                refine (unhide k5 _).mono ?_
                rintro e w5 ⟨rfl, rfl⟩
                go_wp2_with fail
                refine (unhide k6 _).mono ?_
                rintro e w6 ⟨rfl, rfl⟩
                go_wp2_with fail
                refine (unhide k7 _).mono ?_
                rintro e w7 ⟨rfl, rfl⟩
                go_wp2_with fail
                go_ret
                exact ⟨rfl, alloc_below _ _⟩
theorem room_any (b : Bp) (w : World) : Calls Tryd.prog 44 #[b.val] w fun e w' => e = .returned (.bool (decide b.room)) ∧ Below w.heap.size w w' := by
  have h := room_at b.kind b.change b.propose b.learn b.forward b.agree b.ack b.role b.root b.cost b.bridge b.port b.age b.maxAge b.hello b.delay _ _ _ _ _ _ _ w (hide fun W => within_any _ _ W) (hide fun W => within_any _ _ W) (hide fun W => within_any _ _ W) (hide fun W => within_any _ _ W) (hide fun W => within_any _ _ W) (hide fun W => within_any _ _ W) (hide fun W => within_any _ _ W)
  have e : (decide (0 ≤ b.role ∧ b.role ≤ 3) && decide (0 ≤ b.cost ∧ b.cost ≤ 4294967295) && decide (0 ≤ b.port ∧ b.port ≤ 65535) && decide (0 ≤ b.age ∧ b.age ≤ 65535) && decide (0 ≤ b.maxAge ∧ b.maxAge ≤ 65535) && decide (0 ≤ b.hello ∧ b.hello ≤ 65535) && decide (0 ≤ b.delay ∧ b.delay ≤ 65535)) = decide b.room := by
    unfold Bp.room
    simp only [Bool.decide_and, Bool.and_assoc]
  rw [e] at h
  exact h
theorem flag_any (x : Bool) (n : Nat) (w : World) : Calls Tryd.prog 60 #[.bool x, .int .i64 (n : Int)] w fun e w' => e = .returned (.int .i64 ((n * x.toNat : Nat) : Int)) ∧ w' = w := by
  cases x
  · go_enter Tryd.func60, Tryd.ntmps60
    go_wp2
    go_ret
    exact ⟨rfl, rfl⟩
  · rw [show n * true.toNat = n from Nat.mul_one n]
    go_enter Tryd.func60, Tryd.ntmps60
    go_wp2
    go_ret
    exact ⟨rfl, rfl⟩
set_option maxRecDepth 100000 in
set_option maxHeartbeats 4000000 in
theorem flags_at (k : Int) (c p l f a x : Bool) (r R C B P A M H D : Int) (v1 v2 v3 v4 v5 v6 r4 o1 o2 o3 o4 o5 o6 : Int) (w : World)
    (k1 : ∀ W, Calls Tryd.prog 60 #[.bool c, .int .i64 1] W fun e W' => e = .returned (.int .i64 v1) ∧ W' = W)
    (k2 : ∀ W, Calls Tryd.prog 60 #[.bool p, .int .i64 2] W fun e W' => e = .returned (.int .i64 v2) ∧ W' = W)
    (k3 : ∀ W, Calls Tryd.prog 60 #[.bool l, .int .i64 16] W fun e W' => e = .returned (.int .i64 v3) ∧ W' = W)
    (k4 : ∀ W, Calls Tryd.prog 60 #[.bool f, .int .i64 32] W fun e W' => e = .returned (.int .i64 v4) ∧ W' = W)
    (k5 : ∀ W, Calls Tryd.prog 60 #[.bool a, .int .i64 64] W fun e W' => e = .returned (.int .i64 v5) ∧ W' = W)
    (k6 : ∀ W, Calls Tryd.prog 60 #[.bool x, .int .i64 128] W fun e W' => e = .returned (.int .i64 v6) ∧ W' = W)
    (hr : IntKind.i64.wrap (r * 4) = r4) (h1 : bits BinOp.or IntKind.i64 v1 v2 = o1) (h2 : bits BinOp.or IntKind.i64 o1 r4 = o2) (h3 : bits BinOp.or IntKind.i64 o2 v3 = o3) (h4 : bits BinOp.or IntKind.i64 o3 v4 = o4) (h5 : bits BinOp.or IntKind.i64 o4 v5 = o5) (h6 : bits BinOp.or IntKind.i64 o5 v6 = o6) :
    Calls Tryd.prog 45 #[.agg #[.int .i64 k, .bool c, .bool p, .bool l, .bool f, .bool a, .bool x, .int .i64 r, .int .u64 R, .int .i64 C, .int .u64 B, .int .i64 P, .int .i64 A, .int .i64 M, .int .i64 H, .int .i64 D]] w fun e w' => e = .returned (.int .i64 o6) ∧ Below w.heap.size w w' := by
  go_enter Tryd.func45, Tryd.ntmps45
  go_wp2_with fail
  have hb := alloc_below w (.cells #[.int .i64 k, .bool c, .bool p, .bool l, .bool f, .bool a, .bool x, .int .i64 r, .int .u64 R, .int .i64 C, .int .u64 B, .int .i64 P, .int .i64 A, .int .i64 M, .int .i64 H, .int .i64 D] 24)
  have hr := heap_alloc_new w (.cells #[.int .i64 k, .bool c, .bool p, .bool l, .bool f, .bool a, .bool x, .int .i64 r, .int .u64 R, .int .i64 C, .int .u64 B, .int .i64 P, .int .i64 A, .int .i64 M, .int .i64 H, .int .i64 D] 24)
  generalize w.alloc (.cells #[.int .i64 k, .bool c, .bool p, .bool l, .bool f, .bool a, .bool x, .int .i64 r, .int .u64 R, .int .i64 C, .int .u64 B, .int .i64 P, .int .i64 A, .int .i64 M, .int .i64 H, .int .i64 D] 24) = w1 at *
  obtain ⟨c0, c1, c2, c3, c4, c5, c6, c7, c8, c9, c10, c11, c12, c13, c14, c15, _⟩ := cells16 hr
  replace c0 := cell_regrown c0
  replace c1 := cell_regrown c1
  replace c2 := cell_regrown c2
  replace c3 := cell_regrown c3
  replace c4 := cell_regrown c4
  replace c5 := cell_regrown c5
  replace c6 := cell_regrown c6
  replace c7 := cell_regrown c7
  replace c8 := cell_regrown c8
  replace c9 := cell_regrown c9
  replace c10 := cell_regrown c10
  replace c11 := cell_regrown c11
  replace c12 := cell_regrown c12
  replace c13 := cell_regrown c13
  replace c14 := cell_regrown c14
  replace c15 := cell_regrown c15
  have d1 := at_grown (fun W => (k1 W).mono fun e W2 h => ⟨h.1, by rw [h.2]; exact Below.refl _ _⟩) w1
  have d2 := at_grown (fun W => (k2 W).mono fun e W2 h => ⟨h.1, by rw [h.2]; exact Below.refl _ _⟩) w1
  have d3 := at_grown (fun W => (k3 W).mono fun e W2 h => ⟨h.1, by rw [h.2]; exact Below.refl _ _⟩) w1
  have d4 := at_grown (fun W => (k4 W).mono fun e W2 h => ⟨h.1, by rw [h.2]; exact Below.refl _ _⟩) w1
  have d5 := at_grown (fun W => (k5 W).mono fun e W2 h => ⟨h.1, by rw [h.2]; exact Below.refl _ _⟩) w1
  have d6 := at_grown (fun W => (k6 W).mono fun e W2 h => ⟨h.1, by rw [h.2]; exact Below.refl _ _⟩) w1
  clear k1 k2 k3 k4 k5 k6
  refine wp_region_quiet_below (by kernel_rfl) (by kernel_rfl) ?_
  repeat (go_big_quiet_step (first | (go_at_call_of 60 c; exact d1 _ _) | (go_at_call_of 60 p; exact d2 _ _) | (go_at_call_of 60 l; exact d3 _ _) | (go_at_call_of 60 f; exact d4 _ _) | (go_at_call_of 60 a; exact d5 _ _) | (go_at_call_of 60 x; exact d6 _ _)))
  refine wpQuiet_nil ?_
  rintro _ ⟨⟨dq, osq⟩, rfl⟩
  have hb2 := grown_then hb dq osq
  generalize grow (redrawn w1 dq) osq = w2 at *
  go_wp2_with fail
  go_ret
  exact ⟨rfl, hb2⟩
end Go.Proofs.YtchgmbbcfjfhoaaDoor
