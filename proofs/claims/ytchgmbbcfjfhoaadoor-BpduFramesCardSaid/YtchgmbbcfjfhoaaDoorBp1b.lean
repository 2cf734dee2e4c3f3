/-
  The contracts of bpdu.flags, fine and Check: whether a message may be; no cell that was there before has turned.
-/
import Derived.Test.YtchgmbbcfjfhoaaDoorBp1
namespace Go.Proofs.YtchgmbbcfjfhoaaDoor
open Go.RowKit Go.Sort

theorem ofInt_i64 (m : Nat) (h : m < 18446744073709551616) : (BitVec.ofInt 64 (m : Int)).toNat = m := by
  rw [BitVec.ofInt_natCast, BitVec.toNat_ofNat]
  exact Nat.mod_eq_of_lt h
theorem i64_or_nat (a b : Nat) (ha : a < 65536) (hb : b < 65536) : bits BinOp.or IntKind.i64 (a : Int) (b : Int) = ((a ||| b : Nat) : Int) := by
  show IntKind.i64.wrap ((BitVec.ofInt 64 (a : Int) ||| BitVec.ofInt 64 (b : Int)).toNat : Int) = _
  rw [BitVec.toNat_or, ofInt_i64 a (by omega), ofInt_i64 b (by omega), IntKind.wrap_i64]
  have : a ||| b < 2 ^ 16 := Nat.or_lt_two_pow ha hb
  omega
theorem or_up (v y i n : Nat) (hn : 2 ^ i = n) (h : v < n) (hn2 : n * y < 65536) (hv : v < 65536) : bits BinOp.or IntKind.i64 (v : Int) ((n * y : Nat) : Int) = ((v + n * y : Nat) : Int) := by
  rw [i64_or_nat _ _ hv hn2]
  have e := Nat.shiftLeft_add_eq_or_of_lt (i := i) (b := v) (by rw [hn]; exact h) y
  rw [Nat.shiftLeft_eq, hn, Nat.mul_comm y n] at e
  rw [Nat.or_comm, ← e, Nat.add_comm]
theorem flags_any (b : Bp) (w : World) (h : 0 ≤ b.role ∧ b.role ≤ 3) : Calls Tryd.prog 45 #[b.val] w fun e w' => e = .returned (.int .i64 (b.flags : Int)) ∧ Below w.heap.size w w' := by
  have h1 := b.change.toNat_le
  have h2 := b.propose.toNat_le
  have h3 := b.learn.toNat_le
  have h4 := b.forward.toNat_le
  have h5 := b.agree.toNat_le
  have h6 := b.ack.toNat_le
  have e : ((1 * b.change.toNat + 2 * b.propose.toNat + 4 * b.role.toNat + 16 * b.learn.toNat + 32 * b.forward.toNat + 64 * b.agree.toNat + 128 * b.ack.toNat : Nat) : Int) = (b.flags : Int) := by
    unfold Bp.flags; omega
  have c := flags_at b.kind b.change b.propose b.learn b.forward b.agree b.ack b.role b.root b.cost b.bridge b.port b.age b.maxAge b.hello b.delay
    ((1 * b.change.toNat : Nat) : Int) ((2 * b.propose.toNat : Nat) : Int) ((16 * b.learn.toNat : Nat) : Int) ((32 * b.forward.toNat : Nat) : Int) ((64 * b.agree.toNat : Nat) : Int) ((128 * b.ack.toNat : Nat) : Int) ((4 * b.role.toNat : Nat) : Int) _ _ _ _ _ _ w
    (fun W => flag_any _ 1 W) (fun W => flag_any _ 2 W) (fun W => flag_any _ 16 W) (fun W => flag_any _ 32 W) (fun W => flag_any _ 64 W) (fun W => flag_any _ 128 W) (by rw [IntKind.wrap_i64]; omega)
    (or_up _ _ 1 2 rfl (by omega) (by omega) (by omega)) (or_up _ _ 2 4 rfl (by omega) (by omega) (by omega)) (or_up _ _ 4 16 rfl (by omega) (by omega) (by omega)) (or_up _ _ 5 32 rfl (by omega) (by omega) (by omega)) (or_up _ _ 6 64 rfl (by omega) (by omega) (by omega)) (or_up _ _ 7 128 rfl (by omega) (by omega) (by omega))
  rw [e] at c
  exact c
theorem rest_all : ((List.range 256).all fun n => (bits BinOp.andNot IntKind.i64 (n : Int) 129 == 0) == decide (n / 2 % 64 = 0)) = true := by kernel_rfl
theorem rest_is (n : Nat) (h : n < 256) : (bits BinOp.andNot IntKind.i64 (n : Int) 129 == 0) = decide (n / 2 % 64 = 0) := by
  have := List.all_eq_true.1 rest_all n (List.mem_range.2 h)
  simpa using this
theorem few_is (b : Bp) (h : 0 ≤ b.role ∧ b.role ≤ 3) : (bits BinOp.andNot IntKind.i64 (b.flags : Int) 129 == 0) = decide b.few := by
  rw [rest_is _ (b.flags_back h).1]
  have h1 := b.change.toNat_le
  have h6 := b.ack.toNat_le
  apply decide_eq_decide.2
  unfold Bp.few Bp.flags
  have z : ∀ y : Bool, y = false ↔ y.toNat = 0 := fun y => by cases y <;> simp
  rw [z, z, z, z]
  have h2 := b.propose.toNat_le
  have h3 := b.learn.toNat_le
  have h4 := b.forward.toNat_le
  have h5 := b.agree.toNat_le
  omega
set_option maxRecDepth 100000 in
set_option maxHeartbeats 4000000 in
theorem fine_turn (c p l f a x : Bool) (r R C B P A M H D : Int) (z : Bool) (w : World) (hz : ∀ W, (binOp .eql 24 (.agg #[.int .i64 128, .bool c, .bool p, .bool l, .bool f, .bool a, .bool x, .int .i64 r, .int .u64 R, .int .i64 C, .int .u64 B, .int .i64 P, .int .i64 A, .int .i64 M, .int .i64 H, .int .i64 D]) (.agg #[.int .i64 128, .bool false, .bool false, .bool false, .bool false, .bool false, .bool false, .int .i64 0, .int .u64 0, .int .i64 0, .int .u64 0, .int .i64 0, .int .i64 0, .int .i64 0, .int .i64 0, .int .i64 0])).run Tryd.prog W = .ok (.bool z) W) :
    Calls Tryd.prog 28 #[.agg #[.int .i64 128, .bool c, .bool p, .bool l, .bool f, .bool a, .bool x, .int .i64 r, .int .u64 R, .int .i64 C, .int .u64 B, .int .i64 P, .int .i64 A, .int .i64 M, .int .i64 H, .int .i64 D]] w fun e w' => e = .returned (.bool z) ∧ Below w.heap.size w w' := by
  go_enter Tryd.func28, Tryd.ntmps28
  go_wp2_with fail
  go_ret
  exact ⟨rfl, alloc_below _ _⟩
set_option maxRecDepth 100000 in
set_option maxHeartbeats 4000000 in
theorem fine_not (c p l f a x : Bool) (r R C B P A M H D : Int) (w : World) (k1 : Hid (∀ W, Calls Tryd.prog 44 #[.agg #[.int .i64 0, .bool c, .bool p, .bool l, .bool f, .bool a, .bool x, .int .i64 r, .int .u64 R, .int .i64 C, .int .u64 B, .int .i64 P, .int .i64 A, .int .i64 M, .int .i64 H, .int .i64 D]] W fun e W' => e = .returned (.bool false) ∧ Below W.heap.size W W')) :
    Calls Tryd.prog 28 #[.agg #[.int .i64 0, .bool c, .bool p, .bool l, .bool f, .bool a, .bool x, .int .i64 r, .int .u64 R, .int .i64 C, .int .u64 B, .int .i64 P, .int .i64 A, .int .i64 M, .int .i64 H, .int .i64 D]] w fun e w' => e = .returned (.bool false) ∧ Below w.heap.size w w' := by
  go_enter Tryd.func28, Tryd.ntmps28
  go_wp2_with fail
  refine (unhide k1 _).mono ?_
  rintro e w1 ⟨rfl, b1⟩
  have hb := bthen (alloc_below w _) b1
  clear k1 b1
  go_wp2_with fail
  go_ret
  exact ⟨rfl, hb⟩
set_option maxRecDepth 100000 in
set_option maxHeartbeats 4000000 in
theorem fine_conf (c p l f a x : Bool) (r R C B P A M H D : Int) (F : Int) (u : Bool) (w : World) (hu : (bits BinOp.andNot IntKind.i64 F 129 == 0) = u) (k1 : Hid (∀ W, Calls Tryd.prog 44 #[.agg #[.int .i64 0, .bool c, .bool p, .bool l, .bool f, .bool a, .bool x, .int .i64 r, .int .u64 R, .int .i64 C, .int .u64 B, .int .i64 P, .int .i64 A, .int .i64 M, .int .i64 H, .int .i64 D]] W fun e W' => e = .returned (.bool true) ∧ Below W.heap.size W W'))
    (k2 : Hid (∀ W, Calls Tryd.prog 45 #[.agg #[.int .i64 0, .bool c, .bool p, .bool l, .bool f, .bool a, .bool x, .int .i64 r, .int .u64 R, .int .i64 C, .int .u64 B, .int .i64 P, .int .i64 A, .int .i64 M, .int .i64 H, .int .i64 D]] W fun e W' => e = .returned (.int .i64 F) ∧ Below W.heap.size W W')) :
    Calls Tryd.prog 28 #[.agg #[.int .i64 0, .bool c, .bool p, .bool l, .bool f, .bool a, .bool x, .int .i64 r, .int .u64 R, .int .i64 C, .int .u64 B, .int .i64 P, .int .i64 A, .int .i64 M, .int .i64 H, .int .i64 D]] w fun e w' => e = .returned (.bool u) ∧ Below w.heap.size w w' := by
  go_enter Tryd.func28, Tryd.ntmps28
  go_wp2_with fail
  refine (unhide k1 _).mono ?_
  rintro e w1 ⟨rfl, b1⟩
  have hb := bthen (alloc_below w _) b1
  have hr := Below.row b1 (heap_alloc_new w _)
  clear k1 b1
  obtain ⟨c0, c1, c2, c3, c4, c5, c6, c7, c8, c9, c10, c11, c12, c13, c14, c15, _⟩ := cells16 hr
  clear hr
  go_wp2_with fail
  refine (unhide k2 _).mono ?_
  rintro e w2 ⟨rfl, b2⟩
  have hb2 := bthen hb b2
  clear k2 b2 hb
  go_wp2_with fail
  go_ret
  exact ⟨rfl, hb2⟩
set_option maxRecDepth 100000 in
set_option maxHeartbeats 4000000 in
theorem fine_rap (c p l f a x : Bool) (r R C B P A M H D : Int) (t : Bool) (w : World) (k1 : Hid (∀ W, Calls Tryd.prog 44 #[.agg #[.int .i64 2, .bool c, .bool p, .bool l, .bool f, .bool a, .bool x, .int .i64 r, .int .u64 R, .int .i64 C, .int .u64 B, .int .i64 P, .int .i64 A, .int .i64 M, .int .i64 H, .int .i64 D]] W fun e W' => e = .returned (.bool t) ∧ Below W.heap.size W W')) :
    Calls Tryd.prog 28 #[.agg #[.int .i64 2, .bool c, .bool p, .bool l, .bool f, .bool a, .bool x, .int .i64 r, .int .u64 R, .int .i64 C, .int .u64 B, .int .i64 P, .int .i64 A, .int .i64 M, .int .i64 H, .int .i64 D]] w fun e w' => e = .returned (.bool t) ∧ Below w.heap.size w w' := by
  go_enter Tryd.func28, Tryd.ntmps28
  go_wp2_with fail
  refine (unhide k1 _).mono ?_
  rintro e w1 ⟨rfl, b1⟩
  have hb := bthen (alloc_below w _) b1
  clear k1 b1
  go_wp2_with fail
  go_ret
  exact ⟨rfl, hb⟩
set_option maxRecDepth 100000 in
set_option maxHeartbeats 4000000 in
theorem fine_none (k : Int) (c p l f a x : Bool) (r R C B P A M H D : Int) (w : World) (h1 : (k == 128) = false) (h2 : (k == 0) = false) (h3 : (k == 2) = false) :
    Calls Tryd.prog 28 #[.agg #[.int .i64 k, .bool c, .bool p, .bool l, .bool f, .bool a, .bool x, .int .i64 r, .int .u64 R, .int .i64 C, .int .u64 B, .int .i64 P, .int .i64 A, .int .i64 M, .int .i64 H, .int .i64 D]] w fun e w' => e = .returned (.bool false) ∧ Below w.heap.size w w' := by
  go_enter Tryd.func28, Tryd.ntmps28
  go_wp2_with fail
  go_ret
  exact ⟨rfl, alloc_below _ _⟩
/-- may a message be -/
def Bp.good (b : Bp) : Bool := if b.kind = 128 then decide (b.change = false ∧ b.propose = false ∧ b.learn = false ∧ b.forward = false ∧ b.agree = false ∧ b.ack = false ∧ b.role = 0 ∧ b.root = 0 ∧ b.cost = 0 ∧ b.bridge = 0 ∧ b.port = 0 ∧ b.age = 0 ∧ b.maxAge = 0 ∧ b.hello = 0 ∧ b.delay = 0) else if b.kind = 0 then decide (b.room ∧ b.few) else if b.kind = 2 then decide b.room else false
theorem Bp.good_ok (b : Bp) : b.good = true ↔ b.ok := by
  unfold Bp.good Bp.ok
  by_cases h : b.kind = 128
  · rw [if_pos h, decide_eq_true_eq]
    constructor
    · intro q
      left
      cases b
      simp only at h q
      obtain ⟨rfl, rfl, rfl, rfl, rfl, rfl, rfl, rfl, rfl, rfl, rfl, rfl, rfl, rfl, rfl⟩ := q
      subst h
      rfl
    · rintro (q | q | q)
      · rw [q]; exact ⟨rfl, rfl, rfl, rfl, rfl, rfl, rfl, rfl, rfl, rfl, rfl, rfl, rfl, rfl, rfl⟩
      · omega
      · omega
  · rw [if_neg h]
    by_cases h0 : b.kind = 0
    · rw [if_pos h0, decide_eq_true_eq]
      constructor
      · intro q; exact Or.inr (Or.inl ⟨h0, q⟩)
      · rintro (q | q | q)
        · rw [q] at h; exact absurd rfl h
        · exact q.2
        · omega
    · rw [if_neg h0]
      by_cases h2 : b.kind = 2
      · rw [if_pos h2, decide_eq_true_eq]
        constructor
        · intro q; exact Or.inr (Or.inr ⟨h2, q⟩)
        · rintro (q | q | q)
          · rw [q] at h; exact absurd rfl h
          · omega
          · exact q.2
      · rw [if_neg h2]
        constructor
        · intro q; cases q
        · rintro (q | q | q)
          · rw [q] at h; exact absurd rfl h
          · omega
          · omega
theorem fine_any (b : Bp) (w : World) : Calls Tryd.prog 28 #[b.val] w fun e w' => e = .returned (.bool b.good) ∧ Below w.heap.size w w' := by
  have hr := fun W => room_any b W
  unfold Bp.good
  by_cases h : b.kind = 128
  · rw [if_pos h]
    obtain ⟨k, c, p, l, f, a, x, r, R, C, B, P, A, M, H, D⟩ := b
    simp only at h
    subst h
    exact fine_turn c p l f a x r R C B P A M H D _ w (fun W => eql_bp 128 c p l f a x r R C B P A M H D 128 false false false false false false 0 0 0 0 0 0 0 0 0 _ (decide_eq_decide.2 (by simp only [true_and, Int.natCast_eq_zero])) W)
  · rw [if_neg h]
    by_cases h0 : b.kind = 0
    · rw [if_pos h0]
      by_cases q : b.room
      · have hf := fun W => flags_any b W q.1
        have hu := few_is b q.1
        rw [decide_eq_true q] at hr
        rw [show decide (b.room ∧ b.few) = decide b.few from decide_eq_decide.2 ⟨fun z => z.2, fun z => ⟨q, z⟩⟩]
        generalize b.flags = F at hf hu
        generalize decide b.few = u at hu ⊢
        clear q
        obtain ⟨k, c, p, l, f, a, x, r, R, C, B, P, A, M, H, D⟩ := b
        simp only at h0
        subst h0
        exact fine_conf c p l f a x r R C B P A M H D F u w hu (hide hr) (hide hf)
      · rw [decide_eq_false q] at hr
        rw [decide_eq_false (fun z => q z.1)]
        clear q
        obtain ⟨k, c, p, l, f, a, x, r, R, C, B, P, A, M, H, D⟩ := b
        simp only at h0
        subst h0
        exact fine_not c p l f a x r R C B P A M H D w (hide hr)
    · rw [if_neg h0]
      by_cases h2 : b.kind = 2
      · rw [if_pos h2]
        generalize decide b.room = t at hr ⊢
        obtain ⟨k, c, p, l, f, a, x, r, R, C, B, P, A, M, H, D⟩ := b
        simp only at h2
        subst h2
        exact fine_rap c p l f a x r R C B P A M H D t w (hide hr)
      · rw [if_neg h2]
        exact fine_none b.kind b.change b.propose b.learn b.forward b.agree b.ack b.role b.root b.cost b.bridge b.port b.age b.maxAge b.hello b.delay w (by simpa using h) (by simpa using h0) (by simpa using h2)
/-- may a message be: 0, or the error's number -/
def Bp.check (b : Bp) : Int := if b.good then 0 else 91
theorem Bp.check_ok {b : Bp} : b.check = 0 ↔ b.ok := by
  rw [← Bp.good_ok]
  unfold Bp.check
  cases b.good <;> simp
set_option maxRecDepth 100000 in
set_option maxHeartbeats 4000000 in
theorem check_at (k : Int) (c p l f a x : Bool) (r R C B P A M H D : Int) (g : Bool) (w : World) (k1 : Hid (∀ W, Calls Tryd.prog 28 #[.agg #[.int .i64 k, .bool c, .bool p, .bool l, .bool f, .bool a, .bool x, .int .i64 r, .int .u64 R, .int .i64 C, .int .u64 B, .int .i64 P, .int .i64 A, .int .i64 M, .int .i64 H, .int .i64 D]] W fun e W' => e = .returned (.bool g) ∧ Below W.heap.size W W')) :
    Calls Tryd.prog 12 #[.agg #[.int .i64 k, .bool c, .bool p, .bool l, .bool f, .bool a, .bool x, .int .i64 r, .int .u64 R, .int .i64 C, .int .u64 B, .int .i64 P, .int .i64 A, .int .i64 M, .int .i64 H, .int .i64 D]] w fun e w' => e = .returned (.int .i64 (if g then 0 else 91)) ∧ Below w.heap.size w w' := by
  cases g
  all_goals
    go_enter Tryd.func12, Tryd.ntmps12
    go_wp2_with fail
    refine (unhide k1 _).mono ?_
    rintro e w1 ⟨rfl, b1⟩
    have hb := bthen (alloc_below w _) b1
    clear k1 b1
    go_wp2_with fail
    go_ret
    exact ⟨rfl, hb⟩
theorem bpCheck_any (b : Bp) (w : World) : Calls Tryd.prog 12 #[b.val] w fun e w' => e = .returned (.int .i64 b.check) ∧ Below w.heap.size w w' :=
  check_at b.kind b.change b.propose b.learn b.forward b.agree b.ack b.role b.root b.cost b.bridge b.port b.age b.maxAge b.hello b.delay _ w (hide fun W => fine_any b W)
end Go.Proofs.YtchgmbbcfjfhoaaDoor
