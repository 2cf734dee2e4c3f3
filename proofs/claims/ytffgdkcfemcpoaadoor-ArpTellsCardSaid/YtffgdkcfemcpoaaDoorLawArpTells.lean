/-
  gangwaylaw05.ArpTells answers true, for everyone who asks, and every MAC address that is told.
-/
import Derived.Test.YtffgdkcfemcpoaaDoorRow5
import Derived.Test.YtffgdkcfemcpoaaDoorEth5
import Derived.Test.YtffgdkcfemcpoaaDoorRefOwn5
namespace Go.Proofs.YtffgdkcfemcpoaaDoor.arpTells
open Go.ChangeShapes Go.WideShapes Go.ChangeAt Go.RowKit Go.Sort

theorem fields_frame : Tryd.prog.underlying 39 = some (.struct (Tryd.prog.fieldsOf 39)) := by kernel_rfl
theorem held_frame : Tryd.prog.stoodInHeld 39 = false := by kernel_rfl
theorem none_frame (W : World) : (binOp .eql 39 (.agg #[.int .u64 0, .int .u64 0, .bool false, .int .i64 0, .bool false, .int .i64 0, .int .i64 0, .string ⟨#[]⟩]) (.agg #[.int .u64 0, .int .u64 0, .bool false, .int .i64 0, .bool false, .int .i64 0, .int .i64 0, .string ⟨#[]⟩])).run Tryd.prog W = .ok (.bool true) W := by
  rw [run_eql_struct, run_equalIn_agg _ _ _ _ _ fields_frame held_frame]
  simp [go_sem, Tryd.underlying39]
set_option maxRecDepth 100000 in
set_option maxHeartbeats 1000000 in
theorem walk_not (m M i n c : Int) (R1 : ByteArray) (w : World) (hM : bits BinOp.and IntKind.u64 m 281474976710655 = M)
    (CA : Hid (∀ W, Calls Tryd.prog 14 #[.int .u64 M, .int .u32 i, .int .u32 n] W fun e W' => e = .returned (.agg #[.int .u64 281474976710655, .int .u64 M, .bool false, .int .i64 0, .bool false, .int .i64 0, .int .i64 2054, .string R1]) ∧ Below W.heap.size W W'))
    (CO : Hid (∀ W, Calls Tryd.prog 15 #[.agg #[.int .u64 281474976710655, .int .u64 M, .bool false, .int .i64 0, .bool false, .int .i64 0, .int .i64 2054, .string R1]] W fun e W' => e = .returned (.tuple #[.agg #[.int .i64 0, .int .u64 0, .int .u32 0, .int .u64 0, .int .u32 0], .bool false]) ∧ Below W.heap.size W W'))
    (OM : Hid (∀ W, Calls Tryd.prog 16 #[.int .u64 M] W fun e W' => e = .returned (.bool false) ∧ W' = W)) :
    Calls Tryd.prog 5 #[.agg #[.int .u64 m, .int .u32 i, .int .u32 n], .int .u64 c] w fun e w' => e = .returned (.bool true) ∧ Below w.heap.size w w' := by
  go_enter Tryd.func5, Tryd.ntmps5
  go_wp2_with fail
  refine (unhide CA _).mono ?_
  rintro e w1 ⟨rfl, b1⟩
  have h1 := alloc_then (o := .cells #[.int .u64 281474976710655, .int .u64 M, .bool false, .int .i64 0, .bool false, .int .i64 0, .int .i64 2054, .string R1] 39) (bthen (alloc_below w (.cells #[.int .u64 M, .int .u32 i, .int .u32 n] 35)) b1)
  have o1 := Below.row (alloc_below w1 (.cells #[.int .u64 281474976710655, .int .u64 M, .bool false, .int .i64 0, .bool false, .int .i64 0, .int .i64 2054, .string R1] 39)) (Below.row b1 (heap_alloc_new w (.cells #[.int .u64 M, .int .u32 i, .int .u32 n] 35)))
  have f1 := heap_alloc_new w1 (.cells #[.int .u64 281474976710655, .int .u64 M, .bool false, .int .i64 0, .bool false, .int .i64 0, .int .i64 2054, .string R1] 39)
  clear b1 CA hM
  go_wp2_with fail
  refine (unhide CO _).mono ?_
  rintro e w2 ⟨rfl, b2⟩
  have h2 := alloc_then (o := .cells #[.int .i64 0, .int .u64 0, .int .u32 0, .int .u64 0, .int .u32 0] 25) (bthen h1 b2)
  have o2 := Below.row (alloc_below w2 (.cells #[.int .i64 0, .int .u64 0, .int .u32 0, .int .u64 0, .int .u32 0] 25)) (Below.row b2 o1)
  have f2 := Below.row (alloc_below w2 (.cells #[.int .i64 0, .int .u64 0, .int .u32 0, .int .u64 0, .int .u32 0] 25)) (Below.row b2 f1)
  have a2 := heap_alloc_new w2 (.cells #[.int .i64 0, .int .u64 0, .int .u32 0, .int .u64 0, .int .u32 0] 25)
  clear b2 CO h1 o1 f1
  generalize w1.heap.size = F at *
  obtain ⟨k0, k1, k2, _⟩ := cells3 o2
  go_wp2_with fail
  refine (unhide OM _).mono ?_
  rintro e w3 ⟨rfl, rfl⟩
  clear OM
  go_wp2_with fail
  refine (fixed_true _).mono ?_
  rintro e w6 ⟨rfl, b6⟩
  have h7 := bthen h2 b6
  go_wp2_with fail
  go_ret
  exact ⟨rfl, h7⟩
set_option maxRecDepth 100000 in
set_option maxHeartbeats 1000000 in
theorem walk_mute (m M i n c : Int) (R1 : ByteArray) (w : World) (hM : bits BinOp.and IntKind.u64 m 281474976710655 = M)
    (CA : Hid (∀ W, Calls Tryd.prog 14 #[.int .u64 M, .int .u32 i, .int .u32 n] W fun e W' => e = .returned (.agg #[.int .u64 281474976710655, .int .u64 M, .bool false, .int .i64 0, .bool false, .int .i64 0, .int .i64 2054, .string R1]) ∧ Below W.heap.size W W'))
    (CO : Hid (∀ W, Calls Tryd.prog 15 #[.agg #[.int .u64 281474976710655, .int .u64 M, .bool false, .int .i64 0, .bool false, .int .i64 0, .int .i64 2054, .string R1]] W fun e W' => e = .returned (.tuple #[.agg #[.int .i64 1, .int .u64 M, .int .u32 i, .int .u64 0, .int .u32 n], .bool true]) ∧ Below W.heap.size W W'))
    (OM : Hid (∀ W, Calls Tryd.prog 16 #[.int .u64 M] W fun e W' => e = .returned (.bool true) ∧ W' = W))
    (CT : Hid (∀ W, Calls Tryd.prog 17 #[.agg #[.int .i64 1, .int .u64 M, .int .u32 i, .int .u64 0, .int .u32 n], .int .u64 c] W fun e W' => e = .returned (.tuple #[.agg #[.int .u64 0, .int .u64 0, .bool false, .int .i64 0, .bool false, .int .i64 0, .int .i64 0, .string ⟨#[]⟩], .int .i64 51]) ∧ Below W.heap.size W W'))
    (OC : Hid (∀ W, Calls Tryd.prog 16 #[.int .u64 c] W fun e W' => e = .returned (.bool false) ∧ W' = W)) :
    Calls Tryd.prog 5 #[.agg #[.int .u64 m, .int .u32 i, .int .u32 n], .int .u64 c] w fun e w' => e = .returned (.bool true) ∧ Below w.heap.size w w' := by
  have zer := none_frame
  go_enter Tryd.func5, Tryd.ntmps5
  go_wp2_with fail
  refine (unhide CA _).mono ?_
  rintro e w1 ⟨rfl, b1⟩
  have h1 := alloc_then (o := .cells #[.int .u64 281474976710655, .int .u64 M, .bool false, .int .i64 0, .bool false, .int .i64 0, .int .i64 2054, .string R1] 39) (bthen (alloc_below w (.cells #[.int .u64 M, .int .u32 i, .int .u32 n] 35)) b1)
  have o1 := Below.row (alloc_below w1 (.cells #[.int .u64 281474976710655, .int .u64 M, .bool false, .int .i64 0, .bool false, .int .i64 0, .int .i64 2054, .string R1] 39)) (Below.row b1 (heap_alloc_new w (.cells #[.int .u64 M, .int .u32 i, .int .u32 n] 35)))
  have f1 := heap_alloc_new w1 (.cells #[.int .u64 281474976710655, .int .u64 M, .bool false, .int .i64 0, .bool false, .int .i64 0, .int .i64 2054, .string R1] 39)
  clear b1 CA hM
  go_wp2_with fail
  refine (unhide CO _).mono ?_
  rintro e w2 ⟨rfl, b2⟩
  have h2 := alloc_then (o := .cells #[.int .i64 1, .int .u64 M, .int .u32 i, .int .u64 0, .int .u32 n] 25) (bthen h1 b2)
  have o2 := Below.row (alloc_below w2 (.cells #[.int .i64 1, .int .u64 M, .int .u32 i, .int .u64 0, .int .u32 n] 25)) (Below.row b2 o1)
  have f2 := Below.row (alloc_below w2 (.cells #[.int .i64 1, .int .u64 M, .int .u32 i, .int .u64 0, .int .u32 n] 25)) (Below.row b2 f1)
  have a2 := heap_alloc_new w2 (.cells #[.int .i64 1, .int .u64 M, .int .u32 i, .int .u64 0, .int .u32 n] 25)
  clear b2 CO h1 o1 f1
  generalize w1.heap.size = F at *
  obtain ⟨k0, k1, k2, _⟩ := cells3 o2
  go_wp2_with fail
  refine (unhide OM _).mono ?_
  rintro e w3 ⟨rfl, rfl⟩
  clear OM
  obtain ⟨c0, c1, c2, c3, c4, _⟩ := cells5 a2
  go_wp2_with fail
  refine (unhide CT _).mono ?_
  rintro e w4 ⟨rfl, b4⟩
  have h4 := alloc_then (o := .cells #[.int .u64 0, .int .u64 0, .bool false, .int .i64 0, .bool false, .int .i64 0, .int .i64 0, .string ⟨#[]⟩] 39) (bthen h2 b4)
  clear CT b4 h2 a2 o2 f2 c0 c1 c2 c3 c4 k0 k1 k2
  go_wp2_with fail
  refine (unhide OC _).mono ?_
  rintro e w5 ⟨rfl, rfl⟩
  clear OC
  go_wp2_with fail
  refine (fixed_true _).mono ?_
  rintro e w6 ⟨rfl, b6⟩
  have h7 := bthen h4 b6
  go_wp2_with fail
  go_ret
  exact ⟨rfl, h7⟩
set_option maxRecDepth 100000 in
set_option maxHeartbeats 1000000 in
theorem walk_told (m M i n c : Int) (R1 R2 E1 E2 : ByteArray) (w : World) (hM : bits BinOp.and IntKind.u64 m 281474976710655 = M)
    (CA : Hid (∀ W, Calls Tryd.prog 14 #[.int .u64 M, .int .u32 i, .int .u32 n] W fun e W' => e = .returned (.agg #[.int .u64 281474976710655, .int .u64 M, .bool false, .int .i64 0, .bool false, .int .i64 0, .int .i64 2054, .string R1]) ∧ Below W.heap.size W W'))
    (CO : Hid (∀ W, Calls Tryd.prog 15 #[.agg #[.int .u64 281474976710655, .int .u64 M, .bool false, .int .i64 0, .bool false, .int .i64 0, .int .i64 2054, .string R1]] W fun e W' => e = .returned (.tuple #[.agg #[.int .i64 1, .int .u64 M, .int .u32 i, .int .u64 0, .int .u32 n], .bool true]) ∧ Below W.heap.size W W'))
    (OM : Hid (∀ W, Calls Tryd.prog 16 #[.int .u64 M] W fun e W' => e = .returned (.bool true) ∧ W' = W))
    (CT : Hid (∀ W, Calls Tryd.prog 17 #[.agg #[.int .i64 1, .int .u64 M, .int .u32 i, .int .u64 0, .int .u32 n], .int .u64 c] W fun e W' => e = .returned (.tuple #[.agg #[.int .u64 M, .int .u64 c, .bool false, .int .i64 0, .bool false, .int .i64 0, .int .i64 2054, .string R2], .int .i64 0]) ∧ Below W.heap.size W W'))
    (CG : Hid (∀ W, Calls Tryd.prog 15 #[.agg #[.int .u64 M, .int .u64 c, .bool false, .int .i64 0, .bool false, .int .i64 0, .int .i64 2054, .string R2]] W fun e W' => e = .returned (.tuple #[.agg #[.int .i64 2, .int .u64 c, .int .u32 n, .int .u64 M, .int .u32 i], .bool true]) ∧ Below W.heap.size W W'))
    (B1 : Hid (∀ W, Calls Tryd.prog 18 #[.agg #[.int .u64 281474976710655, .int .u64 M, .bool false, .int .i64 0, .bool false, .int .i64 0, .int .i64 2054, .string R1]] W fun e W' => e = .returned (.tuple #[.string E1, .int .i64 0]) ∧ Below W.heap.size W W'))
    (B2 : Hid (∀ W, Calls Tryd.prog 18 #[.agg #[.int .u64 M, .int .u64 c, .bool false, .int .i64 0, .bool false, .int .i64 0, .int .i64 2054, .string R2]] W fun e W' => e = .returned (.tuple #[.string E2, .int .i64 0]) ∧ Below W.heap.size W W')) :
    Calls Tryd.prog 5 #[.agg #[.int .u64 m, .int .u32 i, .int .u32 n], .int .u64 c] w fun e w' => e = .returned (.bool true) ∧ Below w.heap.size w w' := by
  go_enter Tryd.func5, Tryd.ntmps5
  go_wp2_with fail
  refine (unhide CA _).mono ?_
  rintro e w1 ⟨rfl, b1⟩
  have h1 := alloc_then (o := .cells #[.int .u64 281474976710655, .int .u64 M, .bool false, .int .i64 0, .bool false, .int .i64 0, .int .i64 2054, .string R1] 39) (bthen (alloc_below w (.cells #[.int .u64 M, .int .u32 i, .int .u32 n] 35)) b1)
  have o1 := Below.row (alloc_below w1 (.cells #[.int .u64 281474976710655, .int .u64 M, .bool false, .int .i64 0, .bool false, .int .i64 0, .int .i64 2054, .string R1] 39)) (Below.row b1 (heap_alloc_new w (.cells #[.int .u64 M, .int .u32 i, .int .u32 n] 35)))
  have f1 := heap_alloc_new w1 (.cells #[.int .u64 281474976710655, .int .u64 M, .bool false, .int .i64 0, .bool false, .int .i64 0, .int .i64 2054, .string R1] 39)
  clear b1 CA hM
  go_wp2_with fail
  refine (unhide CO _).mono ?_
  rintro e w2 ⟨rfl, b2⟩
  have h2 := alloc_then (o := .cells #[.int .i64 1, .int .u64 M, .int .u32 i, .int .u64 0, .int .u32 n] 25) (bthen h1 b2)
  have o2 := Below.row (alloc_below w2 (.cells #[.int .i64 1, .int .u64 M, .int .u32 i, .int .u64 0, .int .u32 n] 25)) (Below.row b2 o1)
  have f2 := Below.row (alloc_below w2 (.cells #[.int .i64 1, .int .u64 M, .int .u32 i, .int .u64 0, .int .u32 n] 25)) (Below.row b2 f1)
  have a2 := heap_alloc_new w2 (.cells #[.int .i64 1, .int .u64 M, .int .u32 i, .int .u64 0, .int .u32 n] 25)
  clear b2 CO h1 o1 f1
  generalize w1.heap.size = F at *
  obtain ⟨k0, k1, k2, _⟩ := cells3 o2
  go_wp2_with fail
  refine (unhide OM _).mono ?_
  rintro e w3 ⟨rfl, rfl⟩
  clear OM
  obtain ⟨c0, c1, c2, c3, c4, _⟩ := cells5 a2
  go_wp2_with fail
  refine (unhide CT _).mono ?_
  rintro e w4 ⟨rfl, b4⟩
  have h4 := alloc_then (o := .cells #[.int .u64 M, .int .u64 c, .bool false, .int .i64 0, .bool false, .int .i64 0, .int .i64 2054, .string R2] 39) (bthen h2 b4)
  have o4 := Below.row (alloc_below w4 (.cells #[.int .u64 M, .int .u64 c, .bool false, .int .i64 0, .bool false, .int .i64 0, .int .i64 2054, .string R2] 39)) (Below.row b4 o2)
  have f4 := Below.row (alloc_below w4 (.cells #[.int .u64 M, .int .u64 c, .bool false, .int .i64 0, .bool false, .int .i64 0, .int .i64 2054, .string R2] 39)) (Below.row b4 f2)
  have g4 := heap_alloc_new w4 (.cells #[.int .u64 M, .int .u64 c, .bool false, .int .i64 0, .bool false, .int .i64 0, .int .i64 2054, .string R2] 39)
  clear CT b4 h2 a2 o2 f2 c0 c1 c2 c3 c4 k0 k1 k2
  go_wp2_with fail
  refine (unhide CG _).mono ?_
  rintro e w5 ⟨rfl, b5⟩
  have h5 := alloc_then (o := .cells #[.int .i64 2, .int .u64 c, .int .u32 n, .int .u64 M, .int .u32 i] 25) (bthen h4 b5)
  have o5 := Below.row (alloc_below w5 (.cells #[.int .i64 2, .int .u64 c, .int .u32 n, .int .u64 M, .int .u32 i] 25)) (Below.row b5 o4)
  have f5 := Below.row (alloc_below w5 (.cells #[.int .i64 2, .int .u64 c, .int .u32 n, .int .u64 M, .int .u32 i] 25)) (Below.row b5 f4)
  have g5 := Below.row (alloc_below w5 (.cells #[.int .i64 2, .int .u64 c, .int .u32 n, .int .u64 M, .int .u32 i] 25)) (Below.row b5 g4)
  have q5 := heap_alloc_new w5 (.cells #[.int .i64 2, .int .u64 c, .int .u32 n, .int .u64 M, .int .u32 i] 25)
  clear CG b5 h4 o4 f4 g4
  generalize w4.heap.size = G at *
  obtain ⟨x0, x1, x2, x3, x4, x5, x6, x7, _⟩ := cells8 f5
  go_wp2_with fail
  refine (unhide B1 _).mono ?_
  rintro e w6 ⟨rfl, b6⟩
  have h6 := bthen h5 b6
  have o6 := Below.row b6 o5
  have g6 := Below.row b6 g5
  have q6 := Below.row b6 q5
  clear B1 b6 h5 o5 f5 g5 q5 x0 x1 x2 x3 x4 x5 x6 x7
  generalize w5.heap.size = Q at *
  obtain ⟨x0, x1, x2, x3, x4, x5, x6, x7, _⟩ := cells8 g6
  go_wp2_with fail
  refine (unhide B2 _).mono ?_
  rintro e w7 ⟨rfl, b7⟩
  have h7 := bthen h6 b7
  have o7 := Below.row b7 o6
  have g7 := Below.row b7 g6
  have q7 := Below.row b7 q6
  clear B2 b7 h6 o6 g6 q6 x0 x1 x2 x3 x4 x5 x6 x7
  obtain ⟨x0, _⟩ := cells8 g7
  obtain ⟨k0, k1, k2, _⟩ := cells3 o7
  obtain ⟨c0, c1, c2, c3, c4, _⟩ := cells5 q7
  clear o7 g7 q7
  go_wp2_with fail
  refine (fixed_true _).mono ?_
  rintro e w8 ⟨rfl, b8⟩
  have h8 := bthen h7 b8
  go_wp2_with fail
  go_ret
  exact ⟨rfl, h8⟩
theorem mask (m : Nat) (hm : m < 18446744073709551616) : bits BinOp.and IntKind.u64 (m : Int) 281474976710655 = ((m % 281474976710656 : Nat) : Int) := by
  have h := u64_and_nat m 281474976710655 hm (by decide)
  rw [show (281474976710655 : Nat) = 2 ^ 48 - 1 from rfl, Nat.and_two_pow_sub_one_eq_mod] at h
  exact h
theorem of_not (d : Nat) (a : Ar) (h : a.check ≠ 0) (h1 : 0 ≤ a.op ∧ a.op < 65536) (h2 : a.smac < 281474976710656) (h3 : a.sip < 4294967296) (h4 : a.tmac < 281474976710656) (h5 : a.tip < 4294967296) : ofFr (arpFr d a) = (.none, false) := by
  have e := arp_of_bytes a [] h1 h2 h3 h4 h5
  rw [List.append_nil] at e
  have p : Ar.parse a.bytes = (.none, 51) := by
    unfold Ar.parse
    rw [if_neg (by rw [Ar.bytes_length]; decide), e, if_pos (Or.inr h)]
  unfold ofFr arpFr
  simp only
  rw [if_pos trivial, p]
  rfl
theorem walk (m i n c : Nat) (w : World) (hm : m < 18446744073709551616) (hi : i < 4294967296) (hn : n < 4294967296) (hc : c < 18446744073709551616) :
    Calls Tryd.prog 5 #[.agg #[.int .u64 m, .int .u32 i, .int .u32 n], .int .u64 c] w fun e w' => e = .returned (.bool true) ∧ Below w.heap.size w w' := by
  have hM := mask m hm
  have lM : m % 281474976710656 < 281474976710656 := Nat.mod_lt _ (by decide)
  generalize m % 281474976710656 = M at *
  have CA := hide fun W => ask_any M i n W (by omega) hi hn
  have OM := fun W => rown M W (by omega)
  have OC := fun W => rown c W hc
  have CO := fun W => of_any (arpFr 281474976710655 (askAr M i n)) W (by rw [arpFr_len]; decide)
  have ff : (askAr M i n).fits := ⟨by unfold askAr; simp, by unfold askAr; simp only; omega, hi, by unfold askAr; simp, hn⟩
  cases o : ownH M
  · have k : (askAr M i n).check ≠ 0 := by unfold Ar.check askAr; simp [o]
    rw [o] at OM
    rw [of_not _ _ k ⟨by unfold askAr; simp, by unfold askAr; simp⟩ lM hi (by unfold askAr; simp) hn] at CO
    exact walk_not m M i n c (bs (askAr M i n).bytes) w hM CA (hide CO) (hide OM)
  · have k : (askAr M i n).check = 0 := arp_check_of (by unfold askAr; simp) (by unfold askAr; simp) o (by unfold askAr; simp)
    rw [o] at OM
    rw [of_arpFr _ _ k hi hn] at CO
    have CT := fun W => tell_any (askAr M i n) c W ff hc
    cases oc : ownH c
    · rw [oc] at OC
      have e : tells (askAr M i n) c = (Fr.none, 51) := if_neg (fun q => by rw [oc] at q; exact Bool.noConfusion q.2.2)
      rw [e] at CT
      exact walk_mute m M i n c (bs (askAr M i n).bytes) w hM CA (hide CO) (hide OM) (hide CT) (hide OC)
    · have e : tells (askAr M i n) c = (arpFr M (tellAr (askAr M i n) c), 0) := if_pos ⟨rfl, k, oc⟩
      rw [e] at CT
      have kc : (tellAr (askAr M i n) c).check = 0 := arp_check_of (by unfold tellAr; simp) (by unfold tellAr; simp) oc lM
      have CG := fun W => of_any (arpFr M (tellAr (askAr M i n) c)) W (by rw [arpFr_len]; decide)
      rw [of_arpFr _ _ kc hn hi] at CG
      obtain ⟨E1, B1⟩ := ebuild_arp 281474976710655 (askAr M i n) (by decide) lM
      obtain ⟨E2, B2⟩ := ebuild_arp M (tellAr (askAr M i n) c) lM (own_lt oc)
      exact walk_told m M i n c (bs (askAr M i n).bytes) (bs (tellAr (askAr M i n) c).bytes) E1 E2 w hM CA (hide CO) (hide OM) (hide CT) (hide CG) (hide B1) (hide B2)
set_option maxRecDepth 100000 in
theorem lifted (os : Os) (started : os.Started) (H : Type) (enc : TypeId × Value → H) :
    ReturnsInHanded {} Tryd.checked os 5 .any (fun w args => (Rows.arpTellsSpec.pre enc Tryd.prog Tryd.f5 [] false w args ∧ laidMetH Tryd.prog [("errors.errorType", Rows.laid_errors_errorType)] w) ∧ sizedMet enc Tryd.prog Tryd.f5 (OpenSpec.ofChange Rows.arpTellsSpec) false w args)
      (Rows.arpTellsSpec.post enc Tryd.prog Tryd.f5 false true false false) := by
  refine returnsInHanded_of_change_and (C := Tryd.checked) (X := fun w _ => laidMetH Tryd.prog [("errors.errorType", Rows.laid_errors_errorType)] w) (fun _ _ _ hh h => h.of_heap hh) own started (by kernel_rfl) Tryd.func5
    (ChangeSpec.witness_at (enc := enc) (C := Tryd.checked) (os := os) (X := fun w _ => laidMetH Tryd.prog [("errors.errorType", Rows.laid_errors_errorType)] w) false
      { World.holding Tryd.prog os ⟨#[], #[], []⟩ with heap := (World.holding Tryd.prog os ⟨#[], #[], []⟩).heap.modify 0 fun
        | .cells _ t frozen => .cells #[.iface 104 (.agg #[.pointer (some ⟨1, 56, none⟩)])] t frozen
        | o => o } #[.agg #[.int .u64 0, .int .u32 0, .int .u32 0], .int .u64 0] 8 rfl (by kernel_rfl) (by kernel_rfl) (by kernel_rfl) (by kernel_rfl) (by kernel_rfl) (laid_met os _)) ?_
  intro W base args ds gs before hval0 hW _ _ _ _
  have hval : ∀ (j : Nat) t v, Tryd.f5.params[j]? = some t → args[j]? = some v → Value.okWide Tryd.prog W .any base t v := hval0
  have hW' := hW
  obtain ⟨p, q, hA0, hV0, rfl, hfz, hnd⟩ := hW
  have hA : DataW.TrodAll enc Tryd.prog W 0 (fun _ => true) true Tryd.f5.params.toList args.toList ds p := hA0
  have hV : DataW.TrodVars enc Tryd.prog W (fun _ => true) [] gs q := hV0
  rw [Tryd.params5] at hA hval
  obtain ⟨v0, v1, d0, d1, p0, p1, rfl, rfl, rfl, h0, h1⟩ := trodAll_two hA
  obtain ⟨m0, i0, n0, rfl, rfl, rfl, hm0, hi0, hn0, wm0, wi0, wn0⟩ := open_who (hval 0 35 v0 rfl rfl) h0
  obtain ⟨a1, rfl, rfl, rfl, w1⟩ := open_int Tryd.underlying22 (hval 1 22 v1 rfl rfl) h1
  have b1 := bounds_u64 w1
  obtain ⟨m1, rfl⟩ : ∃ m : Nat, a1 = m := ⟨a1.toNat, by omega⟩
  obtain ⟨rfl, rfl⟩ := trodVars_none hV
  have e1 : Rows.arpTellsSpec.fn H ([whoD m0 i0 n0, .lit (.int .u64 (m1 : Int))] ++ []) = { results := [.lit (.bool true)], args := [whoD m0 i0 n0, .lit (.int .u64 (m1 : Int))] } := by simp [Rows.arpTellsSpec]
  refine (walk m0 i0 n0 m1 W hm0 hi0 hn0 (by omega)).mono fun e W' ⟨he, hb⟩ => ?_
  subst he
  refine ⟨_, rfl, _, _, _, [], [], [], hW', ?_, ?_, ?_, hb.frame _, fun h => by cases h⟩
  · rw [e1]; exact trodAll_mk1 (shut_bool Tryd.underlying4 true)
  · rw [e1]; exact trodAll_mk2 (shut_who m0 i0 n0 wm0 wi0 wn0) (shut_int Tryd.underlying22 w1)
  · rw [e1]; rfl

theorem said : Rows.ArpTellsSaid :=
  OpenClaim.holds_of_wide 5 Tryd.f5 rfl rfl rfl rfl rfl rfl rfl ⟨rfl, rfl, rfl, rfl, rfl⟩ rfl rfl rfl rfl rfl (by kernel_rfl) Tryd.func5 (by kernel_rfl)
    (of_decide_eq_true (by kernel_rfl)) (by unfold Func.isWrapper; rw [if_neg (of_decide_eq_false (by kernel_rfl))]; exact ⟨rfl, rfl⟩)
    (fun os started H enc _ => lifted os started H enc)

theorem plain (f : FuncId) (fn : Func) (hf : Tryd.pinned.checked.prog.funcNamed Rows.arpTellsRow.func = some f) (hfn : Tryd.pinned.checked.prog.funcs[f]? = some fn) :
    true = Tryd.pinned.checked.prog.looks [] ∧ ∀ (j : Nat) t, fn.params[j]? = some t → Tryd.pinned.checked.prog.wantsStandIn t = false := by
  obtain rfl : f = 5 := Option.some.inj ((show Tryd.prog.funcNamed Rows.arpTellsRow.func = some 5 by kernel_rfl).symm.trans hf) |>.symm
  obtain rfl : fn = Tryd.f5 := (Option.some.inj (Tryd.func5.symm.trans hfn)).symm
  refine ⟨by kernel_rfl, fun j t ht => ?_⟩
  rw [Tryd.params5] at ht
  have hm := Array.mem_of_getElem? ht
  simp only [List.mem_toArray, List.mem_cons, List.not_mem_nil, or_false] at hm
  rcases hm with rfl | rfl
  · exact (show Tryd.prog.wantsStandIn 35 = false by kernel_rfl)
  · exact (show Tryd.prog.wantsStandIn 22 = false by kernel_rfl)

theorem card : Rows.ArpTellsCardSaid :=
  Claim7.holds_tied_plain_at .later [] _ _ _ _ said (fun _ h => by cases h) (by kernel_rfl) (fun _ h => by cases h) arpTells_row_tie rfl ⟨rfl, rfl⟩ (by kernel_rfl) rfl plain (by kernel_rfl)
end Go.Proofs.YtffgdkcfemcpoaaDoor.arpTells
namespace Go.Proofs.YtffgdkcfemcpoaaDoor
theorem arpTells_card_holds : Rows.ArpTellsCardSaid := arpTells.card
end Go.Proofs.YtffgdkcfemcpoaaDoor
