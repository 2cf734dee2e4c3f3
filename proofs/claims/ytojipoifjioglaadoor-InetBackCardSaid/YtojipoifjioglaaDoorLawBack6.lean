/-
  Proved: for every packet (of a body cut to 1700 bytes) and text (cut to 1700 bytes), gangwaylaw06.InetBack answers true (what is built is parsed as it was, whatever stands behind; what is parsed may be, and, built, is the beginning of the bytes, P6.1, P6.2, P6.4), and the arguments read afterwards as before. Conditions: errors.errorType holds what the program's own text lays (tied by the card).
-/
import Derived.Test.YtojipoifjioglaaDoorRow6
namespace Go.Proofs.YtojipoifjioglaaDoor.inetBack
open Go.ChangeShapes Go.WideShapes Go.ChangeAt Go.RowKit Go.Sort
open Go.ChangeMaps (open_string shut_string)

set_option maxRecDepth 100000 in
set_option maxHeartbeats 4000000 in
theorem walk_b_same (a b o t q s d : Int) (x y : Bool) (B X S0 S T Y U A P Q : ByteArray) (i n m : Nat) (a2 b2 o2 t2 q2 s2 d2 : Int) (x2 y2 : Bool) (B2 : ByteArray) (w : World) (hg : Et w)
    (CU : Hid (∀ W, Calls Tryd.prog 9 #[.agg #[.int .i64 a, .int .i64 b, .bool x, .bool y, .int .i64 o, .int .i64 t, .int .i64 q, .int .u32 s, .int .u32 d, .string B]] W fun e W' => e = .returned (.agg #[.int .i64 a, .int .i64 b, .bool x, .bool y, .int .i64 o, .int .i64 t, .int .i64 q, .int .u32 s, .int .u32 d, .string X]) ∧ Below W.heap.size W W'))
    (ms : ∀ (ts : Array TypeId) (t : TypeId) (W : World), (Builtin.min_ ts t #[.int .i64 (S0.size : Int), .int .i64 1700]).run Tryd.prog W = .ok (.int .i64 (i : Int)) W)
    (ss : ∀ W : World, (Instr.slice 9 (.string S0) none (some (.int .i64 (i : Int))) none).run Tryd.prog W = .ok (.string S) W)
    (CB : Hid (∀ W, Et W → Calls Tryd.prog 10 #[.agg #[.int .i64 a, .int .i64 b, .bool x, .bool y, .int .i64 o, .int .i64 t, .int .i64 q, .int .u32 s, .int .u32 d, .string X]] W fun e W' => e = .returned (.tuple #[.string T, .int .i64 0]) ∧ Below W.heap.size W W'))
    (hadd : ∀ W : World, (Op.stringOp .add T S).run Tryd.prog W = .ok (.string Y) W)
    (CP1 : Hid (∀ W, Et W → Calls Tryd.prog 16 #[.string Y] W fun e W' => e = .returned (.tuple #[.agg #[.int .i64 a, .int .i64 b, .bool x, .bool y, .int .i64 o, .int .i64 t, .int .i64 q, .int .u32 s, .int .u32 d, .string X], .int .i64 0]) ∧ Below W.heap.size W W'))
    (CP : Hid (∀ W, Et W → Calls Tryd.prog 16 #[.string S] W fun e W' => e = .returned (.tuple #[.agg #[.int .i64 a2, .int .i64 b2, .bool x2, .bool y2, .int .i64 o2, .int .i64 t2, .int .i64 q2, .int .u32 s2, .int .u32 d2, .string B2], .int .i64 0]) ∧ Below W.heap.size W W'))
    (CB2 : Hid (∀ W, Calls Tryd.prog 10 #[.agg #[.int .i64 a2, .int .i64 b2, .bool x2, .bool y2, .int .i64 o2, .int .i64 t2, .int .i64 q2, .int .u32 s2, .int .u32 d2, .string B2]] W fun e W' => e = .returned (.tuple #[.string U, .int .i64 0]) ∧ Below W.heap.size W W'))
    (hU : U.size = n) (hS : S.size = m) (hn : (20 : Int) ≤ (n : Int)) (hm : (n : Int) ≤ (m : Int))
    (z1 : ∀ W : World, (Instr.slice 9 (.string U) (some (.int .i64 10)) (some (.int .i64 12)) none).run Tryd.prog W = .ok (.string A) W)
    (z2 : ∀ W : World, (Instr.slice 9 (.string S) (some (.int .i64 10)) (some (.int .i64 12)) none).run Tryd.prog W = .ok (.string A) W)
    (z3 : ∀ W : World, (Instr.slice 9 (.string U) none (some (.int .i64 10)) none).run Tryd.prog W = .ok (.string P) W)
    (z4 : ∀ W : World, (Instr.slice 9 (.string S) none (some (.int .i64 10)) none).run Tryd.prog W = .ok (.string P) W)
    (z5 : ∀ W : World, (Instr.slice 9 (.string U) (some (.int .i64 12)) none none).run Tryd.prog W = .ok (.string Q) W)
    (z6 : ∀ W : World, (Instr.slice 9 (.string S) (some (.int .i64 12)) (some (.int .i64 (n : Int))) none).run Tryd.prog W = .ok (.string Q) W)
    (CF : Hid (∀ W, Et W → Calls Tryd.prog 12 #[] W fun e W' => e = .returned (.bool true) ∧ Below W.heap.size W W')) :
    Calls Tryd.prog 5 #[.agg #[.int .i64 a, .int .i64 b, .bool x, .bool y, .int .i64 o, .int .i64 t, .int .i64 q, .int .u32 s, .int .u32 d, .string B], .string S0] w fun e w' => e = .returned (.bool true) ∧ Below w.heap.size w w' := by
  have oth := other_ip a b o t q s d x y X
  go_enter Tryd.func5, Tryd.ntmps5
  go_wp2_with fail
  refine (unhide CU _).mono ?_
  rintro e w1 ⟨rfl, b1⟩
  have h1 := bthen (alloc_below w _) b1
  have r1 := Below.row b1 (heap_alloc_new w _)
  obtain ⟨c0, c1, c2, c3, c4, c5, c6, c7, c8, c9, f0, f1, f2, f3, f4, f5, f6, f7, f8, f9⟩ := cells10 r1
  have h2 := below10 (v0 := .int .i64 a) (v1 := .int .i64 b) (v2 := .bool x) (v3 := .bool y) (v4 := .int .i64 o) (v5 := .int .i64 t) (v6 := .int .i64 q) (v7 := .int .u32 s) (v8 := .int .u32 d) (v9 := .string X) h1 (Nat.le_refl _)
  have r2 := set10 (v0 := .int .i64 a) (v1 := .int .i64 b) (v2 := .bool x) (v3 := .bool y) (v4 := .int .i64 o) (v5 := .int .i64 t) (v6 := .int .i64 q) (v7 := .int .u32 s) (v8 := .int .u32 d) (v9 := .string X) r1
  clear b1 CU
  go_wp2_with fail
  generalize ((((((((((w1.setCell ⟨w.heap.size, 0, none⟩ (.int .i64 a)).setCell ⟨w.heap.size, 1, none⟩ (.int .i64 b)).setCell ⟨w.heap.size, 2, none⟩ (.bool x)).setCell ⟨w.heap.size, 3, none⟩ (.bool y)).setCell ⟨w.heap.size, 4, none⟩ (.int .i64 o)).setCell ⟨w.heap.size, 5, none⟩ (.int .i64 t)).setCell ⟨w.heap.size, 6, none⟩ (.int .i64 q)).setCell ⟨w.heap.size, 7, none⟩ (.int .u32 s)).setCell ⟨w.heap.size, 8, none⟩ (.int .u32 d)).setCell ⟨w.heap.size, 9, none⟩ (.string X)) = w2 at *
  clear h1 r1 c0 c1 c2 c3 c4 c5 c6 c7 c8 c9 f0 f1 f2 f3 f4 f5 f6 f7 f8 f9
  refine (unhide CB _ (hg.next h2)).mono ?_
  rintro e w3 ⟨rfl, b3⟩
  have h3 := bthen h2 b3
  have r3 := Below.row b3 r2
  clear b3 CB h2 r2
  go_wp2_with fail
  refine (unhide CP1 _ (hg.next h3)).mono ?_
  rintro e w4 ⟨rfl, b4⟩
  have h4 := alloc_then (o := .cells #[.int .i64 a, .int .i64 b, .bool x, .bool y, .int .i64 o, .int .i64 t, .int .i64 q, .int .u32 s, .int .u32 d, .string X] 24) (bthen h3 b4)
  have r4 := Below.row (alloc_below w4 (.cells #[.int .i64 a, .int .i64 b, .bool x, .bool y, .int .i64 o, .int .i64 t, .int .i64 q, .int .u32 s, .int .u32 d, .string X] 24)) (Below.row b4 r3)
  clear b4 CP1 h3 r3
  obtain ⟨c0, c1, c2, c3, c4, c5, c6, c7, c8, c9, _⟩ := cells10 r4
  go_wp2_with fail
  refine (unhide CP _ (hg.next h4)).mono ?_
  rintro e w5 ⟨rfl, b5⟩
  have h5 := alloc_then (o := .cells #[.int .i64 a2, .int .i64 b2, .bool x2, .bool y2, .int .i64 o2, .int .i64 t2, .int .i64 q2, .int .u32 s2, .int .u32 d2, .string B2] 24) (bthen h4 b5)
  clear b5 CP h4 r4 c0 c1 c2 c3 c4 c5 c6 c7 c8 c9
  go_wp2_with fail
  refine (unhide CB2 _).mono ?_
  rintro e w6 ⟨rfl, b6⟩
  have h6 := bthen h5 b6
  clear b6 h5 CB2
  go_wp2_with fail
  refine wp_region_quiet_below (by kernel_rfl) (by kernel_rfl) ?_
  repeat (go_big_quiet_step (fail))
  refine wpQuiet_nil ?_
  rintro _ ⟨⟨dq, osq⟩, rfl⟩
  have h7 := grown_then h6 dq osq
  generalize grow (redrawn w6 dq) osq = w7 at *
  go_wp2_with fail
  have cF := at_grownE (unhide CF) w7 (hg.next h7)
  clear CF
  refine wp_region_quiet_below (by kernel_rfl) (by kernel_rfl) ?_
  repeat (go_big_quiet_step ((go_at_call 12; exact cF _ _)))
  refine wpQuiet_nil ?_
  rintro _ ⟨⟨dr, osr⟩, rfl⟩
  go_wp2
  go_ret
  exact ⟨rfl, grown_then h7 dr osr⟩
set_option maxRecDepth 100000 in
set_option maxHeartbeats 4000000 in
theorem walk_b_zero (a b o t q s d : Int) (x y : Bool) (B X S0 S T Y U P Q : ByteArray) (i n m : Nat) (a2 b2 o2 t2 q2 s2 d2 : Int) (x2 y2 : Bool) (B2 : ByteArray) (w : World) (hg : Et w)
    (CU : Hid (∀ W, Calls Tryd.prog 9 #[.agg #[.int .i64 a, .int .i64 b, .bool x, .bool y, .int .i64 o, .int .i64 t, .int .i64 q, .int .u32 s, .int .u32 d, .string B]] W fun e W' => e = .returned (.agg #[.int .i64 a, .int .i64 b, .bool x, .bool y, .int .i64 o, .int .i64 t, .int .i64 q, .int .u32 s, .int .u32 d, .string X]) ∧ Below W.heap.size W W'))
    (ms : ∀ (ts : Array TypeId) (t : TypeId) (W : World), (Builtin.min_ ts t #[.int .i64 (S0.size : Int), .int .i64 1700]).run Tryd.prog W = .ok (.int .i64 (i : Int)) W)
    (ss : ∀ W : World, (Instr.slice 9 (.string S0) none (some (.int .i64 (i : Int))) none).run Tryd.prog W = .ok (.string S) W)
    (CB : Hid (∀ W, Et W → Calls Tryd.prog 10 #[.agg #[.int .i64 a, .int .i64 b, .bool x, .bool y, .int .i64 o, .int .i64 t, .int .i64 q, .int .u32 s, .int .u32 d, .string X]] W fun e W' => e = .returned (.tuple #[.string T, .int .i64 0]) ∧ Below W.heap.size W W'))
    (hadd : ∀ W : World, (Op.stringOp .add T S).run Tryd.prog W = .ok (.string Y) W)
    (CP1 : Hid (∀ W, Et W → Calls Tryd.prog 16 #[.string Y] W fun e W' => e = .returned (.tuple #[.agg #[.int .i64 a, .int .i64 b, .bool x, .bool y, .int .i64 o, .int .i64 t, .int .i64 q, .int .u32 s, .int .u32 d, .string X], .int .i64 0]) ∧ Below W.heap.size W W'))
    (CP : Hid (∀ W, Et W → Calls Tryd.prog 16 #[.string S] W fun e W' => e = .returned (.tuple #[.agg #[.int .i64 a2, .int .i64 b2, .bool x2, .bool y2, .int .i64 o2, .int .i64 t2, .int .i64 q2, .int .u32 s2, .int .u32 d2, .string B2], .int .i64 0]) ∧ Below W.heap.size W W'))
    (CB2 : Hid (∀ W, Calls Tryd.prog 10 #[.agg #[.int .i64 a2, .int .i64 b2, .bool x2, .bool y2, .int .i64 o2, .int .i64 t2, .int .i64 q2, .int .u32 s2, .int .u32 d2, .string B2]] W fun e W' => e = .returned (.tuple #[.string U, .int .i64 0]) ∧ Below W.heap.size W W'))
    (hU : U.size = n) (hS : S.size = m) (hn : (20 : Int) ≤ (n : Int)) (hm : (n : Int) ≤ (m : Int))
    (z1 : ∀ W : World, (Instr.slice 9 (.string U) (some (.int .i64 10)) (some (.int .i64 12)) none).run Tryd.prog W = .ok (.string ⟨#[0, 0]⟩) W)
    (z2 : ∀ W : World, (Instr.slice 9 (.string S) (some (.int .i64 10)) (some (.int .i64 12)) none).run Tryd.prog W = .ok (.string ⟨#[255, 255]⟩) W)
    (z3 : ∀ W : World, (Instr.slice 9 (.string U) none (some (.int .i64 10)) none).run Tryd.prog W = .ok (.string P) W)
    (z4 : ∀ W : World, (Instr.slice 9 (.string S) none (some (.int .i64 10)) none).run Tryd.prog W = .ok (.string P) W)
    (z5 : ∀ W : World, (Instr.slice 9 (.string U) (some (.int .i64 12)) none none).run Tryd.prog W = .ok (.string Q) W)
    (z6 : ∀ W : World, (Instr.slice 9 (.string S) (some (.int .i64 12)) (some (.int .i64 (n : Int))) none).run Tryd.prog W = .ok (.string Q) W)
    (CF : Hid (∀ W, Et W → Calls Tryd.prog 12 #[] W fun e W' => e = .returned (.bool true) ∧ Below W.heap.size W W')) :
    Calls Tryd.prog 5 #[.agg #[.int .i64 a, .int .i64 b, .bool x, .bool y, .int .i64 o, .int .i64 t, .int .i64 q, .int .u32 s, .int .u32 d, .string B], .string S0] w fun e w' => e = .returned (.bool true) ∧ Below w.heap.size w w' := by
  have oth := other_ip a b o t q s d x y X
  go_enter Tryd.func5, Tryd.ntmps5
  go_wp2_with fail
  refine (unhide CU _).mono ?_
  rintro e w1 ⟨rfl, b1⟩
  have h1 := bthen (alloc_below w _) b1
  have r1 := Below.row b1 (heap_alloc_new w _)
  obtain ⟨c0, c1, c2, c3, c4, c5, c6, c7, c8, c9, f0, f1, f2, f3, f4, f5, f6, f7, f8, f9⟩ := cells10 r1
  have h2 := below10 (v0 := .int .i64 a) (v1 := .int .i64 b) (v2 := .bool x) (v3 := .bool y) (v4 := .int .i64 o) (v5 := .int .i64 t) (v6 := .int .i64 q) (v7 := .int .u32 s) (v8 := .int .u32 d) (v9 := .string X) h1 (Nat.le_refl _)
  have r2 := set10 (v0 := .int .i64 a) (v1 := .int .i64 b) (v2 := .bool x) (v3 := .bool y) (v4 := .int .i64 o) (v5 := .int .i64 t) (v6 := .int .i64 q) (v7 := .int .u32 s) (v8 := .int .u32 d) (v9 := .string X) r1
  clear b1 CU
  go_wp2_with fail
  generalize ((((((((((w1.setCell ⟨w.heap.size, 0, none⟩ (.int .i64 a)).setCell ⟨w.heap.size, 1, none⟩ (.int .i64 b)).setCell ⟨w.heap.size, 2, none⟩ (.bool x)).setCell ⟨w.heap.size, 3, none⟩ (.bool y)).setCell ⟨w.heap.size, 4, none⟩ (.int .i64 o)).setCell ⟨w.heap.size, 5, none⟩ (.int .i64 t)).setCell ⟨w.heap.size, 6, none⟩ (.int .i64 q)).setCell ⟨w.heap.size, 7, none⟩ (.int .u32 s)).setCell ⟨w.heap.size, 8, none⟩ (.int .u32 d)).setCell ⟨w.heap.size, 9, none⟩ (.string X)) = w2 at *
  clear h1 r1 c0 c1 c2 c3 c4 c5 c6 c7 c8 c9 f0 f1 f2 f3 f4 f5 f6 f7 f8 f9
  refine (unhide CB _ (hg.next h2)).mono ?_
  rintro e w3 ⟨rfl, b3⟩
  have h3 := bthen h2 b3
  have r3 := Below.row b3 r2
  clear b3 CB h2 r2
  go_wp2_with fail
  refine (unhide CP1 _ (hg.next h3)).mono ?_
  rintro e w4 ⟨rfl, b4⟩
  have h4 := alloc_then (o := .cells #[.int .i64 a, .int .i64 b, .bool x, .bool y, .int .i64 o, .int .i64 t, .int .i64 q, .int .u32 s, .int .u32 d, .string X] 24) (bthen h3 b4)
  have r4 := Below.row (alloc_below w4 (.cells #[.int .i64 a, .int .i64 b, .bool x, .bool y, .int .i64 o, .int .i64 t, .int .i64 q, .int .u32 s, .int .u32 d, .string X] 24)) (Below.row b4 r3)
  clear b4 CP1 h3 r3
  obtain ⟨c0, c1, c2, c3, c4, c5, c6, c7, c8, c9, _⟩ := cells10 r4
  go_wp2_with fail
  refine (unhide CP _ (hg.next h4)).mono ?_
  rintro e w5 ⟨rfl, b5⟩
  have h5 := alloc_then (o := .cells #[.int .i64 a2, .int .i64 b2, .bool x2, .bool y2, .int .i64 o2, .int .i64 t2, .int .i64 q2, .int .u32 s2, .int .u32 d2, .string B2] 24) (bthen h4 b5)
  clear b5 CP h4 r4 c0 c1 c2 c3 c4 c5 c6 c7 c8 c9
  go_wp2_with fail
  refine (unhide CB2 _).mono ?_
  rintro e w6 ⟨rfl, b6⟩
  have h6 := bthen h5 b6
  clear b6 h5 CB2
  go_wp2_with fail
  refine wp_region_quiet_below (by kernel_rfl) (by kernel_rfl) ?_
  repeat (go_big_quiet_step (fail))
  refine wpQuiet_nil ?_
  rintro _ ⟨⟨dq, osq⟩, rfl⟩
  have h7 := grown_then h6 dq osq
  generalize grow (redrawn w6 dq) osq = w7 at *
  go_wp2_with fail
  have cF := at_grownE (unhide CF) w7 (hg.next h7)
  clear CF
  refine wp_region_quiet_below (by kernel_rfl) (by kernel_rfl) ?_
  repeat (go_big_quiet_step ((go_at_call 12; exact cF _ _)))
  refine wpQuiet_nil ?_
  rintro _ ⟨⟨dr, osr⟩, rfl⟩
  go_wp2
  go_ret
  exact ⟨rfl, grown_then h7 dr osr⟩
set_option maxRecDepth 100000 in
set_option maxHeartbeats 4000000 in
theorem walk_b_bad (a b o t q s d : Int) (x y : Bool) (B X S0 S T Y : ByteArray) (i : Nat) (c : Int) (w : World) (hg : Et w)
    (CU : Hid (∀ W, Calls Tryd.prog 9 #[.agg #[.int .i64 a, .int .i64 b, .bool x, .bool y, .int .i64 o, .int .i64 t, .int .i64 q, .int .u32 s, .int .u32 d, .string B]] W fun e W' => e = .returned (.agg #[.int .i64 a, .int .i64 b, .bool x, .bool y, .int .i64 o, .int .i64 t, .int .i64 q, .int .u32 s, .int .u32 d, .string X]) ∧ Below W.heap.size W W'))
    (ms : ∀ (ts : Array TypeId) (t : TypeId) (W : World), (Builtin.min_ ts t #[.int .i64 (S0.size : Int), .int .i64 1700]).run Tryd.prog W = .ok (.int .i64 (i : Int)) W)
    (ss : ∀ W : World, (Instr.slice 9 (.string S0) none (some (.int .i64 (i : Int))) none).run Tryd.prog W = .ok (.string S) W)
    (CB : Hid (∀ W, Et W → Calls Tryd.prog 10 #[.agg #[.int .i64 a, .int .i64 b, .bool x, .bool y, .int .i64 o, .int .i64 t, .int .i64 q, .int .u32 s, .int .u32 d, .string X]] W fun e W' => e = .returned (.tuple #[.string T, .int .i64 0]) ∧ Below W.heap.size W W'))
    (hadd : ∀ W : World, (Op.stringOp .add T S).run Tryd.prog W = .ok (.string Y) W)
    (CP1 : Hid (∀ W, Et W → Calls Tryd.prog 16 #[.string Y] W fun e W' => e = .returned (.tuple #[.agg #[.int .i64 a, .int .i64 b, .bool x, .bool y, .int .i64 o, .int .i64 t, .int .i64 q, .int .u32 s, .int .u32 d, .string X], .int .i64 0]) ∧ Below W.heap.size W W'))
    (hc : (c != 0) = true)
    (CP : Hid (∀ W, Et W → Calls Tryd.prog 16 #[.string S] W fun e W' => e = .returned (.tuple #[.agg #[.int .i64 0, .int .i64 0, .bool false, .bool false, .int .i64 0, .int .i64 0, .int .i64 0, .int .u32 0, .int .u32 0, .string ⟨#[]⟩], .int .i64 c]) ∧ Below W.heap.size W W'))
    (CF : Hid (∀ W, Et W → Calls Tryd.prog 12 #[] W fun e W' => e = .returned (.bool true) ∧ Below W.heap.size W W')) :
    Calls Tryd.prog 5 #[.agg #[.int .i64 a, .int .i64 b, .bool x, .bool y, .int .i64 o, .int .i64 t, .int .i64 q, .int .u32 s, .int .u32 d, .string B], .string S0] w fun e w' => e = .returned (.bool true) ∧ Below w.heap.size w w' := by
  have zer := same_ip 0 0 0 0 0 0 0 false false ⟨#[]⟩
  have oth := other_ip a b o t q s d x y X
  go_enter Tryd.func5, Tryd.ntmps5
  go_wp2_with fail
  refine (unhide CU _).mono ?_
  rintro e w1 ⟨rfl, b1⟩
  have h1 := bthen (alloc_below w _) b1
  have r1 := Below.row b1 (heap_alloc_new w _)
  obtain ⟨c0, c1, c2, c3, c4, c5, c6, c7, c8, c9, f0, f1, f2, f3, f4, f5, f6, f7, f8, f9⟩ := cells10 r1
  have h2 := below10 (v0 := .int .i64 a) (v1 := .int .i64 b) (v2 := .bool x) (v3 := .bool y) (v4 := .int .i64 o) (v5 := .int .i64 t) (v6 := .int .i64 q) (v7 := .int .u32 s) (v8 := .int .u32 d) (v9 := .string X) h1 (Nat.le_refl _)
  have r2 := set10 (v0 := .int .i64 a) (v1 := .int .i64 b) (v2 := .bool x) (v3 := .bool y) (v4 := .int .i64 o) (v5 := .int .i64 t) (v6 := .int .i64 q) (v7 := .int .u32 s) (v8 := .int .u32 d) (v9 := .string X) r1
  clear b1 CU
  go_wp2_with fail
  generalize ((((((((((w1.setCell ⟨w.heap.size, 0, none⟩ (.int .i64 a)).setCell ⟨w.heap.size, 1, none⟩ (.int .i64 b)).setCell ⟨w.heap.size, 2, none⟩ (.bool x)).setCell ⟨w.heap.size, 3, none⟩ (.bool y)).setCell ⟨w.heap.size, 4, none⟩ (.int .i64 o)).setCell ⟨w.heap.size, 5, none⟩ (.int .i64 t)).setCell ⟨w.heap.size, 6, none⟩ (.int .i64 q)).setCell ⟨w.heap.size, 7, none⟩ (.int .u32 s)).setCell ⟨w.heap.size, 8, none⟩ (.int .u32 d)).setCell ⟨w.heap.size, 9, none⟩ (.string X)) = w2 at *
  clear h1 r1 c0 c1 c2 c3 c4 c5 c6 c7 c8 c9 f0 f1 f2 f3 f4 f5 f6 f7 f8 f9
  refine (unhide CB _ (hg.next h2)).mono ?_
  rintro e w3 ⟨rfl, b3⟩
  have h3 := bthen h2 b3
  have r3 := Below.row b3 r2
  clear b3 CB h2 r2
  go_wp2_with fail
  refine (unhide CP1 _ (hg.next h3)).mono ?_
  rintro e w4 ⟨rfl, b4⟩
  have h4 := alloc_then (o := .cells #[.int .i64 a, .int .i64 b, .bool x, .bool y, .int .i64 o, .int .i64 t, .int .i64 q, .int .u32 s, .int .u32 d, .string X] 24) (bthen h3 b4)
  have r4 := Below.row (alloc_below w4 (.cells #[.int .i64 a, .int .i64 b, .bool x, .bool y, .int .i64 o, .int .i64 t, .int .i64 q, .int .u32 s, .int .u32 d, .string X] 24)) (Below.row b4 r3)
  clear b4 CP1 h3 r3
  obtain ⟨c0, c1, c2, c3, c4, c5, c6, c7, c8, c9, _⟩ := cells10 r4
  go_wp2_with fail
  refine (unhide CP _ (hg.next h4)).mono ?_
  rintro e w5 ⟨rfl, b5⟩
  have h5 := alloc_then (o := .cells #[.int .i64 0, .int .i64 0, .bool false, .bool false, .int .i64 0, .int .i64 0, .int .i64 0, .int .u32 0, .int .u32 0, .string ⟨#[]⟩] 24) (bthen h4 b5)
  clear b5 CP h4 r4 c0 c1 c2 c3 c4 c5 c6 c7 c8 c9
  go_wp2_with fail
  refine (unhide CF _ (hg.next h5)).mono ?_
  rintro e w9 ⟨rfl, b9⟩
  have h9 := bthen h5 b9
  go_wp2_with fail
  go_ret
  exact ⟨rfl, h9⟩
set_option maxRecDepth 100000 in
set_option maxHeartbeats 4000000 in
theorem walk_n_same (a b o t q s d : Int) (x y : Bool) (B X S0 S T U A P Q : ByteArray) (i n m : Nat) (k : Int) (a2 b2 o2 t2 q2 s2 d2 : Int) (x2 y2 : Bool) (B2 : ByteArray) (w : World) (hg : Et w)
    (CU : Hid (∀ W, Calls Tryd.prog 9 #[.agg #[.int .i64 a, .int .i64 b, .bool x, .bool y, .int .i64 o, .int .i64 t, .int .i64 q, .int .u32 s, .int .u32 d, .string B]] W fun e W' => e = .returned (.agg #[.int .i64 a, .int .i64 b, .bool x, .bool y, .int .i64 o, .int .i64 t, .int .i64 q, .int .u32 s, .int .u32 d, .string X]) ∧ Below W.heap.size W W'))
    (ms : ∀ (ts : Array TypeId) (t : TypeId) (W : World), (Builtin.min_ ts t #[.int .i64 (S0.size : Int), .int .i64 1700]).run Tryd.prog W = .ok (.int .i64 (i : Int)) W)
    (ss : ∀ W : World, (Instr.slice 9 (.string S0) none (some (.int .i64 (i : Int))) none).run Tryd.prog W = .ok (.string S) W)
    (CB : Hid (∀ W, Et W → Calls Tryd.prog 10 #[.agg #[.int .i64 a, .int .i64 b, .bool x, .bool y, .int .i64 o, .int .i64 t, .int .i64 q, .int .u32 s, .int .u32 d, .string X]] W fun e W' => e = .returned (.tuple #[.string T, .int .i64 k]) ∧ Below W.heap.size W W'))
    (hk : (k == 0) = false)
    (CP : Hid (∀ W, Et W → Calls Tryd.prog 16 #[.string S] W fun e W' => e = .returned (.tuple #[.agg #[.int .i64 a2, .int .i64 b2, .bool x2, .bool y2, .int .i64 o2, .int .i64 t2, .int .i64 q2, .int .u32 s2, .int .u32 d2, .string B2], .int .i64 0]) ∧ Below W.heap.size W W'))
    (CB2 : Hid (∀ W, Calls Tryd.prog 10 #[.agg #[.int .i64 a2, .int .i64 b2, .bool x2, .bool y2, .int .i64 o2, .int .i64 t2, .int .i64 q2, .int .u32 s2, .int .u32 d2, .string B2]] W fun e W' => e = .returned (.tuple #[.string U, .int .i64 0]) ∧ Below W.heap.size W W'))
    (hU : U.size = n) (hS : S.size = m) (hn : (20 : Int) ≤ (n : Int)) (hm : (n : Int) ≤ (m : Int))
    (z1 : ∀ W : World, (Instr.slice 9 (.string U) (some (.int .i64 10)) (some (.int .i64 12)) none).run Tryd.prog W = .ok (.string A) W)
    (z2 : ∀ W : World, (Instr.slice 9 (.string S) (some (.int .i64 10)) (some (.int .i64 12)) none).run Tryd.prog W = .ok (.string A) W)
    (z3 : ∀ W : World, (Instr.slice 9 (.string U) none (some (.int .i64 10)) none).run Tryd.prog W = .ok (.string P) W)
    (z4 : ∀ W : World, (Instr.slice 9 (.string S) none (some (.int .i64 10)) none).run Tryd.prog W = .ok (.string P) W)
    (z5 : ∀ W : World, (Instr.slice 9 (.string U) (some (.int .i64 12)) none none).run Tryd.prog W = .ok (.string Q) W)
    (z6 : ∀ W : World, (Instr.slice 9 (.string S) (some (.int .i64 12)) (some (.int .i64 (n : Int))) none).run Tryd.prog W = .ok (.string Q) W)
    (CF : Hid (∀ W, Et W → Calls Tryd.prog 12 #[] W fun e W' => e = .returned (.bool true) ∧ Below W.heap.size W W')) :
    Calls Tryd.prog 5 #[.agg #[.int .i64 a, .int .i64 b, .bool x, .bool y, .int .i64 o, .int .i64 t, .int .i64 q, .int .u32 s, .int .u32 d, .string B], .string S0] w fun e w' => e = .returned (.bool true) ∧ Below w.heap.size w w' := by
  go_enter Tryd.func5, Tryd.ntmps5
  go_wp2_with fail
  refine (unhide CU _).mono ?_
  rintro e w1 ⟨rfl, b1⟩
  have h1 := bthen (alloc_below w _) b1
  have r1 := Below.row b1 (heap_alloc_new w _)
  obtain ⟨c0, c1, c2, c3, c4, c5, c6, c7, c8, c9, f0, f1, f2, f3, f4, f5, f6, f7, f8, f9⟩ := cells10 r1
  have h2 := below10 (v0 := .int .i64 a) (v1 := .int .i64 b) (v2 := .bool x) (v3 := .bool y) (v4 := .int .i64 o) (v5 := .int .i64 t) (v6 := .int .i64 q) (v7 := .int .u32 s) (v8 := .int .u32 d) (v9 := .string X) h1 (Nat.le_refl _)
  have r2 := set10 (v0 := .int .i64 a) (v1 := .int .i64 b) (v2 := .bool x) (v3 := .bool y) (v4 := .int .i64 o) (v5 := .int .i64 t) (v6 := .int .i64 q) (v7 := .int .u32 s) (v8 := .int .u32 d) (v9 := .string X) r1
  clear b1 CU
  go_wp2_with fail
  generalize ((((((((((w1.setCell ⟨w.heap.size, 0, none⟩ (.int .i64 a)).setCell ⟨w.heap.size, 1, none⟩ (.int .i64 b)).setCell ⟨w.heap.size, 2, none⟩ (.bool x)).setCell ⟨w.heap.size, 3, none⟩ (.bool y)).setCell ⟨w.heap.size, 4, none⟩ (.int .i64 o)).setCell ⟨w.heap.size, 5, none⟩ (.int .i64 t)).setCell ⟨w.heap.size, 6, none⟩ (.int .i64 q)).setCell ⟨w.heap.size, 7, none⟩ (.int .u32 s)).setCell ⟨w.heap.size, 8, none⟩ (.int .u32 d)).setCell ⟨w.heap.size, 9, none⟩ (.string X)) = w2 at *
  clear h1 r1 c0 c1 c2 c3 c4 c5 c6 c7 c8 c9 f0 f1 f2 f3 f4 f5 f6 f7 f8 f9
  refine (unhide CB _ (hg.next h2)).mono ?_
  rintro e w3 ⟨rfl, b3⟩
  have h3 := bthen h2 b3
  have r3 := Below.row b3 r2
  clear b3 CB h2 r2
  go_wp2_with fail
  refine (unhide CP _ (hg.next h3)).mono ?_
  rintro e w5 ⟨rfl, b5⟩
  have h5 := alloc_then (o := .cells #[.int .i64 a2, .int .i64 b2, .bool x2, .bool y2, .int .i64 o2, .int .i64 t2, .int .i64 q2, .int .u32 s2, .int .u32 d2, .string B2] 24) (bthen h3 b5)
  clear b5 CP h3 r3
  go_wp2_with fail
  refine (unhide CB2 _).mono ?_
  rintro e w6 ⟨rfl, b6⟩
  have h6 := bthen h5 b6
  clear b6 h5 CB2
  go_wp2_with fail
  refine wp_region_quiet_below (by kernel_rfl) (by kernel_rfl) ?_
  repeat (go_big_quiet_step (fail))
  refine wpQuiet_nil ?_
  rintro _ ⟨⟨dq, osq⟩, rfl⟩
  have h7 := grown_then h6 dq osq
  generalize grow (redrawn w6 dq) osq = w7 at *
  go_wp2_with fail
  have cF := at_grownE (unhide CF) w7 (hg.next h7)
  clear CF
  refine wp_region_quiet_below (by kernel_rfl) (by kernel_rfl) ?_
  repeat (go_big_quiet_step ((go_at_call 12; exact cF _ _)))
  refine wpQuiet_nil ?_
  rintro _ ⟨⟨dr, osr⟩, rfl⟩
  go_wp2
  go_ret
  exact ⟨rfl, grown_then h7 dr osr⟩
set_option maxRecDepth 100000 in
set_option maxHeartbeats 4000000 in
theorem walk_n_zero (a b o t q s d : Int) (x y : Bool) (B X S0 S T U P Q : ByteArray) (i n m : Nat) (k : Int) (a2 b2 o2 t2 q2 s2 d2 : Int) (x2 y2 : Bool) (B2 : ByteArray) (w : World) (hg : Et w)
    (CU : Hid (∀ W, Calls Tryd.prog 9 #[.agg #[.int .i64 a, .int .i64 b, .bool x, .bool y, .int .i64 o, .int .i64 t, .int .i64 q, .int .u32 s, .int .u32 d, .string B]] W fun e W' => e = .returned (.agg #[.int .i64 a, .int .i64 b, .bool x, .bool y, .int .i64 o, .int .i64 t, .int .i64 q, .int .u32 s, .int .u32 d, .string X]) ∧ Below W.heap.size W W'))
    (ms : ∀ (ts : Array TypeId) (t : TypeId) (W : World), (Builtin.min_ ts t #[.int .i64 (S0.size : Int), .int .i64 1700]).run Tryd.prog W = .ok (.int .i64 (i : Int)) W)
    (ss : ∀ W : World, (Instr.slice 9 (.string S0) none (some (.int .i64 (i : Int))) none).run Tryd.prog W = .ok (.string S) W)
    (CB : Hid (∀ W, Et W → Calls Tryd.prog 10 #[.agg #[.int .i64 a, .int .i64 b, .bool x, .bool y, .int .i64 o, .int .i64 t, .int .i64 q, .int .u32 s, .int .u32 d, .string X]] W fun e W' => e = .returned (.tuple #[.string T, .int .i64 k]) ∧ Below W.heap.size W W'))
    (hk : (k == 0) = false)
    (CP : Hid (∀ W, Et W → Calls Tryd.prog 16 #[.string S] W fun e W' => e = .returned (.tuple #[.agg #[.int .i64 a2, .int .i64 b2, .bool x2, .bool y2, .int .i64 o2, .int .i64 t2, .int .i64 q2, .int .u32 s2, .int .u32 d2, .string B2], .int .i64 0]) ∧ Below W.heap.size W W'))
    (CB2 : Hid (∀ W, Calls Tryd.prog 10 #[.agg #[.int .i64 a2, .int .i64 b2, .bool x2, .bool y2, .int .i64 o2, .int .i64 t2, .int .i64 q2, .int .u32 s2, .int .u32 d2, .string B2]] W fun e W' => e = .returned (.tuple #[.string U, .int .i64 0]) ∧ Below W.heap.size W W'))
    (hU : U.size = n) (hS : S.size = m) (hn : (20 : Int) ≤ (n : Int)) (hm : (n : Int) ≤ (m : Int))
    (z1 : ∀ W : World, (Instr.slice 9 (.string U) (some (.int .i64 10)) (some (.int .i64 12)) none).run Tryd.prog W = .ok (.string ⟨#[0, 0]⟩) W)
    (z2 : ∀ W : World, (Instr.slice 9 (.string S) (some (.int .i64 10)) (some (.int .i64 12)) none).run Tryd.prog W = .ok (.string ⟨#[255, 255]⟩) W)
    (z3 : ∀ W : World, (Instr.slice 9 (.string U) none (some (.int .i64 10)) none).run Tryd.prog W = .ok (.string P) W)
    (z4 : ∀ W : World, (Instr.slice 9 (.string S) none (some (.int .i64 10)) none).run Tryd.prog W = .ok (.string P) W)
    (z5 : ∀ W : World, (Instr.slice 9 (.string U) (some (.int .i64 12)) none none).run Tryd.prog W = .ok (.string Q) W)
    (z6 : ∀ W : World, (Instr.slice 9 (.string S) (some (.int .i64 12)) (some (.int .i64 (n : Int))) none).run Tryd.prog W = .ok (.string Q) W)
    (CF : Hid (∀ W, Et W → Calls Tryd.prog 12 #[] W fun e W' => e = .returned (.bool true) ∧ Below W.heap.size W W')) :
    Calls Tryd.prog 5 #[.agg #[.int .i64 a, .int .i64 b, .bool x, .bool y, .int .i64 o, .int .i64 t, .int .i64 q, .int .u32 s, .int .u32 d, .string B], .string S0] w fun e w' => e = .returned (.bool true) ∧ Below w.heap.size w w' := by
  go_enter Tryd.func5, Tryd.ntmps5
  go_wp2_with fail
  refine (unhide CU _).mono ?_
  rintro e w1 ⟨rfl, b1⟩
  have h1 := bthen (alloc_below w _) b1
  have r1 := Below.row b1 (heap_alloc_new w _)
  obtain ⟨c0, c1, c2, c3, c4, c5, c6, c7, c8, c9, f0, f1, f2, f3, f4, f5, f6, f7, f8, f9⟩ := cells10 r1
  have h2 := below10 (v0 := .int .i64 a) (v1 := .int .i64 b) (v2 := .bool x) (v3 := .bool y) (v4 := .int .i64 o) (v5 := .int .i64 t) (v6 := .int .i64 q) (v7 := .int .u32 s) (v8 := .int .u32 d) (v9 := .string X) h1 (Nat.le_refl _)
  have r2 := set10 (v0 := .int .i64 a) (v1 := .int .i64 b) (v2 := .bool x) (v3 := .bool y) (v4 := .int .i64 o) (v5 := .int .i64 t) (v6 := .int .i64 q) (v7 := .int .u32 s) (v8 := .int .u32 d) (v9 := .string X) r1
  clear b1 CU
  go_wp2_with fail
  generalize ((((((((((w1.setCell ⟨w.heap.size, 0, none⟩ (.int .i64 a)).setCell ⟨w.heap.size, 1, none⟩ (.int .i64 b)).setCell ⟨w.heap.size, 2, none⟩ (.bool x)).setCell ⟨w.heap.size, 3, none⟩ (.bool y)).setCell ⟨w.heap.size, 4, none⟩ (.int .i64 o)).setCell ⟨w.heap.size, 5, none⟩ (.int .i64 t)).setCell ⟨w.heap.size, 6, none⟩ (.int .i64 q)).setCell ⟨w.heap.size, 7, none⟩ (.int .u32 s)).setCell ⟨w.heap.size, 8, none⟩ (.int .u32 d)).setCell ⟨w.heap.size, 9, none⟩ (.string X)) = w2 at *
  clear h1 r1 c0 c1 c2 c3 c4 c5 c6 c7 c8 c9 f0 f1 f2 f3 f4 f5 f6 f7 f8 f9
  refine (unhide CB _ (hg.next h2)).mono ?_
  rintro e w3 ⟨rfl, b3⟩
  have h3 := bthen h2 b3
  have r3 := Below.row b3 r2
  clear b3 CB h2 r2
  go_wp2_with fail
  refine (unhide CP _ (hg.next h3)).mono ?_
  rintro e w5 ⟨rfl, b5⟩
  have h5 := alloc_then (o := .cells #[.int .i64 a2, .int .i64 b2, .bool x2, .bool y2, .int .i64 o2, .int .i64 t2, .int .i64 q2, .int .u32 s2, .int .u32 d2, .string B2] 24) (bthen h3 b5)
  clear b5 CP h3 r3
  go_wp2_with fail
  refine (unhide CB2 _).mono ?_
  rintro e w6 ⟨rfl, b6⟩
  have h6 := bthen h5 b6
  clear b6 h5 CB2
  go_wp2_with fail
  refine wp_region_quiet_below (by kernel_rfl) (by kernel_rfl) ?_
  repeat (go_big_quiet_step (fail))
  refine wpQuiet_nil ?_
  rintro _ ⟨⟨dq, osq⟩, rfl⟩
  have h7 := grown_then h6 dq osq
  generalize grow (redrawn w6 dq) osq = w7 at *
  go_wp2_with fail
  have cF := at_grownE (unhide CF) w7 (hg.next h7)
  clear CF
  refine wp_region_quiet_below (by kernel_rfl) (by kernel_rfl) ?_
  repeat (go_big_quiet_step ((go_at_call 12; exact cF _ _)))
  refine wpQuiet_nil ?_
  rintro _ ⟨⟨dr, osr⟩, rfl⟩
  go_wp2
  go_ret
  exact ⟨rfl, grown_then h7 dr osr⟩
set_option maxRecDepth 100000 in
set_option maxHeartbeats 4000000 in
theorem walk_n_bad (a b o t q s d : Int) (x y : Bool) (B X S0 S T : ByteArray) (i : Nat) (k : Int) (c : Int) (w : World) (hg : Et w)
    (CU : Hid (∀ W, Calls Tryd.prog 9 #[.agg #[.int .i64 a, .int .i64 b, .bool x, .bool y, .int .i64 o, .int .i64 t, .int .i64 q, .int .u32 s, .int .u32 d, .string B]] W fun e W' => e = .returned (.agg #[.int .i64 a, .int .i64 b, .bool x, .bool y, .int .i64 o, .int .i64 t, .int .i64 q, .int .u32 s, .int .u32 d, .string X]) ∧ Below W.heap.size W W'))
    (ms : ∀ (ts : Array TypeId) (t : TypeId) (W : World), (Builtin.min_ ts t #[.int .i64 (S0.size : Int), .int .i64 1700]).run Tryd.prog W = .ok (.int .i64 (i : Int)) W)
    (ss : ∀ W : World, (Instr.slice 9 (.string S0) none (some (.int .i64 (i : Int))) none).run Tryd.prog W = .ok (.string S) W)
    (CB : Hid (∀ W, Et W → Calls Tryd.prog 10 #[.agg #[.int .i64 a, .int .i64 b, .bool x, .bool y, .int .i64 o, .int .i64 t, .int .i64 q, .int .u32 s, .int .u32 d, .string X]] W fun e W' => e = .returned (.tuple #[.string T, .int .i64 k]) ∧ Below W.heap.size W W'))
    (hk : (k == 0) = false)
    (hc : (c != 0) = true)
    (CP : Hid (∀ W, Et W → Calls Tryd.prog 16 #[.string S] W fun e W' => e = .returned (.tuple #[.agg #[.int .i64 0, .int .i64 0, .bool false, .bool false, .int .i64 0, .int .i64 0, .int .i64 0, .int .u32 0, .int .u32 0, .string ⟨#[]⟩], .int .i64 c]) ∧ Below W.heap.size W W'))
    (CF : Hid (∀ W, Et W → Calls Tryd.prog 12 #[] W fun e W' => e = .returned (.bool true) ∧ Below W.heap.size W W')) :
    Calls Tryd.prog 5 #[.agg #[.int .i64 a, .int .i64 b, .bool x, .bool y, .int .i64 o, .int .i64 t, .int .i64 q, .int .u32 s, .int .u32 d, .string B], .string S0] w fun e w' => e = .returned (.bool true) ∧ Below w.heap.size w w' := by
  have zer := same_ip 0 0 0 0 0 0 0 false false ⟨#[]⟩
  go_enter Tryd.func5, Tryd.ntmps5
  go_wp2_with fail
  refine (unhide CU _).mono ?_
  rintro e w1 ⟨rfl, b1⟩
  have h1 := bthen (alloc_below w _) b1
  have r1 := Below.row b1 (heap_alloc_new w _)
  obtain ⟨c0, c1, c2, c3, c4, c5, c6, c7, c8, c9, f0, f1, f2, f3, f4, f5, f6, f7, f8, f9⟩ := cells10 r1
  have h2 := below10 (v0 := .int .i64 a) (v1 := .int .i64 b) (v2 := .bool x) (v3 := .bool y) (v4 := .int .i64 o) (v5 := .int .i64 t) (v6 := .int .i64 q) (v7 := .int .u32 s) (v8 := .int .u32 d) (v9 := .string X) h1 (Nat.le_refl _)
  have r2 := set10 (v0 := .int .i64 a) (v1 := .int .i64 b) (v2 := .bool x) (v3 := .bool y) (v4 := .int .i64 o) (v5 := .int .i64 t) (v6 := .int .i64 q) (v7 := .int .u32 s) (v8 := .int .u32 d) (v9 := .string X) r1
  clear b1 CU
  go_wp2_with fail
  generalize ((((((((((w1.setCell ⟨w.heap.size, 0, none⟩ (.int .i64 a)).setCell ⟨w.heap.size, 1, none⟩ (.int .i64 b)).setCell ⟨w.heap.size, 2, none⟩ (.bool x)).setCell ⟨w.heap.size, 3, none⟩ (.bool y)).setCell ⟨w.heap.size, 4, none⟩ (.int .i64 o)).setCell ⟨w.heap.size, 5, none⟩ (.int .i64 t)).setCell ⟨w.heap.size, 6, none⟩ (.int .i64 q)).setCell ⟨w.heap.size, 7, none⟩ (.int .u32 s)).setCell ⟨w.heap.size, 8, none⟩ (.int .u32 d)).setCell ⟨w.heap.size, 9, none⟩ (.string X)) = w2 at *
  clear h1 r1 c0 c1 c2 c3 c4 c5 c6 c7 c8 c9 f0 f1 f2 f3 f4 f5 f6 f7 f8 f9
  refine (unhide CB _ (hg.next h2)).mono ?_
  rintro e w3 ⟨rfl, b3⟩
  have h3 := bthen h2 b3
  have r3 := Below.row b3 r2
  clear b3 CB h2 r2
  go_wp2_with fail
  refine (unhide CP _ (hg.next h3)).mono ?_
  rintro e w5 ⟨rfl, b5⟩
  have h5 := alloc_then (o := .cells #[.int .i64 0, .int .i64 0, .bool false, .bool false, .int .i64 0, .int .i64 0, .int .i64 0, .int .u32 0, .int .u32 0, .string ⟨#[]⟩] 24) (bthen h3 b5)
  clear b5 CP h3 r3
  go_wp2_with fail
  refine (unhide CF _ (hg.next h5)).mono ?_
  rintro e w9 ⟨rfl, b9⟩
  have h9 := bthen h5 b9
  go_wp2_with fail
  go_ret
  exact ⟨rfl, h9⟩
theorem cut_mid (l : List UInt8) (a b : Nat) (h1 : a ≤ b) (h2 : b ≤ l.length) (W : World) : (Instr.slice 9 (.string (bs l)) (some (.int .i64 (a : Int))) (some (.int .i64 (b : Int))) none).run Tryd.prog W = .ok (.string (bs ((l.drop a).take (b - a)))) W := by
  have e := run_slice_string_lh (P := Tryd.prog) W 9 (bs l) Tryd.underlying9 .i64 .i64 (a : Int) (b : Int) (by omega) (by omega) (by rw [bs_size]; omega)
  rw [show ((a : Int)).toNat = a by omega, show ((b : Int)).toNat = b by omega] at e
  rw [e]
  have : (bs l).extract a b = bs ((l.drop a).take (b - a)) := by
    rw [← bs_of ((bs l).extract a b), extract_toList, bs_toList]
  rw [this]
/-- the parts of what is parsed and built, and of the bytes -/
theorem parts_of (r : List UInt8) (h : flawOf r = 0) : (Pk.of r).bytes.length = nm r 2 2 ∧ ((Pk.of r).bytes.drop 10).take (12 - 10) = be (Pk.of r).sum 2 ∧ (r.drop 10).take (12 - 10) = be (nm r 10 2) 2 ∧ (Pk.of r).bytes.take 10 = r.take 10 ∧ (Pk.of r).bytes.drop 12 = (r.drop 12).take (nm r 2 2 - 12) := by
  obtain ⟨h1, h2, h3, h4, h5, h6⟩ := flaw_spec h
  have hl := (Pk.of r).bytes_length
  rw [(of_ok h).2.2.2] at hl
  have t10 : (r.take 10).length = 10 := by rw [List.length_take]; omega
  refine ⟨by omega, ?_, (be_nm r 10 2 (by omega)).symm, ?_, ?_⟩
  · rw [told_of h, drop_fr t10, take_fr (be_length _ _)]
  · rw [told_of h, take_fr t10]
  · rw [told_of h, show 12 = 10 + 2 from rfl, ← List.drop_drop, drop_fr t10, drop_fr (be_length _ _)]
theorem walk (p : Pk) (S0 : ByteArray) (w : World) (hg : Et w) (hs : p.src < 4294967296) (hd : p.dst < 4294967296) (_ : S0.size ≤ maxLen) :
    Calls Tryd.prog 5 #[p.val, .string S0] w fun e w' => e = .returned (.bool true) ∧ Below w.heap.size w w' := by
  obtain ⟨m, l, hl, mx, sx⟩ := firstN 1700 (bs p.body)
  obtain ⟨i, r, hr, ms, ss⟩ := firstN 1700 S0
  obtain ⟨a, b, x, y, o, t, q, s, d, B⟩ := p
  have hf : (Pk.mk a b x y o t q s d l).fits := ⟨hs, hd, hl⟩
  have CU := fun W => cut_any a b o t q s d x y (bs B) (bs l) m W mx sx
  have CP := fun W (g : Et W) => inetParse_any r W (by omega) g
  by_cases hc : (Pk.mk a b x y o t q s d l).check = 0
  · have CB := fun W (_ : Et W) => inetBuild_ok _ W hf hc
    have hlen := (Pk.mk a b x y o t q s d l).bytes_length
    have hback := parse_built (Pk.mk a b x y o t q s d l) r hc hs hd
    simp only at hlen
    have CP1 := fun W (g : Et W) => inetParse_any ((Pk.mk a b x y o t q s d l).bytes ++ r) W (by rw [List.length_append]; omega) g
    rw [hback] at CP1
    have hadd := fun W => add_bs (Pk.mk a b x y o t q s d l).bytes r (by omega) W
    by_cases hp : flawOf r = 0
    · have e1 : Pk.parse r = (Pk.of r, 0) := if_pos hp
      rw [e1] at CP
      obtain ⟨k1, k2, k3, k4⟩ := of_ok hp
      obtain ⟨f1, f2, f3, f4, f5, f6⟩ := flaw_spec hp
      obtain ⟨u1, u2, u3, u4, u5⟩ := parts_of r hp
      have CB2 := fun W => inetBuild_ok (Pk.of r) W ⟨k2, k3, by rw [k4]; omega⟩ (check_ok.2 k1)
      have s1 := cut_mid (Pk.of r).bytes 10 12 (by decide) (by omega)
      have s2 := cut_mid r 10 12 (by decide) (by omega)
      have s3 := cut_to (Pk.of r).bytes 10 (by omega)
      have s4 := cut_to r 10 (by omega)
      have s5 := cut_from (Pk.of r).bytes 12 (by omega)
      have s6 := cut_mid r 12 (nm r 2 2) (by omega) f6
      rw [u2] at s1
      rw [u3] at s2
      rw [u4] at s3
      rw [u5] at s5
      rcases sum_one (right_of hp).1 with e | ⟨e2, e3⟩
      · rw [e] at s1
        exact walk_b_same a b o t q s d x y (bs B) (bs l) S0 (bs r) _ _ _ _ _ _ i (nm r 2 2) r.length _ _ _ _ _ _ _ _ _ _ w hg (hide CU) ms ss (hide CB) hadd (hide CP1) (hide CP) (hide CB2) (by rw [bs_size]; exact u1) (bs_size r) (by omega) (by omega) s1 s2 s3 s4 s5 s6 (hide fixed_true)
      · rw [e2] at s1
        rw [e3] at s2
        exact walk_b_zero a b o t q s d x y (bs B) (bs l) S0 (bs r) _ _ _ _ _ i (nm r 2 2) r.length _ _ _ _ _ _ _ _ _ _ w hg (hide CU) ms ss (hide CB) hadd (hide CP1) (hide CP) (hide CB2) (by rw [bs_size]; exact u1) (bs_size r) (by omega) (by omega) s1 s2 s3 s4 s5 s6 (hide fixed_true)
    · have e1 : Pk.parse r = (.none, flawOf r) := if_neg hp
      rw [e1] at CP
      exact walk_b_bad a b o t q s d x y (bs B) (bs l) S0 (bs r) _ _ i _ w hg (hide CU) ms ss (hide CB) hadd (hide CP1) (by simpa using hp) (hide CP) (hide fixed_true)
  · have CB := fun W (g : Et W) => inetBuild_bad _ W hf g hc
    have hk : ((Pk.mk a b x y o t q s d l).check == 0) = false := by simpa using hc
    by_cases hp : flawOf r = 0
    · have e1 : Pk.parse r = (Pk.of r, 0) := if_pos hp
      rw [e1] at CP
      obtain ⟨k1, k2, k3, k4⟩ := of_ok hp
      obtain ⟨f1, f2, f3, f4, f5, f6⟩ := flaw_spec hp
      obtain ⟨u1, u2, u3, u4, u5⟩ := parts_of r hp
      have CB2 := fun W => inetBuild_ok (Pk.of r) W ⟨k2, k3, by rw [k4]; omega⟩ (check_ok.2 k1)
      have s1 := cut_mid (Pk.of r).bytes 10 12 (by decide) (by omega)
      have s2 := cut_mid r 10 12 (by decide) (by omega)
      have s3 := cut_to (Pk.of r).bytes 10 (by omega)
      have s4 := cut_to r 10 (by omega)
      have s5 := cut_from (Pk.of r).bytes 12 (by omega)
      have s6 := cut_mid r 12 (nm r 2 2) (by omega) f6
      rw [u2] at s1
      rw [u3] at s2
      rw [u4] at s3
      rw [u5] at s5
      rcases sum_one (right_of hp).1 with e | ⟨e2, e3⟩
      · rw [e] at s1
        exact walk_n_same a b o t q s d x y (bs B) (bs l) S0 (bs r) _ _ _ _ _ i (nm r 2 2) r.length _ _ _ _ _ _ _ _ _ _ _ w hg (hide CU) ms ss (hide CB) hk (hide CP) (hide CB2) (by rw [bs_size]; exact u1) (bs_size r) (by omega) (by omega) s1 s2 s3 s4 s5 s6 (hide fixed_true)
      · rw [e2] at s1
        rw [e3] at s2
        exact walk_n_zero a b o t q s d x y (bs B) (bs l) S0 (bs r) _ _ _ _ i (nm r 2 2) r.length _ _ _ _ _ _ _ _ _ _ _ w hg (hide CU) ms ss (hide CB) hk (hide CP) (hide CB2) (by rw [bs_size]; exact u1) (bs_size r) (by omega) (by omega) s1 s2 s3 s4 s5 s6 (hide fixed_true)
    · have e1 : Pk.parse r = (.none, flawOf r) := if_neg hp
      rw [e1] at CP
      exact walk_n_bad a b o t q s d x y (bs B) (bs l) S0 (bs r) _ i _ _ w hg (hide CU) ms ss (hide CB) hk (by simpa using hp) (hide CP) (hide fixed_true)
set_option maxRecDepth 100000 in
theorem lifted (os : Os) (started : os.Started) (H : Type) (enc : TypeId × Value → H) :
    ReturnsInHanded {} Tryd.checked os 5 .any (fun w args => (Rows.inetBackSpec.pre enc Tryd.prog Tryd.f5 [] false w args ∧ laidMetH Tryd.prog [("errors.errorType", Rows.laid_errors_errorType)] w) ∧ sizedMet enc Tryd.prog Tryd.f5 (OpenSpec.ofChange Rows.inetBackSpec) false w args)
      (Rows.inetBackSpec.post enc Tryd.prog Tryd.f5 false true false false) := by
  refine returnsInHanded_of_change_and (C := Tryd.checked) (X := fun w _ => laidMetH Tryd.prog [("errors.errorType", Rows.laid_errors_errorType)] w) (fun _ _ _ hh h => h.of_heap hh) own started (by kernel_rfl) Tryd.func5
    (ChangeSpec.witness_at (enc := enc) (C := Tryd.checked) (os := os) (X := fun w _ => laidMetH Tryd.prog [("errors.errorType", Rows.laid_errors_errorType)] w) false
      { World.holding Tryd.prog os ⟨#[], #[], []⟩ with heap := (World.holding Tryd.prog os ⟨#[], #[], []⟩).heap.modify 0 fun
        | .cells _ t frozen => .cells #[.iface 89 (.agg #[.pointer (some ⟨1, 41, none⟩)])] t frozen
        | o => o } #[.agg #[.int .i64 0, .int .i64 0, .bool false, .bool false, .int .i64 0, .int .i64 0, .int .i64 0, .int .u32 0, .int .u32 0, .string ByteArray.empty], .string ByteArray.empty] 8 rfl (by kernel_rfl) (by kernel_rfl) (by kernel_rfl) (by kernel_rfl) (by kernel_rfl) (laid_met os _)) ?_
  intro W base args ds gs before hval0 hW _ _ hL _
  have hval : ∀ (j : Nat) t v, Tryd.f5.params[j]? = some t → args[j]? = some v → Value.okWide Tryd.prog W .any base t v := hval0
  have hW' := hW
  obtain ⟨p, q, hA0, hV0, rfl, hfz, hnd⟩ := hW
  have hA : DataW.TrodAll enc Tryd.prog W 0 (fun _ => true) true Tryd.f5.params.toList args.toList ds p := hA0
  have hV : DataW.TrodVars enc Tryd.prog W (fun _ => true) [] gs q := hV0
  rw [Tryd.params5] at hA hval
  obtain ⟨v0, v1, d0, d1, p0, p1, rfl, rfl, rfl, h0, h1⟩ := trodAll_two hA
  obtain ⟨a0, rfl, rfl, rfl, hs0, hd0, hw0⟩ := open_ip (hval 0 24 v0 rfl rfl) h0
  obtain ⟨a1, rfl, rfl, rfl, w1⟩ := open_string Tryd.underlying9 (hval 1 9 v1 rfl rfl) h1
  obtain ⟨rfl, rfl⟩ := trodVars_none hV
  have e1 : Rows.inetBackSpec.fn H ([ipD a0, .lit (.string a1.data.toList)] ++ []) = { results := [.lit (.bool true)], args := [ipD a0, .lit (.string a1.data.toList)] } := by simp [Rows.inetBackSpec]
  refine (walk a0 a1 W (et_of_laid hL) hs0 hd0 w1).mono fun e W' ⟨he, hb⟩ => ?_
  subst he
  refine ⟨_, rfl, _, _, _, [], [], [], hW', ?_, ?_, ?_, hb.frame _, fun h => by cases h⟩
  · rw [e1]; exact trodAll_mk1 (shut_bool Tryd.underlying4 true)
  · rw [e1]; exact trodAll_mk2 (shut_ip a0 hw0) (shut_string Tryd.underlying9 w1)
  · rw [e1]; rfl

theorem said : Rows.InetBackSaid :=
  OpenClaim.holds_of_wide 5 Tryd.f5 rfl rfl rfl rfl rfl rfl rfl ⟨rfl, rfl, rfl, rfl, rfl⟩ rfl rfl rfl rfl rfl (by kernel_rfl) Tryd.func5 (by kernel_rfl)
    (of_decide_eq_true (by kernel_rfl)) (by unfold Func.isWrapper; rw [if_neg (of_decide_eq_false (by kernel_rfl))]; exact ⟨rfl, rfl⟩)
    (fun os started H enc _ => lifted os started H enc)

theorem plain (f : FuncId) (fn : Func) (hf : Tryd.pinned.checked.prog.funcNamed Rows.inetBackRow.func = some f) (hfn : Tryd.pinned.checked.prog.funcs[f]? = some fn) :
    true = Tryd.pinned.checked.prog.looks [] ∧ ∀ (j : Nat) t, fn.params[j]? = some t → Tryd.pinned.checked.prog.wantsStandIn t = false := by
  obtain rfl : f = 5 := Option.some.inj ((show Tryd.prog.funcNamed Rows.inetBackRow.func = some 5 by kernel_rfl).symm.trans hf) |>.symm
  obtain rfl : fn = Tryd.f5 := (Option.some.inj (Tryd.func5.symm.trans hfn)).symm
  refine ⟨by kernel_rfl, fun j t ht => ?_⟩
  rw [Tryd.params5] at ht
  have hm := Array.mem_of_getElem? ht
  simp only [List.mem_toArray, List.mem_cons, List.not_mem_nil, or_false] at hm
  rcases hm with rfl | rfl
  · exact (show Tryd.prog.wantsStandIn 24 = false by kernel_rfl)
  · exact (show Tryd.prog.wantsStandIn 9 = false by kernel_rfl)

theorem card : Rows.InetBackCardSaid :=
  Claim7.holds_tied_plain_at .later [] _ _ _ _ said (fun _ h => by cases h) (by kernel_rfl) (fun _ h => by cases h) inetBack_row_tie rfl ⟨rfl, rfl⟩ (by kernel_rfl) rfl plain (by kernel_rfl)
end Go.Proofs.YtojipoifjioglaaDoor.inetBack
namespace Go.Proofs.YtojipoifjioglaaDoor
theorem inetBack_card_holds : Rows.InetBackCardSaid := inetBack.card
end Go.Proofs.YtojipoifjioglaaDoor
