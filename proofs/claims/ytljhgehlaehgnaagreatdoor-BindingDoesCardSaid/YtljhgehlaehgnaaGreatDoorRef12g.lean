/-
  The contracts of gangwayref05's Tell, where it tells, and of gangwayref12's Reply.
-/
import Derived.Test.YtljhgehlaehgnaaGreatDoorRef12d
import Derived.Test.YtljhgehlaehgnaaGreatDoorRef5
import Derived.Deep.RegionHeld3
namespace Go.Proofs.YtljhgehlaehgnaaGreatDoor
open Go.RowKit Go.Sort

set_option maxRecDepth 100000 in
theorem rtell_at (op s i t j m : Int) (R : ByteArray) (w : World) (h : (op != 1) = false)
    (K : Hid (∀ W, Calls Tryz.prog 34 #[.agg #[.int .i64 op, .int .u64 s, .int .u32 i, .int .u64 t, .int .u32 j]] W fun e W' => e = .returned (.int .i64 0) ∧ Below W.heap.size W W'))
    (O : Hid (∀ W, Calls Tryz.prog 49 #[.int .u64 m] W fun e W' => e = .returned (.bool true) ∧ W' = W))
    (cL : Hid (∀ W, Calls Tryz.prog 53 #[.agg #[.int .i64 2, .int .u64 m, .int .u32 j, .int .u64 s, .int .u32 i]] W fun e W' => e = .returned (.string R) ∧ Below W.heap.size W W')) :
    Calls Tryz.prog 39 #[.agg #[.int .i64 op, .int .u64 s, .int .u32 i, .int .u64 t, .int .u32 j], .int .u64 m] w fun e w' => e = .returned (.tuple #[.agg #[.int .u64 s, .int .u64 m, .bool false, .int .i64 0, .bool false, .int .i64 0, .int .i64 2054, .string R], .int .i64 0]) ∧ Below w.heap.size w w' := by
  have hA := heap_alloc2_old w (.cells #[.int .i64 op, .int .u64 s, .int .u32 i, .int .u64 t, .int .u32 j] 35) (.cells #[.int .u64 0, .int .u64 0, .bool false, .int .i64 0, .bool false, .int .i64 0, .int .i64 0, .string ⟨#[]⟩] 68)
  have hF := heap_alloc2_new w (.cells #[.int .i64 op, .int .u64 s, .int .u32 i, .int .u64 t, .int .u32 j] 35) (.cells #[.int .u64 0, .int .u64 0, .bool false, .int .i64 0, .bool false, .int .i64 0, .int .i64 0, .string ⟨#[]⟩] 68)
  have hb := hide (alloc_then (o := .cells #[.int .u64 0, .int .u64 0, .bool false, .int .i64 0, .bool false, .int .i64 0, .int .i64 0, .string ⟨#[]⟩] 68) (alloc_below w (.cells #[.int .i64 op, .int .u64 s, .int .u32 i, .int .u64 t, .int .u32 j] 35)))
  obtain ⟨q0, q1, q2, q3, q4, -⟩ := cells5 hA
  have HA0 := hide hA
  have HF0 := hide hF
  clear hA hF
  go_enter Tryz.func39, Tryz.ntmps39
  go_wp2_with fail
  refine (unhide K _).mono ?_
  rintro e w1 ⟨rfl, b1⟩
  have HB := hide (bthen (unhide hb) b1)
  have HA := hide (Below.row b1 (unhide HA0))
  have HF := hide (Below.row b1 (unhide HF0))
  clear b1 K hb HA0 HF0 q0 q1 q2 q3 q4
  go_wp2_with fail
  refine (unhide O _).mono ?_
  rintro e w2 ⟨rfl, rfl⟩
  clear O
  go_wp2_with fail
  go_region_held3 (fun w' => w'.cell? ⟨w.heap.size, 0, none⟩ = some (.int .i64 op) ∧ w'.cell? ⟨w.heap.size, 1, none⟩ = some (.int .u64 s) ∧ w'.cell? ⟨w.heap.size, 2, none⟩ = some (.int .u32 i) ∧ w'.cell? ⟨w.heap.size, 3, none⟩ = some (.int .u64 t) ∧ w'.cell? ⟨w.heap.size, 4, none⟩ = some (.int .u32 j))
    ((first | (with_reducible exact unhide K5) | (refine keep5 ?_ (unhide HA); (repeat (first | (with_reducible exact Below.refl _ _) | (with_reducible refine Below.drew ?_) | (with_reducible refine bthen ?_ B5))); done)))
    ((go_at_call 53; refine (unhide cL _).mono ?_; rintro e5 w5 ⟨rfl, B5⟩; have r5 := Below.row B5 (unhide HF); obtain ⟨x0, x1, x2, x3, x4, x5, x6, x7, u0, u1, u2, u3, u4, u5, u6, u7⟩ := cells8 r5; have K5 := hide (keepR (W := ((((((((w5.setCell ⟨w.heap.size + 1, 0, none⟩ (.int .u64 s)).setCell ⟨w.heap.size + 1, 1, none⟩ (.int .u64 m)).setCell ⟨w.heap.size + 1, 2, none⟩ (.bool false)).setCell ⟨w.heap.size + 1, 3, none⟩ (.int .i64 0)).setCell ⟨w.heap.size + 1, 4, none⟩ (.bool false)).setCell ⟨w.heap.size + 1, 5, none⟩ (.int .i64 0)).setCell ⟨w.heap.size + 1, 6, none⟩ (.int .i64 2054)).setCell ⟨w.heap.size + 1, 7, none⟩ (.string R))) (other8 (Nat.ne_of_lt (Nat.lt_succ_self _)) (Below.row B5 (unhide HA))))))
  go_wp2_with fail
  refine bodyPost_ret ?_ rfl ⟨rfl, below8 (bthen (unhide HB).drew B5) (Nat.le_succ _)⟩
  exact results_row2 rfl _ _ (w.heap.size + 1) 68 _ _ _ _ rfl rfl (set8 r5) Tryz.underlying68 rfl (by kernel_rfl)
set_option maxRecDepth 100000 in
theorem hreply_none (g : Nat) (op s i t j vid now m c : Int) (is : Bool) (W : World) (h : (op != 1) = true ∨ ((op != 1) = false ∧ (c != 0) = true) ∨ ((op != 1) = false ∧ (c != 0) = false ∧ (i == 0) = true) ∨ ((op != 1) = false ∧ (c != 0) = false ∧ (i == 0) = false ∧ (i == j) = true) ∨ ((op != 1) = false ∧ (c != 0) = false ∧ (i == 0) = false ∧ (i == j) = false ∧ is = false))
    (K : Hid (∀ W, Calls Tryz.prog 34 #[.agg #[.int .i64 op, .int .u64 s, .int .u32 i, .int .u64 t, .int .u32 j]] W fun e W' => e = .returned (.int .i64 c) ∧ Below W.heap.size W W'))
    (C : Hid (∀ W2, Below W.heap.size W W2 → Calls Tryz.prog 22 #[.pointer (some ⟨g, 0, none⟩), .int .i64 vid, .int .u32 j, .int .i64 now] W2 fun e W' => e = .returned (.tuple #[.int .u64 m, .bool is]) ∧ Below W2.heap.size W2 W')) :
    Calls Tryz.prog 24 #[.pointer (some ⟨g, 0, none⟩), .int .i64 vid, .agg #[.int .i64 op, .int .u64 s, .int .u32 i, .int .u64 t, .int .u32 j], .int .i64 now] W fun e W' => e = .returned (.tuple #[.agg #[.int .u64 0, .int .u64 0, .bool false, .int .i64 0, .bool false, .int .i64 0, .int .i64 0, .string ⟨#[]⟩], .bool false]) ∧ Below W.heap.size W W' := by
  have hb0 := alloc_then (o := .cells #[.int .u64 0, .int .u64 0, .bool false, .int .i64 0, .bool false, .int .i64 0, .int .i64 0, .string ⟨#[]⟩] 68) (alloc_below W (.cells #[.int .i64 op, .int .u64 s, .int .u32 i, .int .u64 t, .int .u32 j] 35))
  have C1 := hide (unhide C _ hb0)
  have q0 := heap_alloc2_old W (.cells #[.int .i64 op, .int .u64 s, .int .u32 i, .int .u64 t, .int .u32 j] 35) (.cells #[.int .u64 0, .int .u64 0, .bool false, .int .i64 0, .bool false, .int .i64 0, .int .i64 0, .string ⟨#[]⟩] 68)
  have r0 := heap_alloc2_new W (.cells #[.int .i64 op, .int .u64 s, .int .u32 i, .int .u64 t, .int .u32 j] 35) (.cells #[.int .u64 0, .int .u64 0, .bool false, .int .i64 0, .bool false, .int .i64 0, .int .i64 0, .string ⟨#[]⟩] 68)
  have k4 := (cells5 q0).2.2.2.2.1
  have Q0 := hide q0
  have R0 := hide r0
  have HB := hide hb0
  clear C q0 r0 hb0
  go_enter Tryz.func24, Tryz.ntmps24
  go_wp2_with fail
  refine (unhide C1).mono ?_
  rintro e w1 ⟨rfl, b1⟩
  have hb1 := hide (bthen (unhide HB) b1)
  have R1 := hide (Below.row b1 (unhide R0))
  have Q1 := hide (Below.row b1 (unhide Q0))
  clear b1 k4 C1 R0 HB Q0
  rcases h with h1 | ⟨h1, h2⟩ | ⟨h1, h2, h3⟩ | ⟨h1, h2, h3, h4⟩ | ⟨h1, h2, h3, h4, rfl⟩
  · obtain ⟨k0', k1', k2', k3', k4', -⟩ := cells5 (unhide Q1)
    obtain ⟨c0, c1, c2, c3, c4, c5, c6, c7, f0, f1, f2, f3, f4, f5, f6, f7⟩ := cells8 (unhide R1)
    go_wp2_with fail
    refine bodyPost_ret ?_ rfl ⟨rfl, below8 (unhide hb1) (Nat.le_succ _)⟩
    exact results_row2 rfl _ _ (W.heap.size + 1) 68 _ _ _ _ rfl rfl (set8 (unhide R1)) Tryz.underlying68 rfl (by kernel_rfl)
  all_goals
    obtain ⟨k0', k1', k2', k3', k4', -⟩ := cells5 (unhide Q1)
    go_wp2_with fail
    refine (unhide K _).mono ?_
    rintro e w2 ⟨rfl, b2⟩
    have hb2 := hide (bthen (unhide hb1) b2)
    have R2 := hide (Below.row b2 (unhide R1))
    clear k0' k1' k2' k3' k4' K
    obtain ⟨k0', k1', k2', k3', k4', -⟩ := cells5 (Below.row b2 (unhide Q1))
    obtain ⟨c0, c1, c2, c3, c4, c5, c6, c7, f0, f1, f2, f3, f4, f5, f6, f7⟩ := cells8 (unhide R2)
    clear b2
    go_wp2_with fail
    refine bodyPost_ret ?_ rfl ⟨rfl, below8 (unhide hb2) (Nat.le_succ _)⟩
    exact results_row2 rfl _ _ (W.heap.size + 1) 68 _ _ _ _ rfl rfl (set8 (unhide R2)) Tryz.underlying68 rfl (by kernel_rfl)
set_option maxRecDepth 100000 in
theorem hreply_tell (g : Nat) (op s i t j vid now m d q pri vid2 ty c : Int) (has dei : Bool) (R : ByteArray) (W : World) (h1 : (op != 1) = false) (h3 : (i == 0) = false) (h4 : (i == j) = false)
    (K : Hid (∀ W, Calls Tryz.prog 34 #[.agg #[.int .i64 op, .int .u64 s, .int .u32 i, .int .u64 t, .int .u32 j]] W fun e W' => e = .returned (.int .i64 0) ∧ Below W.heap.size W W'))
    (C : Hid (∀ W2, Below W.heap.size W W2 → Calls Tryz.prog 22 #[.pointer (some ⟨g, 0, none⟩), .int .i64 vid, .int .u32 j, .int .i64 now] W2 fun e W' => e = .returned (.tuple #[.int .u64 m, .bool true]) ∧ Below W2.heap.size W2 W'))
    (T : Hid (∀ W, Calls Tryz.prog 39 #[.agg #[.int .i64 op, .int .u64 s, .int .u32 i, .int .u64 t, .int .u32 j], .int .u64 m] W fun e W' => e = .returned (.tuple #[.agg #[.int .u64 d, .int .u64 q, .bool has, .int .i64 pri, .bool dei, .int .i64 vid2, .int .i64 ty, .string R], .int .i64 c]) ∧ Below W.heap.size W W')) :
    Calls Tryz.prog 24 #[.pointer (some ⟨g, 0, none⟩), .int .i64 vid, .agg #[.int .i64 op, .int .u64 s, .int .u32 i, .int .u64 t, .int .u32 j], .int .i64 now] W fun e W' => e = .returned (.tuple #[.agg #[.int .u64 d, .int .u64 q, .bool has, .int .i64 pri, .bool dei, .int .i64 vid2, .int .i64 ty, .string R], .bool true]) ∧ Below W.heap.size W W' := by
  have hb0 := alloc_then (o := .cells #[.int .u64 0, .int .u64 0, .bool false, .int .i64 0, .bool false, .int .i64 0, .int .i64 0, .string ⟨#[]⟩] 68) (alloc_below W (.cells #[.int .i64 op, .int .u64 s, .int .u32 i, .int .u64 t, .int .u32 j] 35))
  have C1 := hide (unhide C _ hb0)
  have q0 := heap_alloc2_old W (.cells #[.int .i64 op, .int .u64 s, .int .u32 i, .int .u64 t, .int .u32 j] 35) (.cells #[.int .u64 0, .int .u64 0, .bool false, .int .i64 0, .bool false, .int .i64 0, .int .i64 0, .string ⟨#[]⟩] 68)
  have r0 := heap_alloc2_new W (.cells #[.int .i64 op, .int .u64 s, .int .u32 i, .int .u64 t, .int .u32 j] 35) (.cells #[.int .u64 0, .int .u64 0, .bool false, .int .i64 0, .bool false, .int .i64 0, .int .i64 0, .string ⟨#[]⟩] 68)
  have k4 := (cells5 q0).2.2.2.2.1
  have Q0 := hide q0
  have R0 := hide r0
  have HB := hide hb0
  clear C q0 r0 hb0
  go_enter Tryz.func24, Tryz.ntmps24
  go_wp2_with fail
  refine (unhide C1).mono ?_
  rintro e w1 ⟨rfl, b1⟩
  have hb1 := hide (bthen (unhide HB) b1)
  have R1 := hide (Below.row b1 (unhide R0))
  have Q1 := hide (Below.row b1 (unhide Q0))
  clear b1 k4 C1 R0 HB Q0
  obtain ⟨k0', k1', k2', k3', k4', -⟩ := cells5 (unhide Q1)
  go_wp2_with fail
  refine (unhide K _).mono ?_
  rintro e w2 ⟨rfl, b2⟩
  have hb2 := hide (bthen (unhide hb1) b2)
  have R2 := hide (Below.row b2 (unhide R1))
  clear k0' k1' k2' k3' k4' K
  obtain ⟨k0', k1', k2', k3', k4', -⟩ := cells5 (Below.row b2 (unhide Q1))
  clear b2 hb1 R1
  go_wp2_with fail
  refine (unhide T _).mono ?_
  rintro e w3 ⟨rfl, b3⟩
  have b4 := alloc_then (o := .cells #[.int .u64 d, .int .u64 q, .bool has, .int .i64 pri, .bool dei, .int .i64 vid2, .int .i64 ty, .string R] 68) b3
  have hb3 := hide (bthen (unhide hb2) b4)
  have hr := Below.row b4 (unhide R2)
  obtain ⟨c0, c1, c2, c3, c4, c5, c6, c7, f0, f1, f2, f3, f4, f5, f6, f7⟩ := cells8 hr
  have HR := hide hr
  obtain ⟨e0, e1, e2, e3, e4, e5, e6, e7, -⟩ := cells8 (heap_alloc_new w3 (.cells #[.int .u64 d, .int .u64 q, .bool has, .int .i64 pri, .bool dei, .int .i64 vid2, .int .i64 ty, .string R] 68))
  clear hr b3 b4 hb2 R2 T k0' k1' k2' k3' k4' Q1
  go_wp2_with fail
  refine bodyPost_ret ?_ rfl ⟨rfl, below8 (unhide hb3) (Nat.le_succ _)⟩
  exact results_row2 rfl _ _ (W.heap.size + 1) 68 _ _ _ _ rfl rfl (set8 (unhide HR)) Tryz.underlying68 rfl (by kernel_rfl)
end Go.Proofs.YtljhgehlaehgnaaGreatDoor
