/-
  A message is the same as itself; gangwaylaw05.fixed: calls whose answers the document fixes: true, always.
-/
import Derived.Test.YtffgdkcfemcpoaaDoorArp5
namespace Go.Proofs.YtffgdkcfemcpoaaDoor
open Go.RowKit Go.Sort

theorem fields_arp : Tryd.prog.underlying 25 = some (.struct (Tryd.prog.fieldsOf 25)) := by kernel_rfl
theorem held_arp : Tryd.prog.stoodInHeld 25 = false := by kernel_rfl
theorem same_arp (op s i t j : Int) (W : World) : (binOp .eql 25 (.agg #[.int .i64 op, .int .u64 s, .int .u32 i, .int .u64 t, .int .u32 j]) (.agg #[.int .i64 op, .int .u64 s, .int .u32 i, .int .u64 t, .int .u32 j])).run Tryd.prog W = .ok (.bool true) W := by
  rw [run_eql_struct, run_equalIn_agg _ _ _ _ _ fields_arp held_arp]
  simp [go_sem, Tryd.underlying25]
theorem other_arp (op s i t j : Int) (W : World) : (binOp .neq 25 (.agg #[.int .i64 op, .int .u64 s, .int .u32 i, .int .u64 t, .int .u32 j]) (.agg #[.int .i64 op, .int .u64 s, .int .u32 i, .int .u64 t, .int .u32 j])).run Tryd.prog W = .ok (.bool false) W := by
  rw [run_neq_struct, run_equalIn_agg _ _ _ _ _ fields_arp held_arp]
  simp [go_sem, Tryd.underlying25]
/-- a frame with a message in it has just that message -/
theorem of_arpFr (d : Nat) (a : Ar) (h : a.check = 0) (h3 : a.sip < 4294967296) (h5 : a.tip < 4294967296) : ofFr (arpFr d a) = (a, true) := by
  have e := arp_back a [] h h3 h5
  rw [List.append_nil] at e
  unfold ofFr arpFr
  simp only
  rw [if_pos trivial, e]
  rfl
theorem arpFr_len (d : Nat) (a : Ar) : (arpFr d a).body.length = 28 := Ar.bytes_length a
set_option maxRecDepth 100000 in
set_option maxHeartbeats 1000000 in
theorem fixed_at (R1 R2 : ByteArray) (w : World)
    (A1 : Hid (∀ W, Calls Tryd.prog 14 #[.int .u64 2, .int .u32 167772161, .int .u32 167772162] W fun e W' => e = .returned (.agg #[.int .u64 281474976710655, .int .u64 2, .bool false, .int .i64 0, .bool false, .int .i64 0, .int .i64 2054, .string R1]) ∧ Below W.heap.size W W'))
    (A2 : Hid (∀ W, Calls Tryd.prog 15 #[.agg #[.int .u64 281474976710655, .int .u64 2, .bool false, .int .i64 0, .bool false, .int .i64 0, .int .i64 2054, .string R1]] W fun e W' => e = .returned (.tuple #[.agg #[.int .i64 1, .int .u64 2, .int .u32 167772161, .int .u64 0, .int .u32 167772162], .bool true]) ∧ Below W.heap.size W W'))
    (A3 : Hid (∀ W, Calls Tryd.prog 17 #[.agg #[.int .i64 1, .int .u64 2, .int .u32 167772161, .int .u64 0, .int .u32 167772162], .int .u64 6] W fun e W' => e = .returned (.tuple #[.agg #[.int .u64 2, .int .u64 6, .bool false, .int .i64 0, .bool false, .int .i64 0, .int .i64 2054, .string R2], .int .i64 0]) ∧ Below W.heap.size W W'))
    (A4 : Hid (∀ W, Calls Tryd.prog 15 #[.agg #[.int .u64 2, .int .u64 6, .bool false, .int .i64 0, .bool false, .int .i64 0, .int .i64 2054, .string R2]] W fun e W' => e = .returned (.tuple #[.agg #[.int .i64 2, .int .u64 6, .int .u32 167772162, .int .u64 2, .int .u32 167772161], .bool true]) ∧ Below W.heap.size W W'))
    (A5 : Hid (∀ W, Calls Tryd.prog 9 #[.string ⟨#[120]⟩] W fun e W' => e = .returned (.tuple #[.agg #[.int .i64 0, .int .u64 0, .int .u32 0, .int .u64 0, .int .u32 0], .int .i64 50]) ∧ Below W.heap.size W W'))
    (A6 : Hid (∀ W, Calls Tryd.prog 17 #[.agg #[.int .i64 2, .int .u64 6, .int .u32 167772162, .int .u64 2, .int .u32 167772161], .int .u64 6] W fun e W' => e = .returned (.tuple #[.agg #[.int .u64 0, .int .u64 0, .bool false, .int .i64 0, .bool false, .int .i64 0, .int .i64 0, .string ⟨#[]⟩], .int .i64 51]) ∧ Below W.heap.size W W')) :
    Calls Tryd.prog 11 #[] w fun e w' => e = .returned (.bool true) ∧ Below w.heap.size w w' := by
  have s1 := same_arp 1 2 167772161 0 167772162
  have s2 := same_arp 2 6 167772162 2 167772161
  go_enter Tryd.func11, Tryd.ntmps11
  go_wp2_with fail
  refine (unhide A1 _).mono ?_
  rintro e w1 ⟨rfl, b1⟩
  have r1 := heap_alloc_new w1 (.cells #[.int .u64 281474976710655, .int .u64 2, .bool false, .int .i64 0, .bool false, .int .i64 0, .int .i64 2054, .string R1] 39)
  have h1 := alloc_then (o := .cells #[.int .u64 281474976710655, .int .u64 2, .bool false, .int .i64 0, .bool false, .int .i64 0, .int .i64 2054, .string R1] 39) b1
  go_wp2_with fail
  refine (unhide A2 _).mono ?_
  rintro e w2 ⟨rfl, b2⟩
  have h2 := bthen h1 b2
  have q1 := Below.row b2 r1
  clear h1 r1 b1 b2 A1 A2
  generalize w1.heap.size = F at *
  have r1 := Below.row (alloc_below w2 (.cells #[.int .i64 1, .int .u64 2, .int .u32 167772161, .int .u64 0, .int .u32 167772162] 25)) q1
  have r2 := heap_alloc_new w2 (.cells #[.int .i64 1, .int .u64 2, .int .u32 167772161, .int .u64 0, .int .u32 167772162] 25)
  have h3 := alloc_then (o := .cells #[.int .i64 1, .int .u64 2, .int .u32 167772161, .int .u64 0, .int .u32 167772162] 25) h2
  go_wp2_with fail
  refine (unhide A3 _).mono ?_
  rintro e w3 ⟨rfl, b3⟩
  have h4 := bthen h3 b3
  have q1' := Below.row b3 r1
  have q2 := Below.row b3 r2
  clear q1 r1 r2 b3 h2 h3 A3
  generalize w2.heap.size = A at *
  have r1 := Below.row (alloc_below w3 (.cells #[.int .u64 2, .int .u64 6, .bool false, .int .i64 0, .bool false, .int .i64 0, .int .i64 2054, .string R2] 39)) q1'
  have r2 := Below.row (alloc_below w3 (.cells #[.int .u64 2, .int .u64 6, .bool false, .int .i64 0, .bool false, .int .i64 0, .int .i64 2054, .string R2] 39)) q2
  have r3 := heap_alloc_new w3 (.cells #[.int .u64 2, .int .u64 6, .bool false, .int .i64 0, .bool false, .int .i64 0, .int .i64 2054, .string R2] 39)
  have h5 := alloc_then (o := .cells #[.int .u64 2, .int .u64 6, .bool false, .int .i64 0, .bool false, .int .i64 0, .int .i64 2054, .string R2] 39) h4
  go_wp2_with fail
  refine (unhide A4 _).mono ?_
  rintro e w4 ⟨rfl, b4⟩
  have h6 := bthen h5 b4
  have p1 := Below.row b4 r1
  have p2 := Below.row b4 r2
  have p3 := Below.row b4 r3
  clear q1' q2 r1 r2 r3 b4 h4 h5 A4
  generalize w3.heap.size = G at *
  have r1 := Below.row (alloc_below w4 (.cells #[.int .i64 2, .int .u64 6, .int .u32 167772162, .int .u64 2, .int .u32 167772161] 25)) p1
  have r2 := Below.row (alloc_below w4 (.cells #[.int .i64 2, .int .u64 6, .int .u32 167772162, .int .u64 2, .int .u32 167772161] 25)) p2
  have r3 := Below.row (alloc_below w4 (.cells #[.int .i64 2, .int .u64 6, .int .u32 167772162, .int .u64 2, .int .u32 167772161] 25)) p3
  have r4 := heap_alloc_new w4 (.cells #[.int .i64 2, .int .u64 6, .int .u32 167772162, .int .u64 2, .int .u32 167772161] 25)
  have h7 := alloc_then (o := .cells #[.int .i64 2, .int .u64 6, .int .u32 167772162, .int .u64 2, .int .u32 167772161] 25) h6
  go_wp2_with fail
  refine (unhide A5 _).mono ?_
  rintro e w5 ⟨rfl, b5⟩
  have h8 := bthen h7 b5
  have q1 := Below.row b5 r1
  have q2 := Below.row b5 r2
  have q3 := Below.row b5 r3
  have q4 := Below.row b5 r4
  clear p1 p2 p3 r1 r2 r3 r4 b5 h6 h7 A5
  generalize w4.heap.size = B at *
  have r1 := Below.row (alloc_below w5 (.cells #[.int .i64 0, .int .u64 0, .int .u32 0, .int .u64 0, .int .u32 0] 25)) q1
  have r2 := Below.row (alloc_below w5 (.cells #[.int .i64 0, .int .u64 0, .int .u32 0, .int .u64 0, .int .u32 0] 25)) q2
  have r3 := Below.row (alloc_below w5 (.cells #[.int .i64 0, .int .u64 0, .int .u32 0, .int .u64 0, .int .u32 0] 25)) q3
  have r4 := Below.row (alloc_below w5 (.cells #[.int .i64 0, .int .u64 0, .int .u32 0, .int .u64 0, .int .u32 0] 25)) q4
  have h9 := alloc_then (o := .cells #[.int .i64 0, .int .u64 0, .int .u32 0, .int .u64 0, .int .u32 0] 25) h8
  obtain ⟨k0, k1, k2, k3, k4, _⟩ := cells5 r4
  go_wp2_with fail
  refine (unhide A6 _).mono ?_
  rintro e w6 ⟨rfl, b6⟩
  have h10 := bthen h9 b6
  have p1 := Below.row b6 r1
  have p2 := Below.row b6 r2
  have p3 := Below.row b6 r3
  have p4 := Below.row b6 r4
  clear q1 q2 q3 q4 r1 r2 r3 r4 b6 h8 h9 A6 k0 k1 k2 k3 k4
  have r1 := Below.row (alloc_below w6 (.cells #[.int .u64 0, .int .u64 0, .bool false, .int .i64 0, .bool false, .int .i64 0, .int .i64 0, .string ⟨#[]⟩] 39)) p1
  have r2 := Below.row (alloc_below w6 (.cells #[.int .u64 0, .int .u64 0, .bool false, .int .i64 0, .bool false, .int .i64 0, .int .i64 0, .string ⟨#[]⟩] 39)) p2
  have r3 := Below.row (alloc_below w6 (.cells #[.int .u64 0, .int .u64 0, .bool false, .int .i64 0, .bool false, .int .i64 0, .int .i64 0, .string ⟨#[]⟩] 39)) p3
  have r4 := Below.row (alloc_below w6 (.cells #[.int .u64 0, .int .u64 0, .bool false, .int .i64 0, .bool false, .int .i64 0, .int .i64 0, .string ⟨#[]⟩] 39)) p4
  have h11 := alloc_then (o := .cells #[.int .u64 0, .int .u64 0, .bool false, .int .i64 0, .bool false, .int .i64 0, .int .i64 0, .string ⟨#[]⟩] 39) h10
  clear p1 p2 p3 p4 h10
  obtain ⟨a0, _⟩ := cells8 r1
  obtain ⟨c0, c1, c2, c3, c4, _⟩ := cells5 r2
  obtain ⟨g0, g1, _⟩ := cells8 r3
  obtain ⟨k0, k1, k2, k3, k4, _⟩ := cells5 r4
  clear r1 r2 r3 r4
  go_wp2_with fail
  go_ret
  exact ⟨rfl, h11⟩
theorem fixed_true (w : World) : Calls Tryd.prog 11 #[] w fun e w' => e = .returned (.bool true) ∧ Below w.heap.size w w' := by
  have f1 : (askAr 2 167772161 167772162).fits := by unfold Ar.fits askAr; simp
  have f2 : (tellAr (askAr 2 167772161 167772162) 6).fits := by unfold Ar.fits tellAr askAr; simp
  have c1 : (askAr 2 167772161 167772162).check = 0 := by decide
  have c2 : (tellAr (askAr 2 167772161 167772162) 6).check = 0 := by decide
  have e1 := of_arpFr 281474976710655 _ c1 f1.2.2.1 f1.2.2.2.2
  have e2 := of_arpFr 2 _ c2 f2.2.2.1 f2.2.2.2.2
  have e3 : tells (askAr 2 167772161 167772162) 6 = (arpFr 2 (tellAr (askAr 2 167772161 167772162) 6), 0) := if_pos (by decide)
  have e4 : tells (tellAr (askAr 2 167772161 167772162) 6) 6 = (Fr.none, 51) := if_neg (by decide)
  have A1 := fun W => ask_any 2 167772161 167772162 W (by decide) (by decide) (by decide)
  have A2 := fun W => of_any (arpFr 281474976710655 (askAr 2 167772161 167772162)) W (by rw [arpFr_len]; decide)
  have A3 := fun W => tell_any _ 6 W f1 (by decide)
  have A4 := fun W => of_any (arpFr 2 (tellAr (askAr 2 167772161 167772162) 6)) W (by rw [arpFr_len]; decide)
  have A5 := fun W => parse_short ⟨#[120]⟩ W (by decide)
  have A6 := fun W => tell_any _ 6 W f2 (by decide)
  rw [e1] at A2
  rw [e2] at A4
  rw [e3] at A3
  rw [e4] at A6
  exact fixed_at (bs (askAr 2 167772161 167772162).bytes) (bs (tellAr (askAr 2 167772161 167772162) 6).bytes) w (hide A1) (hide A2) (hide A3) (hide A4) (hide A5) (hide A6)
end Go.Proofs.YtffgdkcfemcpoaaDoor
