/-
  The contract of ether.Build at a frame without a tag whose body's length is told: its bytes; no cell that was there before has turned.
-/
import Derived.Test.YtchgmbbcfjfhoaaDoorBp6
namespace Go.Proofs.YtchgmbbcfjfhoaaDoor
open Go.RowKit Go.Sort

theorem fields_tag : Tryd.prog.underlying 35 = some (.struct (Tryd.prog.fieldsOf 35)) := by kernel_rfl
theorem held_tag : Tryd.prog.stoodInHeld 35 = false := by kernel_rfl
theorem same_tag (h1 : Bool) (p1 : Int) (d1 : Bool) (v1 : Int) (W : World) :
    (binOp .eql 35 (.agg #[.bool h1, .int .i64 p1, .bool d1, .int .i64 v1]) (.agg #[.bool h1, .int .i64 p1, .bool d1, .int .i64 v1])).run Tryd.prog W = .ok (.bool true) W := by
  rw [run_eql_struct, run_equalIn_agg _ _ _ _ _ fields_tag held_tag]
  simp [go_sem, Tryd.underlying35]
set_option maxRecDepth 100000 in
theorem fine_bare (w : World) : Calls Tryd.prog 50 #[.agg #[.bool false, .int .i64 0, .bool false, .int .i64 0]] w fun e w' => e = .returned (.bool true) ∧ Below w.heap.size w w' := by
  have hs := same_tag false 0 false 0
  go_enter Tryd.func50, Tryd.ntmps50
  go_wp2
  go_ret
  exact ⟨rfl, alloc_below _ _⟩
set_option maxRecDepth 100000 in
set_option maxHeartbeats 4000000 in
theorem size_bp (d s : Int) (B : ByteArray) (n : Nat) (w : World) (hB : B.size = n) (hn : n ≤ 1500) :
    Calls Tryd.prog 52 #[.agg #[.int .u64 d, .int .u64 s, .bool false, .int .i64 0, .bool false, .int .i64 0, .int .i64 0, .string B]] w fun e w' => e = .returned (.int .i64 (14 + (n : Int))) ∧ Below w.heap.size w w' := by
  go_enter Tryd.func52, Tryd.ntmps52
  go_wp2
  go_ret
  exact ⟨rfl, alloc_below _ _⟩
set_option maxRecDepth 100000 in
set_option maxHeartbeats 4000000 in
theorem wrong_bp (d s : Int) (B : ByteArray) (n : Nat) (w : World) (hB : B.size = n) (hn : (n : Int) ≤ 1500) (h1 : d < 281474976710656) (h2 : s < 281474976710656) :
    Calls Tryd.prog 37 #[.agg #[.int .u64 d, .int .u64 s, .bool false, .int .i64 0, .bool false, .int .i64 0, .int .i64 0, .string B]] w fun e w' => e = .returned .nilIface ∧ Below w.heap.size w w' := by
  have cS := hide fun W => size_bp d s B n W hB (by omega)
  go_enter Tryd.func37, Tryd.ntmps37
  go_wp2_with fail
  refine (fine_bare _).mono ?_
  rintro e w1 ⟨rfl, b1⟩
  have hb1 := bthen (alloc_below w _) b1
  have r1 := Below.row b1 (heap_alloc_new w _)
  clear b1
  obtain ⟨c0, c1, c2, c3, c4, c5, c6, c7, _⟩ := cells8 r1
  clear r1
  go_wp2_with fail
  refine (unhide cS _).mono ?_
  rintro e w3 ⟨rfl, b3⟩
  have hb3 := bthen hb1 b3
  clear b3 hb1
  go_wp2_with fail
  go_ret
  exact ⟨rfl, hb3⟩
theorem eput (v n : Nat) (w : World) (h1 : 1 ≤ n) (h2 : n ≤ 8) (hv : v < 256 ^ n) :
    Calls Tryd.prog 39 #[.int .u64 v, .int .i64 n] w fun e w' => e = .returned (.string (bs (be v n))) ∧ Below w.heap.size w w' := by
  have C := hide (put_ok v n w h1 h2 hv)
  clear hv
  go_enter Tryd.func39, Tryd.ntmps39
  go_wp2_with fail
  refine (unhide C).mono ?_
  rintro e w1 ⟨rfl, b1⟩
  go_wp2_with fail
  go_ret
  exact ⟨rfl, b1⟩
theorem mark_not (p : Int) (dei : Bool) (v : Int) (w : World) : Calls Tryd.prog 40 #[.agg #[.bool false, .int .i64 p, .bool dei, .int .i64 v]] w fun e w' => e = .returned (.string ByteArray.empty) ∧ Below w.heap.size w w' := by
  go_enter Tryd.func40, Tryd.ntmps40
  go_wp2
  go_ret
  exact ⟨rfl, alloc_below _ _⟩
set_option maxRecDepth 100000 in
set_option maxHeartbeats 4000000 in
theorem ebuild_at (d s n : Nat) (B D S K X Y Z R : ByteArray) (w : World) (hB : B.size = n) (hn : IntKind.u64.wrap (n : Int) = (n : Int))
    (cW : Hid (∀ W, Calls Tryd.prog 37 #[.agg #[.int .u64 d, .int .u64 s, .bool false, .int .i64 0, .bool false, .int .i64 0, .int .i64 0, .string B]] W fun e w' => e = .returned .nilIface ∧ Below W.heap.size W w'))
    (cD : ∀ W, Calls Tryd.prog 39 #[.int .u64 d, .int .i64 6] W fun e w' => e = .returned (.string D) ∧ Below W.heap.size W w')
    (cS : ∀ W, Calls Tryd.prog 39 #[.int .u64 s, .int .i64 6] W fun e w' => e = .returned (.string S) ∧ Below W.heap.size W w')
    (cK : ∀ W, Calls Tryd.prog 39 #[.int .u64 n, .int .i64 2] W fun e w' => e = .returned (.string K) ∧ Below W.heap.size W w')
    (g1 : ∀ W, (Op.stringOp .add D S).run Tryd.prog W = .ok (.string X) W) (g2 : ∀ W, (Op.stringOp .add X ByteArray.empty).run Tryd.prog W = .ok (.string Y) W)
    (g3 : ∀ W, (Op.stringOp .add Y K).run Tryd.prog W = .ok (.string Z) W) (g4 : ∀ W, (Op.stringOp .add Z B).run Tryd.prog W = .ok (.string R) W) :
    Calls Tryd.prog 21 #[.agg #[.int .u64 d, .int .u64 s, .bool false, .int .i64 0, .bool false, .int .i64 0, .int .i64 0, .string B]] w fun e w' => e = .returned (.tuple #[.string R, .int .i64 0]) ∧ Below w.heap.size w w' := by
  go_enter Tryd.func21, Tryd.ntmps21
  go_wp2_with fail
  refine (unhide cW _).mono ?_
  rintro e w1 ⟨rfl, b1⟩
  have hb := bthen (alloc_below w _) b1
  have r1 := Below.row b1 (heap_alloc_new w _)
  clear b1 cW
  obtain ⟨k0, k1, k2, k3, k4, k5, k6, k7, _⟩ := cells8 r1
  clear r1
  go_wp2_with fail
  have cD' := at_grown cD w1
  have cS' := at_grown cS w1
  have cM' := at_grown (mark_not 0 false 0) w1
  have cK' := at_grown cK w1
  have q0 := cell_regrown k0
  have q1 := cell_regrown k1
  have q2 := cell_regrown k2
  have q3 := cell_regrown k3
  have q4 := cell_regrown k4
  have q5 := cell_regrown k5
  have q7 := cell_regrown k7
  clear k0 k1 k2 k3 k4 k5 k6 k7 cD cS cK
  refine wp_region_quiet_below (by kernel_rfl) (by kernel_rfl) ?_
  repeat (go_big_quiet_step (first | (go_at_call 40; exact cM' _ _) | (go_at_call_of 39 d; exact cD' _ _) | (go_at_call_of 39 s; exact cS' _ _) | (go_at_call_of 39 n; exact cK' _ _)))
  refine wpQuiet_nil ?_
  rintro _ ⟨⟨dq, osq⟩, rfl⟩
  go_wp2
  go_ret2
  exact ⟨rfl, grown_then hb dq osq⟩
theorem ebuild_bp (s : Nat) (b : Bp) (hs : s < 281474976710656) (w : World) : Calls Tryd.prog 21 #[(bpFr s b).val] w fun e w' => e = .returned (.tuple #[.string (bs (bpFr s b).bytes), .int .i64 0]) ∧ Below w.heap.size w w' := by
  have hl : b.bytes.length ≤ 39 := by rw [b.bytes_length]; split <;> (try split) <;> omega
  have c := ebuild_at 1652522221568 s b.bytes.length (bs b.bytes) _ _ _ _ _ _ _ w (bs_size _) (u64_id _ (by omega)) (hide fun W => wrong_bp 1652522221568 s (bs b.bytes) b.bytes.length W (bs_size _) (by omega) (by decide) (by omega)) (fun W => eput 1652522221568 6 W (by decide) (by decide) (by decide)) (fun W => eput s 6 W (by decide) (by decide) (by rw [pow6]; exact hs)) (fun W => eput b.bytes.length 2 W (by decide) (by decide) (by rw [pow2]; omega))
    (fun W => add_bs _ _ (by simp [be_length]) W) (fun W => add_bs _ [] (by simp [be_length]) W) (fun W => add_bs _ _ (by simp [be_length]) W) (fun W => add_bs _ _ (by simp [be_length]; omega) W)
  exact c
end Go.Proofs.YtchgmbbcfjfhoaaDoor
