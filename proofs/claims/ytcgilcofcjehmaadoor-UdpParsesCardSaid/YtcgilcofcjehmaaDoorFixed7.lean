/-
  A datagram is the same as itself; gangwaylaw07.cut, fixed: calls whose answers the document fixes: true, always; no cell that was there before has turned.
-/
import Derived.Test.YtcgilcofcjehmaaDoorUdp4
namespace Go.Proofs.YtcgilcofcjehmaaDoor
open Go.RowKit Go.Sort

theorem fields_udp : Tryd.prog.underlying 26 = some (.struct (Tryd.prog.fieldsOf 26)) := by kernel_rfl
theorem held_udp : Tryd.prog.stoodInHeld 26 = false := by kernel_rfl
theorem same_udp (a b : Int) (x : Bool) (B : ByteArray) (W : World) : (binOp .eql 26 (.agg #[.int .i64 a, .int .i64 b, .bool x, .string B]) (.agg #[.int .i64 a, .int .i64 b, .bool x, .string B])).run Tryd.prog W = .ok (.bool true) W := by
  rw [run_eql_struct, run_equalIn_agg _ _ _ _ _ fields_udp held_udp]
  simp [go_sem, Tryd.underlying26]
set_option maxRecDepth 100000 in
theorem cut_any (a b : Int) (x : Bool) (B X : ByteArray) (m : Nat) (w : World)
    (mx : ∀ (ts : Array TypeId) (t : TypeId) (W : World), (Builtin.min_ ts t #[.int .i64 (B.size : Int), .int .i64 1700]).run Tryd.prog W = .ok (.int .i64 (m : Int)) W)
    (sx : ∀ W : World, (Instr.slice 9 (.string B) none (some (.int .i64 (m : Int))) none).run Tryd.prog W = .ok (.string X) W) :
    Calls Tryd.prog 8 #[.agg #[.int .i64 a, .int .i64 b, .bool x, .string B]] w fun e w' => e = .returned (.agg #[.int .i64 a, .int .i64 b, .bool x, .string X]) ∧ Below w.heap.size w w' := by
  go_enter Tryd.func8, Tryd.ntmps8
  go_wp2_with fail
  refine bodyPost_ret (v := .agg #[.int .i64 a, .int .i64 b, .bool x, .string X]) ?_ rfl ⟨rfl, alloc_then (alloc_below _ _)⟩
  exact results_cell_row rfl _ _ (w.heap.size + 1) 26 _ _ _ rfl (heap_alloc2_new w _ _) Tryd.underlying26 rfl (by kernel_rfl)
set_option maxRecDepth 100000 in
set_option maxHeartbeats 4000000 in
theorem fixed_at (w : World)
    (A1 : Hid (∀ W, Calls Tryd.prog 9 #[.int .u32 1, .int .u32 2, .agg #[.int .i64 1, .int .i64 2, .bool true, .string ⟨#[104, 105]⟩]] W fun e W' => e = .returned (.tuple #[.string ⟨#[0, 1, 0, 2, 0, 10, 0, 0, 104, 105]⟩, .int .i64 0]) ∧ Below W.heap.size W W'))
    (A2 : Hid (∀ W, Calls Tryd.prog 14 #[.int .u32 3, .int .u32 4, .string ⟨#[0, 1, 0, 2, 0, 10, 0, 0, 104, 105]⟩] W fun e W' => e = .returned (.tuple #[.agg #[.int .i64 1, .int .i64 2, .bool true, .string ⟨#[104, 105]⟩], .int .i64 0]) ∧ Below W.heap.size W W'))
    (A3 : Hid (∀ W, Calls Tryd.prog 14 #[.int .u32 0, .int .u32 0, .string ⟨#[0, 1, 0, 2, 0, 7, 0, 0, 104, 105]⟩] W fun e W' => e = .returned (.tuple #[.agg #[.int .i64 0, .int .i64 0, .bool false, .string ⟨#[]⟩], .int .i64 71]) ∧ Below W.heap.size W W'))
    (A4 : Hid (∀ W, Calls Tryd.prog 14 #[.int .u32 0, .int .u32 0, .string ⟨#[0, 1, 0, 2, 0, 10, 0, 1, 104, 105]⟩] W fun e W' => e = .returned (.tuple #[.agg #[.int .i64 0, .int .i64 0, .bool false, .string ⟨#[]⟩], .int .i64 72]) ∧ Below W.heap.size W W'))
    (A5 : Hid (∀ W, Calls Tryd.prog 14 #[.int .u32 0, .int .u32 0, .string ⟨#[115, 104, 111, 114, 116]⟩] W fun e W' => e = .returned (.tuple #[.agg #[.int .i64 0, .int .i64 0, .bool false, .string ⟨#[]⟩], .int .i64 70]) ∧ Below W.heap.size W W'))
    (A6 : Hid (∀ W, Calls Tryd.prog 12 #[.agg #[.int .i64 (-1), .int .i64 0, .bool false, .string ⟨#[]⟩]] W fun e W' => e = .returned (.int .i64 71) ∧ Below W.heap.size W W')) :
    Calls Tryd.prog 11 #[] w fun e w' => e = .returned (.bool true) ∧ Below w.heap.size w w' := by
  have sm := same_udp 1 2 true ⟨#[104, 105]⟩
  go_enter Tryd.func11, Tryd.ntmps11
  go_wp2_with fail
  refine (unhide A1 _).mono ?_
  rintro e w1 ⟨rfl, b1⟩
  clear A1
  go_wp2_with fail
  refine (unhide A2 _).mono ?_
  rintro e w3 ⟨rfl, b3⟩
  have h3 := alloc_then (o := .cells #[.int .i64 1, .int .i64 2, .bool true, .string ⟨#[104, 105]⟩] 26) (bthen b1 b3)
  have r3 := heap_alloc_new w3 (.cells #[.int .i64 1, .int .i64 2, .bool true, .string ⟨#[104, 105]⟩] 26)
  clear b3 b1 A2
  go_wp2_with fail
  refine (unhide A3 _).mono ?_
  rintro e w4 ⟨rfl, b4⟩
  have h4 := alloc_then (o := .cells #[.int .i64 0, .int .i64 0, .bool false, .string ⟨#[]⟩] 26) (bthen h3 b4)
  have r4 := Below.row (alloc_below w4 (.cells #[.int .i64 0, .int .i64 0, .bool false, .string ⟨#[]⟩] 26)) (Below.row b4 r3)
  clear b4 h3 r3 A3
  generalize w3.heap.size = G at *
  go_wp2_with fail
  refine (unhide A4 _).mono ?_
  rintro e w5 ⟨rfl, b5⟩
  have h5 := alloc_then (o := .cells #[.int .i64 0, .int .i64 0, .bool false, .string ⟨#[]⟩] 26) (bthen h4 b5)
  have r5 := Below.row (alloc_below w5 (.cells #[.int .i64 0, .int .i64 0, .bool false, .string ⟨#[]⟩] 26)) (Below.row b5 r4)
  clear b5 h4 r4 A4
  go_wp2_with fail
  refine (unhide A5 _).mono ?_
  rintro e w6 ⟨rfl, b6⟩
  have h6 := alloc_then (o := .cells #[.int .i64 0, .int .i64 0, .bool false, .string ⟨#[]⟩] 26) (bthen h5 b6)
  have r6 := Below.row (alloc_below w6 (.cells #[.int .i64 0, .int .i64 0, .bool false, .string ⟨#[]⟩] 26)) (Below.row b6 r5)
  clear b6 h5 r5 A5
  obtain ⟨a0, a1, a2, a3, _⟩ := cells4 r6
  go_wp2_with fail
  refine (unhide A6 _).mono ?_
  rintro e w7 ⟨rfl, b7⟩
  have h7 := bthen h6 b7
  go_wp2_with fail
  go_ret
  exact ⟨rfl, h7⟩
/-- the page's datagram -/
def u0 : Ud := ⟨1, 2, true, [104, 105]⟩
theorem u0_bytes : u0.bytes 1 2 = [0, 1, 0, 2, 0, 10, 0, 0, 104, 105] := by decide
theorem u0_parse : Ud.parse 3 4 [0, 1, 0, 2, 0, 10, 0, 0, 104, 105] = (u0, 0) := by
  rw [← u0_bytes]; exact parse_none u0 1 2 3 4 (by unfold Ud.ok u0; decide) rfl
theorem u0_length : Ud.parse 0 0 [0, 1, 0, 2, 0, 7, 0, 0, 104, 105] = (.none, 71) := by unfold Ud.parse; rw [show kindOf 0 0 [0, 1, 0, 2, 0, 7, 0, 0, 104, 105] = 5 by decide]; rfl
theorem u0_sum : Ud.parse 0 0 [0, 1, 0, 2, 0, 10, 0, 1, 104, 105] = (.none, 72) := by unfold Ud.parse; rw [show kindOf 0 0 [0, 1, 0, 2, 0, 10, 0, 1, 104, 105] = 6 by decide]; rfl
theorem u0_short : Ud.parse 0 0 [115, 104, 111, 114, 116] = (.none, 70) := by unfold Ud.parse; rw [show kindOf 0 0 [115, 104, 111, 114, 116] = 1 by decide]; rfl
theorem fixed_true (w : World) : Calls Tryd.prog 11 #[] w fun e w' => e = .returned (.bool true) ∧ Below w.heap.size w w' := by
  have A1 := fun W => udpBuild_ok u0 1 2 W (by decide) (by decide) (by decide) (by decide)
  rw [u0_bytes] at A1
  have A2 := fun W => udpParse_any [0, 1, 0, 2, 0, 10, 0, 0, 104, 105] 3 4 W (by decide) (by decide) (by decide)
  rw [u0_parse] at A2
  have A3 := fun W => udpParse_any [0, 1, 0, 2, 0, 7, 0, 0, 104, 105] 0 0 W (by decide) (by decide) (by decide)
  rw [u0_length] at A3
  have A4 := fun W => udpParse_any [0, 1, 0, 2, 0, 10, 0, 1, 104, 105] 0 0 W (by decide) (by decide) (by decide)
  rw [u0_sum] at A4
  have A5 := fun W => udpParse_any [115, 104, 111, 114, 116] 0 0 W (by decide) (by decide) (by decide)
  rw [u0_short] at A5
  have A6 := fun W => udpCheck_any ⟨-1, 0, false, []⟩ W (by decide)
  exact fixed_at w (hide A1) (hide A2) (hide A3) (hide A4) (hide A5) (hide A6)
end Go.Proofs.YtcgilcofcjehmaaDoor
