/-
  A packet is the same as itself; gangwaylaw06.plain, cut, fixed: calls whose answers the document fixes: true, always. Condition: the variable errors.errorType holds its type's handle.
-/
import Derived.Test.YtojipoifjioglaaDoorInet5
namespace Go.Proofs.YtojipoifjioglaaDoor
open Go.RowKit Go.Sort

theorem at_grownE {P : Program} {f : FuncId} {args : Array Value} {v : Value} (h : ∀ W, Et W → Calls P f args W fun e W' => e = .returned v ∧ Below W.heap.size W W') (W : World) (hg : Et W) :
    ∀ d os, Calls P f args (grow (redrawn W d) os) fun e w'' => e = .returned v ∧ ∃ p : Regrown, w'' = grow (redrawn W p.d) p.os := fun _ _ => Calls.regrown_of (h _ (hg.next (below_regrown W _ _)))
theorem fields_ip : Tryd.prog.underlying 24 = some (.struct (Tryd.prog.fieldsOf 24)) := by kernel_rfl
theorem held_ip : Tryd.prog.stoodInHeld 24 = false := by kernel_rfl
theorem same_ip (a b o t q s d : Int) (x y : Bool) (B : ByteArray) (W : World) : (binOp .eql 24 (.agg #[.int .i64 a, .int .i64 b, .bool x, .bool y, .int .i64 o, .int .i64 t, .int .i64 q, .int .u32 s, .int .u32 d, .string B]) (.agg #[.int .i64 a, .int .i64 b, .bool x, .bool y, .int .i64 o, .int .i64 t, .int .i64 q, .int .u32 s, .int .u32 d, .string B])).run Tryd.prog W = .ok (.bool true) W := by
  rw [run_eql_struct, run_equalIn_agg _ _ _ _ _ fields_ip held_ip]
  simp [go_sem, Tryd.underlying24]
theorem other_ip (a b o t q s d : Int) (x y : Bool) (B : ByteArray) (W : World) : (binOp .neq 24 (.agg #[.int .i64 a, .int .i64 b, .bool x, .bool y, .int .i64 o, .int .i64 t, .int .i64 q, .int .u32 s, .int .u32 d, .string B]) (.agg #[.int .i64 a, .int .i64 b, .bool x, .bool y, .int .i64 o, .int .i64 t, .int .i64 q, .int .u32 s, .int .u32 d, .string B])).run Tryd.prog W = .ok (.bool false) W := by
  rw [run_neq_struct, run_equalIn_agg _ _ _ _ _ fields_ip held_ip]
  simp [go_sem, Tryd.underlying24]
theorem plain_any (w : World) : Calls Tryd.prog 27 #[] w fun e w' => e = .returned (.agg #[.int .i64 0, .int .i64 0, .bool false, .bool false, .int .i64 0, .int .i64 64, .int .i64 17, .int .u32 167772161, .int .u32 167772162, .string ⟨#[]⟩]) ∧ Below w.heap.size w w' := by
  go_enter Tryd.func27, Tryd.ntmps27
  go_wp2_with fail
  refine bodyPost_ret ?_ rfl ⟨rfl, alloc_below _ _⟩
  exact results_cell_row rfl _ _ w.heap.size 24 _ _ _ rfl (heap_last w _ _ rfl) Tryd.underlying24 rfl (by kernel_rfl)
set_option maxRecDepth 100000 in
theorem cut_any (a b o t q s d : Int) (x y : Bool) (B X : ByteArray) (m : Nat) (w : World)
    (mx : ∀ (ts : Array TypeId) (t : TypeId) (W : World), (Builtin.min_ ts t #[.int .i64 (B.size : Int), .int .i64 1700]).run Tryd.prog W = .ok (.int .i64 (m : Int)) W)
    (sx : ∀ W : World, (Instr.slice 9 (.string B) none (some (.int .i64 (m : Int))) none).run Tryd.prog W = .ok (.string X) W) :
    Calls Tryd.prog 9 #[.agg #[.int .i64 a, .int .i64 b, .bool x, .bool y, .int .i64 o, .int .i64 t, .int .i64 q, .int .u32 s, .int .u32 d, .string B]] w fun e w' => e = .returned (.agg #[.int .i64 a, .int .i64 b, .bool x, .bool y, .int .i64 o, .int .i64 t, .int .i64 q, .int .u32 s, .int .u32 d, .string X]) ∧ Below w.heap.size w w' := by
  go_enter Tryd.func9, Tryd.ntmps9
  go_wp2_with fail
  refine bodyPost_ret (v := .agg #[.int .i64 a, .int .i64 b, .bool x, .bool y, .int .i64 o, .int .i64 t, .int .i64 q, .int .u32 s, .int .u32 d, .string X]) ?_ rfl ⟨rfl, alloc_then (alloc_below _ _)⟩
  exact results_cell_row rfl _ _ (w.heap.size + 1) 24 _ _ _ rfl (heap_alloc2_new w _ _) Tryd.underlying24 rfl (by kernel_rfl)
set_option maxRecDepth 100000 in
set_option maxHeartbeats 4000000 in
theorem fixed_at (S T : ByteArray) (w : World) (hg : Et w) (hS : S.size = 20)
    (sl : ∀ W, (Instr.slice 9 (.string S) (some (.int .i64 10)) (some (.int .i64 12)) none).run Tryd.prog W = .ok (.string ⟨#[102, 215]⟩) W)
    (A0 : Hid (∀ W, Calls Tryd.prog 27 #[] W fun e W' => e = .returned (.agg #[.int .i64 0, .int .i64 0, .bool false, .bool false, .int .i64 0, .int .i64 64, .int .i64 17, .int .u32 167772161, .int .u32 167772162, .string ⟨#[]⟩]) ∧ Below W.heap.size W W'))
    (A1 : Hid (∀ W, Calls Tryd.prog 10 #[.agg #[.int .i64 0, .int .i64 0, .bool false, .bool false, .int .i64 0, .int .i64 64, .int .i64 17, .int .u32 167772161, .int .u32 167772162, .string ⟨#[]⟩]] W fun e W' => e = .returned (.tuple #[.string S, .int .i64 0]) ∧ Below W.heap.size W W'))
    (A2 : Hid (∀ W, Et W → Calls Tryd.prog 16 #[.string ⟨#[69, 0, 0, 20, 0, 0, 0, 0, 64, 17, 102, 215, 10, 0, 0, 1, 10, 0, 0, 2, 109, 111, 114, 101]⟩] W fun e W' => e = .returned (.tuple #[.agg #[.int .i64 0, .int .i64 0, .bool false, .bool false, .int .i64 0, .int .i64 64, .int .i64 17, .int .u32 167772161, .int .u32 167772162, .string ⟨#[]⟩], .int .i64 0]) ∧ Below W.heap.size W W'))
    (A3 : Hid (∀ W, Et W → Calls Tryd.prog 16 #[.string ⟨#[69, 0, 0, 20, 0, 0, 0, 0, 64, 17, 102, 216, 10, 0, 0, 1, 10, 0, 0, 2]⟩] W fun e W' => e = .returned (.tuple #[.agg #[.int .i64 0, .int .i64 0, .bool false, .bool false, .int .i64 0, .int .i64 0, .int .i64 0, .int .u32 0, .int .u32 0, .string ⟨#[]⟩], .int .i64 62]) ∧ Below W.heap.size W W'))
    (A4 : Hid (∀ W, Et W → Calls Tryd.prog 16 #[.string ⟨#[120]⟩] W fun e W' => e = .returned (.tuple #[.agg #[.int .i64 0, .int .i64 0, .bool false, .bool false, .int .i64 0, .int .i64 0, .int .i64 0, .int .u32 0, .int .u32 0, .string ⟨#[]⟩], .int .i64 60]) ∧ Below W.heap.size W W'))
    (A5 : Hid (∀ W, Et W → Calls Tryd.prog 18 #[.string S] W fun e W' => e = .returned (.tuple #[.string T, .int .i64 0]) ∧ Below W.heap.size W W'))
    (A6 : Hid (∀ W, Et W → Calls Tryd.prog 16 #[.string T] W fun e W' => e = .returned (.tuple #[.agg #[.int .i64 0, .int .i64 0, .bool false, .bool false, .int .i64 0, .int .i64 63, .int .i64 17, .int .u32 167772161, .int .u32 167772162, .string ⟨#[]⟩], .int .i64 0]) ∧ Below W.heap.size W W'))
    (A7 : Hid (∀ W, Calls Tryd.prog 15 #[.agg #[.int .i64 0, .int .i64 0, .bool false, .bool false, .int .i64 1, .int .i64 0, .int .i64 0, .int .u32 0, .int .u32 0, .string ⟨#[]⟩]] W fun e W' => e = .returned (.bool true) ∧ Below W.heap.size W W'))
    (A8 : Hid (∀ W, Calls Tryd.prog 15 #[.agg #[.int .i64 0, .int .i64 0, .bool false, .bool false, .int .i64 0, .int .i64 64, .int .i64 17, .int .u32 167772161, .int .u32 167772162, .string ⟨#[]⟩]] W fun e W' => e = .returned (.bool false) ∧ Below W.heap.size W W'))
    (A9 : Hid (∀ W, Et W → Calls Tryd.prog 13 #[.agg #[.int .i64 0, .int .i64 0, .bool false, .bool false, .int .i64 0, .int .i64 256, .int .i64 0, .int .u32 0, .int .u32 0, .string ⟨#[]⟩]] W fun e W' => e = .returned (.int .i64 61) ∧ Below W.heap.size W W')) :
    Calls Tryd.prog 12 #[] w fun e w' => e = .returned (.bool true) ∧ Below w.heap.size w w' := by
  have sm := same_ip 0 0 0 64 17 167772161 167772162 false false ⟨#[]⟩
  go_enter Tryd.func12, Tryd.ntmps12
  go_wp2_with fail
  refine (unhide A0 _).mono ?_
  rintro e w1 ⟨rfl, b1⟩
  go_wp2_with fail
  refine (unhide A1 _).mono ?_
  rintro e w2 ⟨rfl, b2⟩
  have h2 := bthen b1 b2
  clear b1 b2 A1
  go_wp2_with fail
  refine (unhide A2 _ (hg.next h2)).mono ?_
  rintro e w3 ⟨rfl, b3⟩
  have h3 := alloc_then (o := .cells #[.int .i64 0, .int .i64 0, .bool false, .bool false, .int .i64 0, .int .i64 64, .int .i64 17, .int .u32 167772161, .int .u32 167772162, .string ⟨#[]⟩] 24) (bthen h2 b3)
  have r3 := heap_alloc_new w3 (.cells #[.int .i64 0, .int .i64 0, .bool false, .bool false, .int .i64 0, .int .i64 64, .int .i64 17, .int .u32 167772161, .int .u32 167772162, .string ⟨#[]⟩] 24)
  clear b3 h2 A2
  go_wp2_with fail
  refine (unhide A3 _ (hg.next h3)).mono ?_
  rintro e w4 ⟨rfl, b4⟩
  have h4 := alloc_then (o := .cells #[.int .i64 0, .int .i64 0, .bool false, .bool false, .int .i64 0, .int .i64 0, .int .i64 0, .int .u32 0, .int .u32 0, .string ⟨#[]⟩] 24) (bthen h3 b4)
  have r4 := Below.row (alloc_below w4 (.cells #[.int .i64 0, .int .i64 0, .bool false, .bool false, .int .i64 0, .int .i64 0, .int .i64 0, .int .u32 0, .int .u32 0, .string ⟨#[]⟩] 24)) (Below.row b4 r3)
  clear b4 h3 r3 A3
  generalize w3.heap.size = G at *
  go_wp2_with fail
  refine (unhide A4 _ (hg.next h4)).mono ?_
  rintro e w5 ⟨rfl, b5⟩
  have h5 := alloc_then (o := .cells #[.int .i64 0, .int .i64 0, .bool false, .bool false, .int .i64 0, .int .i64 0, .int .i64 0, .int .u32 0, .int .u32 0, .string ⟨#[]⟩] 24) (bthen h4 b5)
  have r5 := Below.row (alloc_below w5 (.cells #[.int .i64 0, .int .i64 0, .bool false, .bool false, .int .i64 0, .int .i64 0, .int .i64 0, .int .u32 0, .int .u32 0, .string ⟨#[]⟩] 24)) (Below.row b5 r4)
  clear b5 h4 r4 A4
  go_wp2_with fail
  refine (unhide A5 _ (hg.next h5)).mono ?_
  rintro e w6 ⟨rfl, b6⟩
  have h6 := bthen h5 b6
  have r6 := Below.row b6 r5
  clear b6 h5 r5 A5
  go_wp2_with fail
  refine (unhide A6 _ (hg.next h6)).mono ?_
  rintro e w7 ⟨rfl, b7⟩
  have h7 := alloc_then (o := .cells #[.int .i64 0, .int .i64 0, .bool false, .bool false, .int .i64 0, .int .i64 63, .int .i64 17, .int .u32 167772161, .int .u32 167772162, .string ⟨#[]⟩] 24) (bthen h6 b7)
  have r7 := Below.row (alloc_below w7 (.cells #[.int .i64 0, .int .i64 0, .bool false, .bool false, .int .i64 0, .int .i64 63, .int .i64 17, .int .u32 167772161, .int .u32 167772162, .string ⟨#[]⟩] 24)) (Below.row b7 r6)
  have q7 := heap_alloc_new w7 (.cells #[.int .i64 0, .int .i64 0, .bool false, .bool false, .int .i64 0, .int .i64 63, .int .i64 17, .int .u32 167772161, .int .u32 167772162, .string ⟨#[]⟩] 24)
  clear b7 h6 r6 A6
  go_wp2_with fail
  generalize w7.heap.size = K at *
  generalize w7.alloc (.cells #[.int .i64 0, .int .i64 0, .bool false, .bool false, .int .i64 0, .int .i64 63, .int .i64 17, .int .u32 167772161, .int .u32 167772162, .string ⟨#[]⟩] 24) = w8 at *
  have hg8 : Et w8 := hg.next h7
  obtain ⟨a0, a1, a2, a3, a4, a5, a6, a7, a8, a9, _⟩ := cells10 r7
  obtain ⟨c0, c1, c2, c3, c4, c5, c6, c7, c8, c9, _⟩ := cells10 q7
  have d0 := at_grown (unhide A0) w8
  have d7 := at_grown (unhide A7) w8
  have d8 := at_grown (unhide A8) w8
  have d9 := at_grownE (unhide A9) w8 hg8
  replace a0 := cell_regrown a0
  replace a1 := cell_regrown a1
  replace a2 := cell_regrown a2
  replace a3 := cell_regrown a3
  replace a4 := cell_regrown a4
  replace a5 := cell_regrown a5
  replace a6 := cell_regrown a6
  replace a7 := cell_regrown a7
  replace a8 := cell_regrown a8
  replace a9 := cell_regrown a9
  replace c0 := cell_regrown c0
  replace c1 := cell_regrown c1
  replace c2 := cell_regrown c2
  replace c3 := cell_regrown c3
  replace c4 := cell_regrown c4
  replace c5 := cell_regrown c5
  replace c6 := cell_regrown c6
  replace c7 := cell_regrown c7
  replace c8 := cell_regrown c8
  replace c9 := cell_regrown c9
  clear A0 A7 A8 A9 r7 q7
  refine wp_region_quiet_below (by kernel_rfl) (by kernel_rfl) ?_
  repeat (go_big_quiet_step (first | (go_at_call 27; exact d0 _ _) | (go_at_call 13; exact d9 _ _) | (go_at_call_of 15 (167772161 : Int); exact d8 _ _) | (go_at_call 15; exact d7 _ _)))
  refine wpQuiet_nil ?_
  rintro _ ⟨⟨dq, osq⟩, rfl⟩
  go_wp2
  go_ret
  exact ⟨rfl, grown_then h7 dq osq⟩
/-- the page's packet, and it when it is older -/
def p0 : Pk := ⟨0, 0, false, false, 0, 64, 17, 167772161, 167772162, []⟩
def p1 : Pk := ⟨0, 0, false, false, 0, 63, 17, 167772161, 167772162, []⟩
theorem p0_bytes : p0.bytes = [69, 0, 0, 20, 0, 0, 0, 0, 64, 17, 102, 215, 10, 0, 0, 1, 10, 0, 0, 2] := by decide
theorem p1_bytes : p1.bytes = [69, 0, 0, 20, 0, 0, 0, 0, 63, 17, 103, 215, 10, 0, 0, 1, 10, 0, 0, 2] := by decide
theorem p0_older : olderOf [69, 0, 0, 20, 0, 0, 0, 0, 64, 17, 102, 215, 10, 0, 0, 1, 10, 0, 0, 2] = ([69, 0, 0, 20, 0, 0, 0, 0, 63, 17, 103, 215, 10, 0, 0, 1, 10, 0, 0, 2], 0) := by decide
theorem p0_bad : flawOf [69, 0, 0, 20, 0, 0, 0, 0, 64, 17, 102, 216, 10, 0, 0, 1, 10, 0, 0, 2] = 62 := by decide
theorem p0_fits : p0.fits := by unfold Pk.fits p0; simp
theorem p1_fits : p1.fits := by unfold Pk.fits p1; simp
theorem fixed_true (w : World) (hg : Et w) : Calls Tryd.prog 12 #[] w fun e w' => e = .returned (.bool true) ∧ Below w.heap.size w w' := by
  have A1 := fun W => inetBuild_ok p0 W p0_fits (by decide)
  have A2 := fun W (g : Et W) => inetParse_any (p0.bytes ++ [109, 111, 114, 101]) W (by rw [p0_bytes]; decide) g
  rw [parse_built p0 _ (by decide) (by decide) (by decide)] at A2
  have A3 := fun W (g : Et W) => inetParse_any [69, 0, 0, 20, 0, 0, 0, 0, 64, 17, 102, 216, 10, 0, 0, 1, 10, 0, 0, 2] W (by decide) g
  have e3 : Pk.parse [69, 0, 0, 20, 0, 0, 0, 0, 64, 17, 102, 216, 10, 0, 0, 1, 10, 0, 0, 2] = (.none, 62) := by unfold Pk.parse; rw [p0_bad]; rfl
  rw [e3] at A3
  have A4 := fun W (g : Et W) => inetParse_any [120] W (by decide) g
  have e4 : Pk.parse [120] = (.none, 60) := by unfold Pk.parse; rw [show flawOf [120] = 60 by decide]; rfl
  rw [e4] at A4
  have A5 := fun W (g : Et W) => inetOlder_any p0.bytes W (by rw [p0_bytes]; decide) g
  have e5 : olderOf p0.bytes = (p1.bytes, 0) := by rw [p0_bytes, p1_bytes]; exact p0_older
  rw [e5] at A5
  have A6 := fun W (g : Et W) => inetParse_any p1.bytes W (by rw [p1_bytes]; decide) g
  have e6 := parse_built p1 [] (by decide) (by decide) (by decide)
  rw [List.append_nil] at e6
  rw [e6] at A6
  have A7 := fun W => part_any ⟨0, 0, false, false, 1, 0, 0, 0, 0, []⟩ W
  have A8 := fun W => part_any p0 W
  have A9 := fun W (g : Et W) => inetCheck_any ⟨0, 0, false, false, 0, 256, 0, 0, 0, []⟩ W (by unfold Pk.fits; simp) g
  rw [p0_bytes] at A2
  have hs : (bs p0.bytes).size = 20 := by rw [p0_bytes]; rfl
  refine fixed_at (bs p0.bytes) (bs p1.bytes) w hg hs (fun W => ?_) (hide plain_any) (hide A1) (hide A2) (hide A3) (hide A4) (hide A5) (hide A6) (hide A7) (hide A8) (hide A9)
  have e := run_slice_string_lh (P := Tryd.prog) W 9 (bs p0.bytes) Tryd.underlying9 .i64 .i64 10 12 (by decide) (by decide) (by rw [hs]; decide)
  rw [p0_bytes] at e
  rw [p0_bytes]
  exact e
end Go.Proofs.YtojipoifjioglaaDoor
