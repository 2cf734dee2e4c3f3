/-
  The contract of ether.Build: a frame's bytes, or the error's number; no cell that was there before has turned.
-/
import Derived.Test.YtfndofbkfinnmaaDoorEther3
import Derived.BigQuiet
import Derived.Lib.QuietBelow
import Derived.Deep.RegionWith
namespace Go.Proofs.YtfndofbkfinnmaaDoor
open Go.RowKit Go.Sort

theorem build_bad (d s : Nat) (has : Bool) (pri : Int) (dei : Bool) (vid ty : Int) (l : List UInt8) (w : World) (hg : Et w) (hl : l.length ≤ 10000) (h : (Fr.mk d s has pri dei vid ty l).check ≠ 0) :
    Calls Tryd.prog 8 #[.agg #[.int .u64 d, .int .u64 s, .bool has, .int .i64 pri, .bool dei, .int .i64 vid, .int .i64 ty, .string (bs l)]] w fun e w' => e = .returned (.tuple #[.string ByteArray.empty, .int .i64 (Fr.mk d s has pri dei vid ty l).check]) ∧ Below w.heap.size w w' := by
  obtain ⟨p, hp⟩ := wrong_bad d s has pri dei vid ty l hl h
  have ht := check_told (Fr.mk d s has pri dei vid ty l)
  have C := hide hp
  clear h hp
  generalize (Fr.mk d s has pri dei vid ty l).check = c at *
  go_enter Tryd.func8, Tryd.ntmps8
  go_wp2_with fail
  refine (unhide C _).mono ?_
  rintro e w1 ⟨rfl, b1⟩
  have hb := bthen (alloc_below w _) b1
  have hg1 := hg.next hb
  clear b1 C
  go_wp2_with fail
  refine (number_fault p c _ hg1).mono ?_
  rw [ht]
  rintro e w2 ⟨rfl, b2⟩
  have hb2 := bthen hb b2
  go_wp2_with fail
  go_ret2
  exact ⟨rfl, hb2⟩
/-- a contract that leaves what was there, in a world with more blocks -/
theorem at_grown {P : Program} {f : FuncId} {args : Array Value} {v : Value} (h : ∀ W, Calls P f args W fun e W' => e = .returned v ∧ Below W.heap.size W W') (W : World) :
    ∀ d os, Calls P f args (grow (redrawn W d) os) fun e w'' => e = .returned v ∧ ∃ p : Regrown, w'' = grow (redrawn W p.d) p.os := fun _ _ => Calls.regrown_of (h _)
theorem grown_then {w W : World} (h : Below w.heap.size w W) (d : Nat) (os : Array Obj) : Below w.heap.size w (grow (redrawn W d) os) := h.trans ((below_regrown W d os).mono h.size)
set_option maxRecDepth 20000 in
set_option maxHeartbeats 4000000 in
theorem build_go1 (d s t : Nat) (has : Bool) (pri : Int) (dei : Bool) (vid ty : Int) (B D S M K X Y Z R : ByteArray) (w : World) (hty : ty ≠ 0) (hc : IntKind.u64.wrap ty = (t : Int))
    (cW : Hid (∀ W, Calls Tryd.prog 17 #[.agg #[.int .u64 d, .int .u64 s, .bool has, .int .i64 pri, .bool dei, .int .i64 vid, .int .i64 ty, .string B]] W fun e w' => e = .returned .nilIface ∧ Below W.heap.size W w'))
    (cD : ∀ W, Calls Tryd.prog 19 #[.int .u64 d, .int .i64 6] W fun e w' => e = .returned (.string D) ∧ Below W.heap.size W w')
    (cS : ∀ W, Calls Tryd.prog 19 #[.int .u64 s, .int .i64 6] W fun e w' => e = .returned (.string S) ∧ Below W.heap.size W w')
    (cM : ∀ W, Calls Tryd.prog 20 #[.agg #[.bool has, .int .i64 pri, .bool dei, .int .i64 vid]] W fun e w' => e = .returned (.string M) ∧ Below W.heap.size W w')
    (cK : ∀ W, Calls Tryd.prog 19 #[.int .u64 t, .int .i64 2] W fun e w' => e = .returned (.string K) ∧ Below W.heap.size W w')
    (g1 : ∀ W, (Op.stringOp .add D S).run Tryd.prog W = .ok (.string X) W) (g2 : ∀ W, (Op.stringOp .add X M).run Tryd.prog W = .ok (.string Y) W)
    (g3 : ∀ W, (Op.stringOp .add Y K).run Tryd.prog W = .ok (.string Z) W) (g4 : ∀ W, (Op.stringOp .add Z B).run Tryd.prog W = .ok (.string R) W) :
    Calls Tryd.prog 8 #[.agg #[.int .u64 d, .int .u64 s, .bool has, .int .i64 pri, .bool dei, .int .i64 vid, .int .i64 ty, .string B]] w fun e w' => e = .returned (.tuple #[.string R, .int .i64 0]) ∧ Below w.heap.size w w' := by
  go_enter Tryd.func8, Tryd.ntmps8
  go_wp2_with fail
  refine (unhide cW _).mono ?_
  rintro e w1 ⟨rfl, b1⟩
  have hb := bthen (alloc_below w _) b1
  have k0 := (b1.cell (p := ⟨w.heap.size, 0, none⟩) (by simp)).trans (show _ = some (Value.int .u64 d) by simp)
  have k1 := (b1.cell (p := ⟨w.heap.size, 1, none⟩) (by simp)).trans (show _ = some (Value.int .u64 s) by simp)
  have k2 := (b1.cell (p := ⟨w.heap.size, 2, none⟩) (by simp)).trans (show _ = some (Value.bool has) by simp)
  have k3 := (b1.cell (p := ⟨w.heap.size, 3, none⟩) (by simp)).trans (show _ = some (Value.int .i64 pri) by simp)
  have k4 := (b1.cell (p := ⟨w.heap.size, 4, none⟩) (by simp)).trans (show _ = some (Value.bool dei) by simp)
  have k5 := (b1.cell (p := ⟨w.heap.size, 5, none⟩) (by simp)).trans (show _ = some (Value.int .i64 vid) by simp)
  have k6 := (b1.cell (p := ⟨w.heap.size, 6, none⟩) (by simp)).trans (show _ = some (Value.int .i64 ty) by simp)
  have k7 := (b1.cell (p := ⟨w.heap.size, 7, none⟩) (by simp)).trans (show _ = some (Value.string B) by simp)
  clear b1 cW
  go_wp2_with fail
  have cD' := at_grown cD w1
  have cS' := at_grown cS w1
  have cM' := at_grown cM w1
  have cK' := at_grown cK w1
  have q0 := cell_regrown k0
  have q1 := cell_regrown k1
  have q2 := cell_regrown k2
  have q3 := cell_regrown k3
  have q4 := cell_regrown k4
  have q5 := cell_regrown k5
  have q7 := cell_regrown k7
  clear k0 k1 k2 k3 k4 k5 k6 k7 cD cS cM cK
  refine wp_region_quiet_below (by kernel_rfl) (by kernel_rfl) ?_
  repeat (go_big_quiet_step (first | (go_at_call 20; exact cM' _ _) | (go_at_call_of 19 d; exact cD' _ _) | (go_at_call_of 19 s; exact cS' _ _) | (go_at_call_of 19 t; exact cK' _ _)))
  refine wpQuiet_nil ?_
  rintro _ ⟨⟨dq, osq⟩, rfl⟩
  go_wp2
  go_ret2
  exact ⟨rfl, grown_then hb dq osq⟩
end Go.Proofs.YtfndofbkfinnmaaDoor
