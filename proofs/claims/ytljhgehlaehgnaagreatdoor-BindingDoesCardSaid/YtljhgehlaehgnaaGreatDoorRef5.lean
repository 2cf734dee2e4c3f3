/-
  The document's answer for messages: the contracts of gangwayref01's Num and gangwayref05's Check, Laid, Build and Parse.
-/
import Derived.Test.YtljhgehlaehgnaaGreatDoorArps
import Derived.Test.YtljhgehlaehgnaaGreatDoorRefOwn5
import Derived.Test.YtljhgehlaehgnaaGreatDoorRefBytes3
import Derived.Deep.RegionHeld3
namespace Go.Proofs.YtljhgehlaehgnaaGreatDoor
open Go.RowKit Go.Sort

theorem take_next (l : List UInt8) (k : Nat) (h : k < l.length) : l.take (k + 1) = l.take k ++ [l[k]] := by
  rw [List.take_add_one, List.getElem?_eq_getElem h]; rfl
set_option maxRecDepth 100000 in
theorem rcheck_at (op S I T J : Int) (t1 t2 o t : Bool) (w : World) (h1 : decide (op < 1) = t1) (h2 : decide (2 < op) = t2)
    (cO : Hid (∀ W, Calls Tryz.prog 49 #[.int .u64 S] W fun e W' => e = .returned (.bool o) ∧ W' = W)) (hT : (T / 281474976710656 != 0) = t) :
    Calls Tryz.prog 34 #[.agg #[.int .i64 op, .int .u64 S, .int .u32 I, .int .u64 T, .int .u32 J]] w fun e w' => e = .returned (.int .i64 (if t1 || t2 || !o || t then 51 else 0)) ∧ Below w.heap.size w w' := by
  cases t1 <;> cases t2 <;> cases o <;> cases t
  all_goals
    go_enter Tryz.func34, Tryz.ntmps34
    go_wp2_with (go_at_call 49; refine (unhide cO _).mono ?_; rintro e w1 ⟨rfl, rfl⟩)
    go_ret
    exact ⟨rfl, alloc_below _ _⟩
theorem rcheck_any (a : Ar) (w : World) (h : a.fits) : Calls Tryz.prog 34 #[a.val] w fun e w' => e = .returned (.int .i64 a.check) ∧ Below w.heap.size w w' := by
  obtain ⟨op, s, i, t, j⟩ := a
  obtain ⟨_, hs, _, ht, _⟩ := h
  simp only at hs ht
  have c := rcheck_at op s i t j _ _ (ownH s) _ w rfl rfl (hide fun W => rown s W hs) rfl
  have e : (if (decide (op < 1) || decide (2 < op) || !(ownH s) || ((t : Int) / 281474976710656 != 0)) = true then (51 : Int) else 0) = (Ar.mk op s i t j).check := by
    have e1 : ((t : Int) / 281474976710656 != 0) = decide (281474976710656 ≤ t) := by
      by_cases b : 281474976710656 ≤ t
      · rw [decide_eq_true b, bne_iff_ne]; omega
      · rw [decide_eq_false b]
        have : (t : Int) / 281474976710656 = 0 := by omega
        rw [this]; rfl
    rw [e1]
    unfold Ar.check
    simp only
    by_cases a1 : op < 1 <;> by_cases a2 : 2 < op <;> by_cases b : 281474976710656 ≤ t <;> cases ownH s <;> simp [a1, a2, b] <;> omega
  rw [e] at c
  exact c
set_option maxRecDepth 100000 in
set_option maxHeartbeats 4000000 in
theorem laid_at (op s i t j : Nat) (B0 B1 B2 B3 B4 X0 X1 X2 X3 X4 : ByteArray) (w : World) (hop : op < 9223372036854775808) (hi : i < 4294967296) (hj : j < 4294967296)
    (c0 : ∀ W, Calls Tryz.prog 69 #[.int .u64 op, .int .i64 2] W fun e W' => e = .returned (.string B0) ∧ Below W.heap.size W W')
    (c1 : ∀ W, Calls Tryz.prog 69 #[.int .u64 s, .int .i64 6] W fun e W' => e = .returned (.string B1) ∧ Below W.heap.size W W')
    (c2 : ∀ W, Calls Tryz.prog 69 #[.int .u64 i, .int .i64 4] W fun e W' => e = .returned (.string B2) ∧ Below W.heap.size W W')
    (c3 : ∀ W, Calls Tryz.prog 69 #[.int .u64 t, .int .i64 6] W fun e W' => e = .returned (.string B3) ∧ Below W.heap.size W W')
    (c4 : ∀ W, Calls Tryz.prog 69 #[.int .u64 j, .int .i64 4] W fun e W' => e = .returned (.string B4) ∧ Below W.heap.size W W')
    (g0 : ∀ W, (Op.stringOp .add ⟨#[0, 1, 8, 0, 6, 4]⟩ B0).run Tryz.prog W = .ok (.string X0) W) (g1 : ∀ W, (Op.stringOp .add X0 B1).run Tryz.prog W = .ok (.string X1) W)
    (g2 : ∀ W, (Op.stringOp .add X1 B2).run Tryz.prog W = .ok (.string X2) W) (g3 : ∀ W, (Op.stringOp .add X2 B3).run Tryz.prog W = .ok (.string X3) W) (g4 : ∀ W, (Op.stringOp .add X3 B4).run Tryz.prog W = .ok (.string X4) W) :
    Calls Tryz.prog 53 #[.agg #[.int .i64 op, .int .u64 s, .int .u32 i, .int .u64 t, .int .u32 j]] w fun e w' => e = .returned (.string X4) ∧ Below w.heap.size w w' := by
  have e1 : IntKind.u64.wrap (op : Int) = (op : Int) := u64_id op (by omega)
  have e2 : IntKind.u64.wrap (i : Int) = (i : Int) := u64_id i (by omega)
  have e3 : IntKind.u64.wrap (j : Int) = (j : Int) := u64_id j (by omega)
  clear hop hi hj
  go_enter Tryz.func53, Tryz.ntmps53
  go_wp2_with fail
  have hr := heap_alloc_new w (.cells #[.int .i64 op, .int .u64 s, .int .u32 i, .int .u64 t, .int .u32 j] 35)
  have hb := alloc_below w (.cells #[.int .i64 op, .int .u64 s, .int .u32 i, .int .u64 t, .int .u32 j] 35)
  generalize w.alloc (.cells #[.int .i64 op, .int .u64 s, .int .u32 i, .int .u64 t, .int .u32 j] 35) = w1 at *
  obtain ⟨k0, k1, k2, k3, k4, _⟩ := cells5 hr
  have d0 := at_grown c0 w1
  have d1 := at_grown c1 w1
  have d2 := at_grown c2 w1
  have d3 := at_grown c3 w1
  have d4 := at_grown c4 w1
  have q0 := cell_regrown k0
  have q1 := cell_regrown k1
  have q2 := cell_regrown k2
  have q3 := cell_regrown k3
  have q4 := cell_regrown k4
  clear k0 k1 k2 k3 k4 c0 c1 c2 c3 c4 hr
  refine wp_region_quiet_below (by kernel_rfl) (by kernel_rfl) ?_
  repeat (go_big_quiet_step (first | (go_at_call_of 69 op; exact d0 _ _) | (go_at_call_of 69 s; exact d1 _ _) | (go_at_call_of 69 i; exact d2 _ _) | (go_at_call_of 69 t; exact d3 _ _) | (go_at_call_of 69 j; exact d4 _ _)))
  refine wpQuiet_nil ?_
  rintro _ ⟨⟨dq, osq⟩, rfl⟩
  go_wp2
  go_ret
  exact ⟨rfl, grown_then hb dq osq⟩
theorem laid_any (a : Ar) (w : World) (h : a.fits) (ho : 0 ≤ a.op) : Calls Tryz.prog 53 #[a.val] w fun e w' => e = .returned (.string (bs a.bytes)) ∧ Below w.heap.size w w' := by
  obtain ⟨op, s, i, t, j⟩ := a
  obtain ⟨h0, hs, hi, ht, hj⟩ := h
  simp only at h0 hs hi ht hj ho
  obtain ⟨o, rfl⟩ : ∃ o : Nat, op = o := ⟨op.toNat, by omega⟩
  have e : (Ar.mk o s i t j).bytes = arpHead ++ be o 2 ++ be s 6 ++ be i 4 ++ be t 6 ++ be j 4 := by
    unfold Ar.bytes
    simp
  rw [e]
  have l : arpHead.length = 6 := rfl
  exact laid_at o s i t j _ _ _ _ _ _ _ _ _ _ w (by omega) hi hj (fun W => rbytes o 2 W (by decide) (by omega)) (fun W => rbytes s 6 W (by decide) hs) (fun W => rbytes i 4 W (by decide) (by omega)) (fun W => rbytes t 6 W (by decide) ht) (fun W => rbytes j 4 W (by decide) (by omega))
    (fun W => add_bs arpHead _ (by simp [l, be_length]) W) (fun W => add_bs _ _ (by simp [l, be_length]) W) (fun W => add_bs _ _ (by simp [l, be_length]) W) (fun W => add_bs _ _ (by simp [l, be_length]) W) (fun W => add_bs _ _ (by simp [l, be_length]) W)
end Go.Proofs.YtljhgehlaehgnaaGreatDoor
