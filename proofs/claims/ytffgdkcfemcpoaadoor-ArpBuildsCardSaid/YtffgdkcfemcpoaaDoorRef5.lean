/-
  The document's answer for messages: the contracts of gangwayref01's Num and gangwayref05's Check, Laid, Build and Parse.
-/
import Derived.Test.YtffgdkcfemcpoaaDoorFixed5
import Derived.Test.YtffgdkcfemcpoaaDoorRefOwn5
import Derived.Deep.RegionHeld3
namespace Go.Proofs.YtffgdkcfemcpoaaDoor
open Go.RowKit Go.Sort

theorem take_next (l : List UInt8) (k : Nat) (h : k < l.length) : l.take (k + 1) = l.take k ++ [l[k]] := by
  rw [List.take_add_one, List.getElem?_eq_getElem h]; rfl
set_option maxRecDepth 20000 in
theorem rnum (l : List UInt8) (w : World) (hl : l.length ≤ 7) :
    Calls Tryd.prog 23 #[.string (bs l)] w fun e w' => e = .returned (.int .u64 ((num l : Nat) : Int)) ∧ w' = w := by
  have hsz : (bs l).size = l.length := bs_size l
  go_enter Tryd.func23, Tryd.ntmps23
  go_wp2_with fail
  go_loop [3, 4] (fun x i => ∃ k : Nat, k ≤ l.length ∧ i = .int .i64 k ∧ x = .int .u64 ((num (l.take k) : Nat) : Int)) (fun _ i => l.length - (intOf i).toNat)
  case atStart => exact ⟨0, Nat.zero_le _, rfl, rfl⟩
  case round =>
    obtain ⟨k, hk, rfl, rfl⟩ := hrel
    by_cases hlt : k < l.length
    · have hix : ((bs l)[k]'(by omega)).toNat = (l[k]).toNat := rfl
      have hx8 : (l[k]).toNat < 256 := (l[k]).toNat_lt
      have hns : num (l.take (k + 1)) = num (l.take k) * 256 + (l[k]).toNat := by rw [take_next l k hlt, num_snoc]
      have hm : num (l.take k) < 281474976710656 := Nat.lt_of_lt_of_le (num_lt _) (by
        rw [List.length_take, Nat.min_eq_left (Nat.le_of_lt hlt)]
        exact Nat.le_trans (Nat.pow_le_pow_right (n := 256) (by omega) (show k ≤ 6 by omega)) (by decide))
      have hmi : ((num (l.take k) : Nat) : Int) < 281474976710656 := by omega
      have HNS := hide hns
      clear hns hm
      generalize num (l.take k) = m at hmi HNS ⊢
      generalize (l[k]).toNat = x at hix hx8 HNS
      go_wp2_with fail
      go_round
      case rel => exact ⟨k + 1, by omega, by go_num, by rw [unhide HNS]; rfl⟩
      case measure => simp [intOf]; omega
    · obtain rfl : k = l.length := by omega
      rw [List.take_length]
      go_wp2_with fail
      go_ret
      exact ⟨rfl, rfl⟩
set_option maxRecDepth 100000 in
theorem rcheck_at (op S I T J : Int) (t1 t2 o t : Bool) (w : World) (h1 : decide (op < 1) = t1) (h2 : decide (2 < op) = t2)
    (cO : Hid (∀ W, Calls Tryd.prog 16 #[.int .u64 S] W fun e W' => e = .returned (.bool o) ∧ W' = W)) (hT : (T / 281474976710656 != 0) = t) :
    Calls Tryd.prog 13 #[.agg #[.int .i64 op, .int .u64 S, .int .u32 I, .int .u64 T, .int .u32 J]] w fun e w' => e = .returned (.int .i64 (if t1 || t2 || !o || t then 51 else 0)) ∧ Below w.heap.size w w' := by
  cases t1 <;> cases t2 <;> cases o <;> cases t
  all_goals
    go_enter Tryd.func13, Tryd.ntmps13
    go_wp2_with (go_at_call 16; refine (unhide cO _).mono ?_; rintro e w1 ⟨rfl, rfl⟩)
    go_ret
    exact ⟨rfl, alloc_below _ _⟩
theorem rcheck_any (a : Ar) (w : World) (h : a.fits) : Calls Tryd.prog 13 #[a.val] w fun e w' => e = .returned (.int .i64 a.check) ∧ Below w.heap.size w w' := by
  obtain ⟨op, s, i, t, j⟩ := a
  obtain ⟨_, hs, _, ht, _⟩ := h
  simp only at hs ht
  have c := rcheck_at op s i t j _ _ (ownH s) _ w rfl rfl (hide fun W => rown s W hs) rfl
  have e : (if (decide (op < 1) || decide (2 < op) || !(ownH s) || ((t : Int) / 281474976710656 != 0)) = true then (51 : Int) else 0) = (Ar.mk op s i t j).check := by
    have e1 : ((t : Int) / 281474976710656 != 0) = decide (281474976710656 ≤ t) := by
      by_cases b : 281474976710656 ≤ t
      · rw [decide_eq_true b, bne_iff_ne]; omega
      · rw [decide_eq_false b]
        have : (t : Int) / 281474976710656 = 0 := by omega
        rw [this]; rfl
    rw [e1]
    unfold Ar.check
    simp only
    by_cases a1 : op < 1 <;> by_cases a2 : 2 < op <;> by_cases b : 281474976710656 ≤ t <;> cases ownH s <;> simp [a1, a2, b] <;> omega
  rw [e] at c
  exact c
set_option maxRecDepth 100000 in
set_option maxHeartbeats 4000000 in
theorem laid_at (op s i t j : Nat) (B0 B1 B2 B3 B4 X0 X1 X2 X3 X4 : ByteArray) (w : World) (hop : op < 9223372036854775808) (hi : i < 4294967296) (hj : j < 4294967296)
    (c0 : ∀ W, Calls Tryd.prog 32 #[.int .u64 op, .int .i64 2] W fun e W' => e = .returned (.string B0) ∧ Below W.heap.size W W')
    (c1 : ∀ W, Calls Tryd.prog 32 #[.int .u64 s, .int .i64 6] W fun e W' => e = .returned (.string B1) ∧ Below W.heap.size W W')
    (c2 : ∀ W, Calls Tryd.prog 32 #[.int .u64 i, .int .i64 4] W fun e W' => e = .returned (.string B2) ∧ Below W.heap.size W W')
    (c3 : ∀ W, Calls Tryd.prog 32 #[.int .u64 t, .int .i64 6] W fun e W' => e = .returned (.string B3) ∧ Below W.heap.size W W')
    (c4 : ∀ W, Calls Tryd.prog 32 #[.int .u64 j, .int .i64 4] W fun e W' => e = .returned (.string B4) ∧ Below W.heap.size W W')
    (g0 : ∀ W, (Op.stringOp .add ⟨#[0, 1, 8, 0, 6, 4]⟩ B0).run Tryd.prog W = .ok (.string X0) W) (g1 : ∀ W, (Op.stringOp .add X0 B1).run Tryd.prog W = .ok (.string X1) W)
    (g2 : ∀ W, (Op.stringOp .add X1 B2).run Tryd.prog W = .ok (.string X2) W) (g3 : ∀ W, (Op.stringOp .add X2 B3).run Tryd.prog W = .ok (.string X3) W) (g4 : ∀ W, (Op.stringOp .add X3 B4).run Tryd.prog W = .ok (.string X4) W) :
    Calls Tryd.prog 20 #[.agg #[.int .i64 op, .int .u64 s, .int .u32 i, .int .u64 t, .int .u32 j]] w fun e w' => e = .returned (.string X4) ∧ Below w.heap.size w w' := by
  have e1 : IntKind.u64.wrap (op : Int) = (op : Int) := u64_id op (by omega)
  have e2 : IntKind.u64.wrap (i : Int) = (i : Int) := u64_id i (by omega)
  have e3 : IntKind.u64.wrap (j : Int) = (j : Int) := u64_id j (by omega)
  clear hop hi hj
  go_enter Tryd.func20, Tryd.ntmps20
  go_wp2_with fail
  have hr := heap_alloc_new w (.cells #[.int .i64 op, .int .u64 s, .int .u32 i, .int .u64 t, .int .u32 j] 25)
  have hb := alloc_below w (.cells #[.int .i64 op, .int .u64 s, .int .u32 i, .int .u64 t, .int .u32 j] 25)
  generalize w.alloc (.cells #[.int .i64 op, .int .u64 s, .int .u32 i, .int .u64 t, .int .u32 j] 25) = w1 at *
  obtain ⟨k0, k1, k2, k3, k4, _⟩ := cells5 hr
  have d0 := at_grown c0 w1
  have d1 := at_grown c1 w1
  have d2 := at_grown c2 w1
  have d3 := at_grown c3 w1
  have d4 := at_grown c4 w1
  have q0 := cell_regrown k0
  have q1 := cell_regrown k1
  have q2 := cell_regrown k2
  have q3 := cell_regrown k3
  have q4 := cell_regrown k4
  clear k0 k1 k2 k3 k4 c0 c1 c2 c3 c4 hr
  refine wp_region_quiet_below (by kernel_rfl) (by kernel_rfl) ?_
  repeat (go_big_quiet_step (first | (go_at_call_of 32 op; exact d0 _ _) | (go_at_call_of 32 s; exact d1 _ _) | (go_at_call_of 32 i; exact d2 _ _) | (go_at_call_of 32 t; exact d3 _ _) | (go_at_call_of 32 j; exact d4 _ _)))
  refine wpQuiet_nil ?_
  rintro _ ⟨⟨dq, osq⟩, rfl⟩
  go_wp2
  go_ret
  exact ⟨rfl, grown_then hb dq osq⟩
theorem laid_any (a : Ar) (w : World) (h : a.fits) (ho : 0 ≤ a.op) : Calls Tryd.prog 20 #[a.val] w fun e w' => e = .returned (.string (bs a.bytes)) ∧ Below w.heap.size w w' := by
  obtain ⟨op, s, i, t, j⟩ := a
  obtain ⟨h0, hs, hi, ht, hj⟩ := h
  simp only at h0 hs hi ht hj ho
  obtain ⟨o, rfl⟩ : ∃ o : Nat, op = o := ⟨op.toNat, by omega⟩
  have e : (Ar.mk o s i t j).bytes = arpHead ++ be o 2 ++ be s 6 ++ be i 4 ++ be t 6 ++ be j 4 := by
    unfold Ar.bytes
    simp
  rw [e]
  have l : arpHead.length = 6 := rfl
  exact laid_at o s i t j _ _ _ _ _ _ _ _ _ _ w (by omega) hi hj (fun W => rbytes o 2 W (by decide) (by omega)) (fun W => rbytes s 6 W (by decide) hs) (fun W => rbytes i 4 W (by decide) (by omega)) (fun W => rbytes t 6 W (by decide) ht) (fun W => rbytes j 4 W (by decide) (by omega))
    (fun W => add_bs arpHead _ (by simp [l, be_length]) W) (fun W => add_bs _ _ (by simp [l, be_length]) W) (fun W => add_bs _ _ (by simp [l, be_length]) W) (fun W => add_bs _ _ (by simp [l, be_length]) W) (fun W => add_bs _ _ (by simp [l, be_length]) W)
theorem rbuild_any (a : Ar) (w : World) (h : a.fits) : Calls Tryd.prog 8 #[a.val] w fun e w' => e = .returned (.tuple #[.string (bs a.built), .int .i64 a.check]) ∧ Below w.heap.size w w' := by
  have K := hide fun W => rcheck_any a W h
  unfold Ar.built
  by_cases c : a.check = 0
  · rw [if_pos c]
    have D := hide fun W => laid_any a W h (by have := (arp_check_spec c).1; omega)
    rw [c] at K ⊢
    generalize a.bytes = l at D ⊢
    clear c h
    obtain ⟨op, s, i, t, j⟩ := a
    unfold Ar.val at *
    simp only at *
    go_enter Tryd.func8, Tryd.ntmps8
    go_wp2_with fail
    refine (unhide K _).mono ?_
    rintro e w1 ⟨rfl, b1⟩
    have hb := bthen (alloc_below w _) b1
    have hr := Below.row b1 (heap_alloc_new w _)
    obtain ⟨c0, c1, c2, c3, c4, _⟩ := cells5 hr
    clear b1 K hr
    go_wp2_with fail
    refine (unhide D _).mono ?_
    rintro e w2 ⟨rfl, b2⟩
    have hb2 := bthen hb b2
    go_wp2_with fail
    go_ret2
    exact ⟨rfl, hb2⟩
  · rw [if_neg c]
    have hz : (a.check != 0) = true := by simpa using c
    clear c h
    obtain ⟨op, s, i, t, j⟩ := a
    unfold Ar.val at *
    generalize (Ar.mk op s i t j).check = c at *
    go_enter Tryd.func8, Tryd.ntmps8
    go_wp2_with fail
    refine (unhide K _).mono ?_
    rintro e w1 ⟨rfl, b1⟩
    have hb := bthen (alloc_below w _) b1
    clear b1 K
    go_wp2_with fail
    go_ret2
    exact ⟨rfl, hb⟩
end Go.Proofs.YtffgdkcfemcpoaaDoor
