/-
  The document's answer for kinds and nets: the contracts of gangwayref02's Group, Own, size, Net, In, Last and Near.
-/
import Derived.Test.YtmpkeakbcojdeaaGreatDoorRowNet
namespace Go.Proofs.YtmpkeakbcojdeaaGreatDoor
open Go.RowKit Go.Sort

theorem rgroup (m : Nat) (w : World) (hm : m < 18446744073709551616) : Calls Tryz.prog 19 #[.int .u64 m] w fun e w' => e = .returned (.bool (grp m)) ∧ w' = w := by
  go_enter Tryz.func19, Tryz.ntmps19
  go_wp2
  go_ret
  refine ⟨?_, rfl⟩
  show Ending.returned (Value.bool ((m : Int) / 1099511627776 % 2 == 1)) = _
  rw [show (m : Int) / 1099511627776 % 2 = ((m / 1099511627776 % 2 : Nat) : Int) by simp, show (((m / 1099511627776 % 2 : Nat) : Int) == 1) = decide (m / 1099511627776 % 2 = 1) from int_beq _ 1]
  rfl
theorem rown_at (M : Int) (w : World) (g t1 t2 : Bool) (hg : Hid (Calls Tryz.prog 19 #[.int .u64 M] w fun e w' => e = .returned (.bool g) ∧ w' = w)) (h1 : decide (0 < M) = t1) (h2 : decide (M < 281474976710656) = t2) :
    Calls Tryz.prog 21 #[.int .u64 M] w fun e w' => e = .returned (.bool (t1 && t2 && !g)) ∧ w' = w := by
  cases t1 <;> cases t2 <;> cases g
  all_goals
    go_enter Tryz.func21, Tryz.ntmps21
    go_wp2_with (go_at_call 19; refine (unhide hg).mono ?_; rintro e w1 ⟨rfl, rfl⟩)
    go_ret
    exact ⟨rfl, rfl⟩
theorem rown (m : Nat) (w : World) (hm : m < 18446744073709551616) : Calls Tryz.prog 21 #[.int .u64 m] w fun e w' => e = .returned (.bool (ownH m)) ∧ w' = w := by
  have h := rown_at (m : Int) w _ _ _ (hide (rgroup m w hm)) rfl rfl
  have e : (decide (0 < (m : Int)) && decide ((m : Int) < 281474976710656) && !grp m) = ownH m := by
    unfold ownH
    rw [show decide (0 < (m : Int)) = decide (m ≠ 0) from decide_eq_decide.2 (by omega), show decide ((m : Int) < 281474976710656) = decide (m < 281474976710656) from decide_eq_decide.2 (by omega)]
    cases decide (m ≠ 0) <;> cases decide (m < 281474976710656) <;> cases grp m <;> rfl
  rw [e] at h
  exact h
set_option maxRecDepth 20000 in
theorem rsize (ip n : Nat) (w : World) (hn : n ≤ 32) : Calls Tryz.prog 44 #[.agg #[.int .u32 ip, .int .i64 n]] w fun e w' => e = .returned (.int .u64 ((2 ^ (32 - n) : Nat) : Int)) ∧ Below w.heap.size w w' := by
  go_enter Tryz.func44, Tryz.ntmps44
  go_wp2_with fail
  go_loop [3, 4] (fun x i => ∃ k : Nat, n ≤ k ∧ k ≤ 32 ∧ i = .int .i64 k ∧ x = .int .u64 ((2 ^ (k - n) : Nat) : Int)) (fun _ i => 32 - (intOf i).toNat)
  case atStart => exact ⟨n, Nat.le_refl _, hn, rfl, by rw [Nat.sub_self]; rfl⟩
  case round =>
    obtain ⟨k, h1, h2, rfl, rfl⟩ := hrel
    by_cases hlt : k < 32
    · have hle : 2 ^ (k - n) ≤ 4294967296 := (pow_le32 (k - n) (by omega)).2
      have hnx : 2 * 2 ^ (k - n) = 2 ^ (k + 1 - n) := by rw [show k + 1 - n = (k - n) + 1 by omega, Nat.pow_succ, Nat.mul_comm]
      have HN := hide hnx
      clear hnx
      generalize 2 ^ (k - n) = q at hle HN ⊢
      go_wp2_with fail
      go_round
      case rel => exact ⟨k + 1, by omega, by omega, by go_num, by rw [← unhide HN]; rfl⟩
      case measure => simp [intOf]; omega
    · obtain rfl : k = 32 := by omega
      go_wp2_with fail
      go_ret
      exact ⟨rfl, (Below.refl w.heap.size w).alloc (Nat.le_refl _) _⟩
theorem rsize_at (W : World) (ip n : Nat) (hn : n ≤ 32) : ∀ d os, Calls Tryz.prog 44 #[.agg #[.int .u32 ip, .int .i64 n]] (grow (redrawn W d) os) fun e w'' => e = .returned (.int .u64 ((2 ^ (32 - n) : Nat) : Int)) ∧ ∃ p : Regrown, w'' = grow (redrawn W p.d) p.os :=
  fun _ _ => Calls.regrown_of (rsize ip n _ hn)
theorem rnet_few (ip : Nat) (b : Int) (w : World) (hb : b < 0) :
    Calls Tryz.prog 23 #[.agg #[.int .u32 ip, .int .i64 b]] w fun e w' => e = .returned (.bool false) ∧ Below w.heap.size w w' := by
  have h : decide (0 ≤ b) = false := decide_eq_false (by omega)
  go_enter Tryz.func23, Tryz.ntmps23
  go_wp2
  go_quiet (fail)
  go_wp2
  go_ret
  exact ⟨rfl, below_box w _ nq⟩
theorem rnet_many (ip : Nat) (b : Int) (w : World) (hb : 32 < b) :
    Calls Tryz.prog 23 #[.agg #[.int .u32 ip, .int .i64 b]] w fun e w' => e = .returned (.bool false) ∧ Below w.heap.size w w' := by
  have h0 : 0 ≤ b := by omega
  have h : decide (b ≤ 32) = false := decide_eq_false (by omega)
  go_enter Tryz.func23, Tryz.ntmps23
  go_wp2
  go_quiet (fail)
  go_wp2
  go_ret
  exact ⟨rfl, below_box w _ nq⟩
set_option maxRecDepth 20000 in
theorem rnet_some (ip n : Nat) (w : World) (hi : ip < 4294967296) (hn : n ≤ 32) :
    Calls Tryz.prog 23 #[.agg #[.int .u32 ip, .int .i64 n]] w fun e w' => e = .returned (.bool (decide (ip % 2 ^ (32 - n) = 0))) ∧ Below w.heap.size w w' := by
  obtain ⟨W, hW, hb, k0, k1⟩ := boxed w ip n
  have hd : decide ((n : Int) ≤ 32) = true := decide_eq_true (by omega)
  have hd' : (n : Int) ≤ 32 := by omega
  have cS := rsize_at W ip n hn
  have hq : 0 < 2 ^ (32 - n) := Nat.two_pow_pos _
  have hq2 : 2 ^ (32 - n) ≤ 4294967296 := (pow_le32 (32 - n) (by omega)).2
  generalize 2 ^ (32 - n) = q at cS hq hq2 ⊢
  have hqi : (0 : Int) < (q : Int) := by omega
  go_enter Tryz.func23, Tryz.ntmps23
  go_wp2
  rw [← hW]
  clear hW
  refine wp_region_quiet_below (by kernel_rfl) (by kernel_rfl) ?_
  repeat (go_big_quiet_step ((go_at_call 44; exact cS _ _)))
  refine wpQuiet_nil ?_
  rintro _ ⟨⟨dq, osq⟩, rfl⟩
  go_wp2
  go_ret
  refine ⟨?_, below_then w W hb dq osq⟩
  show Ending.returned (Value.bool ((ip : Int) % (q : Int) == 0)) = _
  rw [show (ip : Int) % (q : Int) = ((ip % q : Nat) : Int) by simp, show (((ip % q : Nat) : Int) == 0) = decide (ip % q = 0) from int_beq _ 0]
theorem rnet (ip : Nat) (b : Int) (w : World) (hi : ip < 4294967296) :
    Calls Tryz.prog 23 #[.agg #[.int .u32 ip, .int .i64 b]] w fun e w' => e = .returned (.bool (decide (IsNet ip b))) ∧ Below w.heap.size w w' := by
  by_cases h0 : b < 0
  · rw [decide_eq_false (show ¬ IsNet ip b from fun h => by have := h.1; omega)]; exact rnet_few ip b w h0
  · by_cases h1 : 32 < b
    · rw [decide_eq_false (show ¬ IsNet ip b from fun h => by have := h.2.1; omega)]; exact rnet_many ip b w h1
    · obtain ⟨n, rfl⟩ : ∃ n : Nat, b = n := ⟨b.toNat, by omega⟩
      have e : decide (IsNet ip n) = decide (ip % 2 ^ (32 - n) = 0) := decide_eq_decide.2 ⟨fun h => h.2.2, fun h => ⟨by omega, by omega, h⟩⟩
      rw [e]; exact rnet_some ip n w hi (by omega)
theorem rnet_at (W : World) (ip : Nat) (b : Int) (hi : ip < 4294967296) (t : Bool) (h : decide (IsNet ip b) = t) : ∀ d os, Calls Tryz.prog 23 #[.agg #[.int .u32 ip, .int .i64 b]] (grow (redrawn W d) os) fun e w'' => e = .returned (.bool t) ∧ ∃ p : Regrown, w'' = grow (redrawn W p.d) p.os :=
  fun d os => Calls.regrown_of (by have := rnet ip b (grow (redrawn W d) os) hi; rw [h] at this; exact this)

theorem rin_not (ip : Nat) (b : Int) (a : Nat) (w : World) (hi : ip < 4294967296) (h : ¬ IsNet ip b) :
    Calls Tryz.prog 25 #[.agg #[.int .u32 ip, .int .i64 b], .int .u32 a] w fun e w' => e = .returned (.bool false) ∧ Below w.heap.size w w' := by
  obtain ⟨W, hW, hb, k0, k1⟩ := boxed w ip b
  have cN := rnet_at W ip b hi false (decide_eq_false h)
  go_enter Tryz.func25, Tryz.ntmps25
  go_wp2
  rw [← hW]
  clear hW
  refine wp_region_quiet_below (by kernel_rfl) (by kernel_rfl) ?_
  repeat (go_big_quiet_step ((go_at_call 23; exact cN _ _)))
  refine wpQuiet_nil ?_
  rintro _ ⟨⟨dq, osq⟩, rfl⟩
  go_wp2
  go_ret
  exact ⟨rfl, below_then w W hb dq osq⟩
set_option maxRecDepth 20000 in
theorem rin_some (ip n a : Nat) (w : World) (hi : ip < 4294967296) (ha : a < 4294967296) (hn : n ≤ 32) (h : IsNet ip n) (t1 t2 : Bool) (h1 : decide ((ip : Int) ≤ (a : Int)) = t1) (h2 : decide ((a : Int) - (ip : Int) < ((2 ^ (32 - n) : Nat) : Int)) = t2) :
    Calls Tryz.prog 25 #[.agg #[.int .u32 ip, .int .i64 n], .int .u32 a] w fun e w' => e = .returned (.bool (t1 && t2)) ∧ Below w.heap.size w w' := by
  obtain ⟨W, hW, hb, k0, k1⟩ := boxed w ip n
  have cN := rnet_at W ip n hi true (decide_eq_true h)
  have cS := rsize_at W ip n hn
  generalize 2 ^ (32 - n) = q at cS h2
  have h1n : decide (ip ≤ a) = t1 := by rw [← h1]; exact decide_eq_decide.2 (by omega)
  have hle : t1 = true → (ip : Int) ≤ (a : Int) := fun e => of_decide_eq_true (h1.trans e)
  clear h
  cases t1
  · go_enter Tryz.func25, Tryz.ntmps25
    go_wp2
    rw [← hW]
    clear hW
    refine wp_region_quiet_below (by kernel_rfl) (by kernel_rfl) ?_
    repeat (go_big_quiet_step (first | (go_at_call 23; exact cN _ _) | (go_at_call 44; exact cS _ _)))
    refine wpQuiet_nil ?_
    rintro _ ⟨⟨dq, osq⟩, rfl⟩
    go_wp2
    go_ret
    exact ⟨rfl, below_then w W hb dq osq⟩
  · have hle := hle rfl
    go_enter Tryz.func25, Tryz.ntmps25
    go_wp2
    rw [← hW]
    clear hW
    refine wp_region_quiet_below (by kernel_rfl) (by kernel_rfl) ?_
    repeat (go_big_quiet_step (first | (go_at_call 23; exact cN _ _) | (go_at_call 44; exact cS _ _)))
    refine wpQuiet_nil ?_
    rintro _ ⟨⟨dq, osq⟩, rfl⟩
    go_wp2
    go_ret
    exact ⟨rfl, below_then w W hb dq osq⟩
theorem rin (ip : Nat) (b : Int) (a : Nat) (w : World) (hi : ip < 4294967296) (ha : a < 4294967296) :
    Calls Tryz.prog 25 #[.agg #[.int .u32 ip, .int .i64 b], .int .u32 a] w fun e w' => e = .returned (.bool (decide (InNet ip b a))) ∧ Below w.heap.size w w' := by
  by_cases h : IsNet ip b
  · obtain ⟨n, rfl⟩ : ∃ n : Nat, b = n := ⟨b.toNat, by have := h.1; omega⟩
    have r := rin_some ip n a w hi ha (by have := h.2.1; omega) h _ _ rfl rfl
    rw [← Bool.decide_and] at r
    have e : decide (InNet ip n a) = decide ((ip : Int) ≤ (a : Int) ∧ (a : Int) - (ip : Int) < ((2 ^ (32 - n) : Nat) : Int)) := by
      refine decide_eq_decide.2 ⟨fun x => ?_, fun x => ⟨h, ?_, ?_⟩⟩
      · have h1 := x.2.1
        have h2 : a < ip + 2 ^ (32 - n) := x.2.2
        exact ⟨by omega, by omega⟩
      · have := x.1; omega
      · show a < ip + 2 ^ (32 - n)
        have := x.1; have := x.2; omega
    rw [e]; exact r
  · rw [decide_eq_false (show ¬ InNet ip b a from fun x => h x.1)]; exact rin_not ip b a w hi h
set_option maxRecDepth 20000 in
theorem rlast_not (ip : Nat) (b : Int) (w : World) (hi : ip < 4294967296) (h : ¬ IsNet ip b) :
    Calls Tryz.prog 27 #[.agg #[.int .u32 ip, .int .i64 b]] w fun e w' => e = .returned (.int .u32 0) ∧ Below w.heap.size w w' := by
  have hd := decide_eq_false h
  go_enter Tryz.func27, Tryz.ntmps27
  go_wp2_with fail
  refine (rnet ip b _ hi).mono ?_
  rw [hd]
  rintro e w1 ⟨rfl, b1⟩
  go_wp2_with fail
  go_ret
  exact ⟨rfl, box_then b1⟩
set_option maxRecDepth 20000 in
theorem rlast_some (ip n : Nat) (w : World) (hi : ip < 4294967296) (hn : n ≤ 32) (h : IsNet ip n) :
    Calls Tryz.prog 27 #[.agg #[.int .u32 ip, .int .i64 n]] w fun e w' => e = .returned (.int .u32 ((ip + (2 ^ (32 - n) - 1) : Nat) : Int)) ∧ Below w.heap.size w w' := by
  have hd := decide_eq_true h
  have hbd : ip + 2 ^ (32 - n) ≤ 4294967296 := net_bound ip n hi h
  have hq : 1 ≤ 2 ^ (32 - n) := Nat.one_le_two_pow
  have hS := fun W => rsize_at W ip n hn
  generalize 2 ^ (32 - n) = q at hbd hq hS ⊢
  have hq1 : (1 : Int) ≤ (q : Int) := by omega
  have hbi : (ip : Int) + (q : Int) ≤ 4294967296 := by omega
  go_enter Tryz.func27, Tryz.ntmps27
  go_wp2_with fail
  refine (rnet ip n _ hi).mono ?_
  rw [hd]
  rintro e w1 ⟨rfl, b1⟩
  have hb := box_then b1
  have c0 := (b1.cell (p := ⟨w.heap.size, 0, none⟩) (by simp)).trans (show _ = some (Value.int .u32 ip) by simp)
  have c1 := (b1.cell (p := ⟨w.heap.size, 1, none⟩) (by simp)).trans (show _ = some (Value.int .i64 n) by simp)
  have k0 := cell_regrown c0
  have k1 := cell_regrown c1
  have cS := hS w1
  clear b1 hS h hd
  go_wp2_with fail
  refine wp_region_quiet_below (by kernel_rfl) (by kernel_rfl) ?_
  repeat (go_big_quiet_step ((go_at_call 44; exact cS _ _)))
  refine wpQuiet_nil ?_
  rintro _ ⟨⟨dq, osq⟩, rfl⟩
  go_wp2
  go_ret
  refine ⟨?_, below_then w w1 hb dq osq⟩
  show Ending.returned (Value.int .u32 ((ip : Int) + (q : Int) - 1)) = _
  rw [show (ip : Int) + (q : Int) - 1 = ((ip + (q - 1) : Nat) : Int) by omega]
theorem rlast (ip : Nat) (b : Int) (w : World) (hi : ip < 4294967296) :
    Calls Tryz.prog 27 #[.agg #[.int .u32 ip, .int .i64 b]] w fun e w' => e = .returned (.int .u32 ((lastOf ip b : Nat) : Int)) ∧ Below w.heap.size w w' := by
  by_cases h : IsNet ip b
  · obtain ⟨n, rfl⟩ : ∃ n : Nat, b = n := ⟨b.toNat, by have := h.1; omega⟩
    rw [lastOf, if_pos h]; exact rlast_some ip n w hi (by have := h.2.1; omega) h
  · rw [lastOf, if_neg h]; exact rlast_not ip b w hi h
theorem rlast_at (W : World) (ip : Nat) (b : Int) (hi : ip < 4294967296) : ∀ d os, Calls Tryz.prog 27 #[.agg #[.int .u32 ip, .int .i64 b]] (grow (redrawn W d) os) fun e w'' => e = .returned (.int .u32 ((lastOf ip b : Nat) : Int)) ∧ ∃ p : Regrown, w'' = grow (redrawn W p.d) p.os :=
  fun d os => Calls.regrown_of (rlast ip b (grow (redrawn W d) os) hi)
set_option maxRecDepth 20000 in
set_option maxHeartbeats 1000000 in
theorem rnear_go (ip : Nat) (b : Int) (jp : Nat) (c : Int) (w : World) (hi : ip < 4294967296) (hj : jp < 4294967296) (t1 t2 t3 t4 : Bool) (h1 : decide (IsNet ip b) = t1) (h2 : decide (IsNet jp c) = t2) (h3 : decide ((jp : Int) ≤ (ip : Int)) = t3) (h4 : decide (((lastOf ip b : Nat) : Int) ≤ ((lastOf jp c : Nat) : Int)) = t4) :
    Calls Tryz.prog 29 #[.agg #[.int .u32 ip, .int .i64 b], .agg #[.int .u32 jp, .int .i64 c]] w fun e w' => e = .returned (.bool (t1 && t2 && t3 && t4)) ∧ Below w.heap.size w w' := by
  obtain ⟨W, hW, hb, k0, k1, k2, k3⟩ := boxed2 w ip b jp c
  have cN := rnet_at W ip b hi t1 h1
  have cM := rnet_at W jp c hj t2 h2
  have cL := rlast_at W ip b hi
  have cK := rlast_at W jp c hj
  have h3n : decide (jp ≤ ip) = t3 := by rw [← h3]; exact decide_eq_decide.2 (by omega)
  generalize lastOf ip b = l at cL h4
  generalize lastOf jp c = k at cK h4
  have h4n : decide (l ≤ k) = t4 := by rw [← h4]; exact decide_eq_decide.2 (by omega)
  clear h1 h2
  cases t1 <;> cases t2 <;> cases t3
  all_goals
    go_enter Tryz.func29, Tryz.ntmps29
    go_wp2
    rw [← hW]
    clear hW
    refine wp_region_quiet_below (by kernel_rfl) (by kernel_rfl) ?_
    repeat (go_big_quiet_step (first | (go_at_call_of 23 ip; exact cN _ _) | (go_at_call_of 23 jp; exact cM _ _) | (go_at_call_of 27 ip; exact cL _ _) | (go_at_call_of 27 jp; exact cK _ _)))
    refine wpQuiet_nil ?_
    rintro _ ⟨⟨dq, osq⟩, rfl⟩
    go_wp2
    go_ret
    exact ⟨rfl, below_then w W hb dq osq⟩
theorem rnear (ip : Nat) (b : Int) (jp : Nat) (c : Int) (w : World) (hi : ip < 4294967296) (hj : jp < 4294967296) :
    Calls Tryz.prog 29 #[.agg #[.int .u32 ip, .int .i64 b], .agg #[.int .u32 jp, .int .i64 c]] w fun e w' => e = .returned (.bool (decide (NearNet ip b jp c))) ∧ Below w.heap.size w w' := by
  have h := rnear_go ip b jp c w hi hj _ _ _ _ rfl rfl rfl rfl
  have e : (decide (IsNet ip b) && decide (IsNet jp c) && decide ((jp : Int) ≤ (ip : Int)) && decide (((lastOf ip b : Nat) : Int) ≤ ((lastOf jp c : Nat) : Int))) = decide (NearNet ip b jp c) := by
    rw [← Bool.decide_and, ← Bool.decide_and, ← Bool.decide_and]
    have hw := wide_pos b
    have hv := wide_pos c
    refine decide_eq_decide.2 ⟨?_, ?_⟩
    · rintro ⟨⟨⟨x, y⟩, z⟩, u⟩
      rw [lastOf, lastOf, if_pos x, if_pos y] at u
      exact ⟨x, y, by omega, by omega⟩
    · rintro ⟨x, y, z, u⟩
      refine ⟨⟨⟨x, y⟩, by omega⟩, ?_⟩
      rw [lastOf, lastOf, if_pos x, if_pos y]
      omega
  rw [e] at h
  exact h
theorem rin_at (W : World) (ip : Nat) (b : Int) (a : Nat) (hi : ip < 4294967296) (ha : a < 4294967296) (t : Bool) (h : decide (InNet ip b a) = t) : ∀ d os, Calls Tryz.prog 25 #[.agg #[.int .u32 ip, .int .i64 b], .int .u32 a] (grow (redrawn W d) os) fun e w'' => e = .returned (.bool t) ∧ ∃ p : Regrown, w'' = grow (redrawn W p.d) p.os :=
  fun d os => Calls.regrown_of (by have := rin ip b a (grow (redrawn W d) os) hi ha; rw [h] at this; exact this)
theorem rnear_at (W : World) (ip : Nat) (b : Int) (jp : Nat) (c : Int) (hi : ip < 4294967296) (hj : jp < 4294967296) (t : Bool) (h : decide (NearNet ip b jp c) = t) : ∀ d os, Calls Tryz.prog 29 #[.agg #[.int .u32 ip, .int .i64 b], .agg #[.int .u32 jp, .int .i64 c]] (grow (redrawn W d) os) fun e w'' => e = .returned (.bool t) ∧ ∃ p : Regrown, w'' = grow (redrawn W p.d) p.os :=
  fun d os => Calls.regrown_of (by have := rnear ip b jp c (grow (redrawn W d) os) hi hj; rw [h] at this; exact this)
end Go.Proofs.YtmpkeakbcojdeaaGreatDoor
