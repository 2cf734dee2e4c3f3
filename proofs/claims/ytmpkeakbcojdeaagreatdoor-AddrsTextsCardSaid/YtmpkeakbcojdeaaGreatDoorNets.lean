/-
  The contracts of addrs.first, Net, In, Last and Near: what they answer, for every net and address; nothing that was there before has turned.
-/
import Derived.Test.YtmpkeakbcojdeaaGreatDoorNetPlain
import Derived.Test.YtmpkeakbcojdeaaGreatDoorInfo
import Derived.BigQuiet
import Derived.Lib.QuietBelow
import Derived.Deep.RegionWith
namespace Go.Proofs.YtmpkeakbcojdeaaGreatDoor
open Go.RowKit Go.Sort

theorem first_ok (n : Nat) (w : World) (h : n ≤ 32) : Calls Tryz.prog 43 #[.int .i64 n] w fun e w' => e = .returned (.int .u32 ((mask (32 - n) : Nat) : Int)) ∧ w' = w := by
  have hm := mask_shift n h
  go_enter Tryz.func43, Tryz.ntmps43
  go_wp2
  go_ret
  exact ⟨by rw [hm]; rfl, rfl⟩

theorem below_box (w : World) (o : Obj) (n : Nat) : Below w.heap.size w ((w.alloc o).drewN n) :=
  ((Below.refl w.heap.size w).alloc (Nat.le_refl _) o).trans ⟨rfl, rfl, rfl, Nat.le_refl _, fun _ _ => rfl⟩
theorem int_beq (a b : Nat) : ((a : Int) == (b : Int)) = decide (a = b) := by
  by_cases h : a = b
  · subst h; simp
  · rw [decide_eq_false h, beq_eq_false_iff_ne]; omega
theorem net_some (ip n : Nat) (w : World) (hi : ip < 4294967296) (hn : n ≤ 32) :
    Calls Tryz.prog 22 #[.agg #[.int .u32 ip, .int .i64 n]] w fun e w' => e = .returned (.bool (decide (ip % 2 ^ (32 - n) = 0))) ∧ Below w.heap.size w w' := by
  have hlow := low_bits ip (32 - n) hi (by omega)
  generalize ip % 2 ^ (32 - n) = r at hlow ⊢
  have hd : decide ((n : Int) ≤ 32) = true := decide_eq_true (by omega)
  have hd' : (n : Int) ≤ 32 := by omega
  go_enter Tryz.func22, Tryz.ntmps22
  go_wp2
  go_quiet ((go_at_call 43; exact Calls.quiet_of_same (first_ok n _ hn)))
  go_wp2
  go_ret
  exact ⟨by show Ending.returned (Value.bool ((r : Int) == 0)) = _; rw [show ((r : Int) == 0) = decide (r = 0) from int_beq r 0], below_box w _ nq⟩
theorem net_few (ip : Nat) (b : Int) (w : World) (hb : b < 0) :
    Calls Tryz.prog 22 #[.agg #[.int .u32 ip, .int .i64 b]] w fun e w' => e = .returned (.bool false) ∧ Below w.heap.size w w' := by
  have h : decide (0 ≤ b) = false := decide_eq_false (by omega)
  go_enter Tryz.func22, Tryz.ntmps22
  go_wp2
  go_quiet (fail)
  go_wp2
  go_ret
  exact ⟨rfl, below_box w _ nq⟩
theorem net_many (ip : Nat) (b : Int) (w : World) (hb : 32 < b) :
    Calls Tryz.prog 22 #[.agg #[.int .u32 ip, .int .i64 b]] w fun e w' => e = .returned (.bool false) ∧ Below w.heap.size w w' := by
  have h0 : 0 ≤ b := by omega
  have h : decide (b ≤ 32) = false := decide_eq_false (by omega)
  go_enter Tryz.func22, Tryz.ntmps22
  go_wp2
  go_quiet (fail)
  go_wp2
  go_ret
  exact ⟨rfl, below_box w _ nq⟩
theorem net_any (ip : Nat) (b : Int) (w : World) (hi : ip < 4294967296) :
    Calls Tryz.prog 22 #[.agg #[.int .u32 ip, .int .i64 b]] w fun e w' => e = .returned (.bool (decide (IsNet ip b))) ∧ Below w.heap.size w w' := by
  by_cases h0 : b < 0
  · rw [decide_eq_false (show ¬ IsNet ip b from fun h => by have := h.1; omega)]; exact net_few ip b w h0
  · by_cases h1 : 32 < b
    · rw [decide_eq_false (show ¬ IsNet ip b from fun h => by have := h.2.1; omega)]; exact net_many ip b w h1
    · obtain ⟨n, rfl⟩ : ∃ n : Nat, b = n := ⟨b.toNat, by omega⟩
      have e : decide (IsNet ip n) = decide (ip % 2 ^ (32 - n) = 0) := decide_eq_decide.2 ⟨fun h => h.2.2, fun h => ⟨by omega, by omega, h⟩⟩
      rw [e]; exact net_some ip n w hi (by omega)

/-- a contract that leaves the world as it was, in a world with more blocks -/
theorem same_regrown {P : Program} {f : FuncId} {args : Array Value} {w : World} {d : Nat} {os : Array Obj} {v : Value}
    (h : Calls P f args (grow (redrawn w d) os) fun e w' => e = .returned v ∧ w' = grow (redrawn w d) os) : Calls P f args (grow (redrawn w d) os) fun e w'' => e = .returned v ∧ ∃ p : Regrown, w'' = grow (redrawn w p.d) p.os :=
  h.mono fun _ _ ⟨he, hw⟩ => ⟨he, ⟨d, os⟩, hw⟩
/-- a net in a block of its own, ahead of whatever else has been laid -/
theorem boxed (w : World) (ip : Nat) (b : Int) : ∃ W, W = w.alloc (.cells #[.int .u32 ip, .int .i64 b] 34) ∧ Below w.heap.size w W ∧
    (∀ d os, (grow (redrawn W d) os).cell? ⟨w.heap.size, 0, none⟩ = some (.int .u32 ip)) ∧ (∀ d os, (grow (redrawn W d) os).cell? ⟨w.heap.size, 1, none⟩ = some (.int .i64 b)) :=
  ⟨_, rfl, (Below.refl w.heap.size w).alloc (Nat.le_refl _) _, cell_regrown (by simp), cell_regrown (by simp)⟩
theorem below_then (w W : World) (h : Below w.heap.size w W) (d : Nat) (os : Array Obj) : Below w.heap.size w (grow (redrawn W d) os) := h.trans ((below_regrown W d os).mono h.size)
/-- Net's contract in such a world -/
theorem net_at (W : World) (ip : Nat) (b : Int) (hi : ip < 4294967296) (t : Bool) (h : decide (IsNet ip b) = t) : ∀ d os, Calls Tryz.prog 22 #[.agg #[.int .u32 ip, .int .i64 b]] (grow (redrawn W d) os) fun e w'' => e = .returned (.bool t) ∧ ∃ p : Regrown, w'' = grow (redrawn W p.d) p.os :=
  fun d os => Calls.regrown_of (by have := net_any ip b (grow (redrawn W d) os) hi; rw [h] at this; exact this)
theorem first_at (W : World) (n : Nat) (hn : n ≤ 32) : ∀ d os, Calls Tryz.prog 43 #[.int .i64 n] (grow (redrawn W d) os) fun e w'' => e = .returned (.int .u32 ((mask (32 - n) : Nat) : Int)) ∧ ∃ p : Regrown, w'' = grow (redrawn W p.d) p.os :=
  fun _ _ => same_regrown (first_ok n _ hn)

theorem in_not (ip : Nat) (b : Int) (a : Nat) (w : World) (hi : ip < 4294967296) (h : ¬ IsNet ip b) :
    Calls Tryz.prog 24 #[.agg #[.int .u32 ip, .int .i64 b], .int .u32 a] w fun e w' => e = .returned (.bool false) ∧ Below w.heap.size w w' := by
  obtain ⟨W, hW, hb, k0, k1⟩ := boxed w ip b
  have cN := net_at W ip b hi false (decide_eq_false h)
  go_enter Tryz.func24, Tryz.ntmps24
  go_wp2
  rw [← hW]
  clear hW
  refine wp_region_quiet_below (by kernel_rfl) (by kernel_rfl) ?_
  repeat (go_big_quiet_step ((go_at_call 22; exact cN _ _)))
  refine wpQuiet_nil ?_
  rintro _ ⟨⟨dq, osq⟩, rfl⟩
  go_wp2
  go_ret
  exact ⟨rfl, below_then w W hb dq osq⟩
theorem in_some (ip n a : Nat) (w : World) (hi : ip < 4294967296) (ha : a < 4294967296) (hn : n ≤ 32) (h : ip % 2 ^ (32 - n) = 0) :
    Calls Tryz.prog 24 #[.agg #[.int .u32 ip, .int .i64 n], .int .u32 a] w fun e w' => e = .returned (.bool (decide (a / 2 ^ (32 - n) * 2 ^ (32 - n) = ip))) ∧ Below w.heap.size w w' := by
  obtain ⟨W, hW, hb, k0, k1⟩ := boxed w ip n
  have cN := net_at W ip n hi true (decide_eq_true ⟨by omega, by omega, h⟩)
  have cF := first_at W n hn
  have hh := high_bits a (32 - n) ha (by omega)
  generalize a / 2 ^ (32 - n) * 2 ^ (32 - n) = r at hh ⊢
  clear h
  go_enter Tryz.func24, Tryz.ntmps24
  go_wp2
  rw [← hW]
  clear hW
  refine wp_region_quiet_below (by kernel_rfl) (by kernel_rfl) ?_
  repeat (go_big_quiet_step (first | (go_at_call 22; exact cN _ _) | (go_at_call 43; exact cF _ _)))
  refine wpQuiet_nil ?_
  rintro _ ⟨⟨dq, osq⟩, rfl⟩
  go_wp2
  go_ret
  exact ⟨by show Ending.returned (Value.bool ((r : Int) == (ip : Int))) = _; rw [int_beq r ip], below_then w W hb dq osq⟩
theorem in_any (ip : Nat) (b : Int) (a : Nat) (w : World) (hi : ip < 4294967296) (ha : a < 4294967296) :
    Calls Tryz.prog 24 #[.agg #[.int .u32 ip, .int .i64 b], .int .u32 a] w fun e w' => e = .returned (.bool (decide (InNet ip b a))) ∧ Below w.heap.size w w' := by
  by_cases h : IsNet ip b
  · obtain ⟨n, rfl⟩ : ∃ n : Nat, b = n := ⟨b.toNat, by have := h.1; omega⟩
    have e : decide (InNet ip n a) = decide (a / 2 ^ (32 - n) * 2 ^ (32 - n) = ip) := decide_eq_decide.2 ⟨fun x => (in_div ip _ a h.2.2).2 x.2, fun x => ⟨h, (in_div ip _ a h.2.2).1 x⟩⟩
    rw [e]; exact in_some ip n a w hi ha (by have := h.2.1; omega) h.2.2
  · rw [decide_eq_false (show ¬ InNet ip b a from fun x => h x.1)]; exact in_not ip b a w hi h
theorem box_then {w w1 : World} {o : Obj} (h : Below (w.alloc o).heap.size (w.alloc o) w1) : Below w.heap.size w w1 :=
  ((Below.refl w.heap.size w).alloc (Nat.le_refl _) o).trans (h.mono (by simp))
theorem last_not (ip : Nat) (b : Int) (w : World) (hi : ip < 4294967296) (h : ¬ IsNet ip b) :
    Calls Tryz.prog 26 #[.agg #[.int .u32 ip, .int .i64 b]] w fun e w' => e = .returned (.int .u32 0) ∧ Below w.heap.size w w' := by
  have hd := decide_eq_false h
  go_enter Tryz.func26, Tryz.ntmps26
  go_wp2_with fail
  refine (net_any ip b _ hi).mono ?_
  rw [hd]
  rintro e w1 ⟨rfl, b1⟩
  go_wp2_with fail
  go_ret
  exact ⟨rfl, box_then b1⟩
theorem last_some (ip n : Nat) (w : World) (hi : ip < 4294967296) (hn : n ≤ 32) (h : ip % 2 ^ (32 - n) = 0) :
    Calls Tryz.prog 26 #[.agg #[.int .u32 ip, .int .i64 n]] w fun e w' => e = .returned (.int .u32 ((ip + (2 ^ (32 - n) - 1) : Nat) : Int)) ∧ Below w.heap.size w w' := by
  have hd : decide (IsNet ip n) = true := decide_eq_true ⟨by omega, by omega, h⟩
  have ho := or_rest ip (32 - n) hi (by omega) h
  have hm := not_mask (32 - n) (by omega)
  generalize 2 ^ (32 - n) - 1 = r at ho hm ⊢
  clear h
  go_enter Tryz.func26, Tryz.ntmps26
  go_wp2_with fail
  refine (net_any ip n _ hi).mono ?_
  rw [hd]
  rintro e w1 ⟨rfl, b1⟩
  have hb := box_then b1
  have c0 := (b1.cell (p := ⟨w.heap.size, 0, none⟩) (by simp)).trans (show _ = some (Value.int .u32 ip) by simp)
  have c1 := (b1.cell (p := ⟨w.heap.size, 1, none⟩) (by simp)).trans (show _ = some (Value.int .i64 n) by simp)
  clear b1
  go_wp2_with fail
  go_quiet ((go_at_call 43; exact Calls.quiet_of_same (first_ok n _ hn)))
  go_wp2
  go_ret
  exact ⟨rfl, hb.trans ⟨rfl, rfl, rfl, Nat.le_refl _, fun _ _ => rfl⟩⟩
theorem last_any (ip : Nat) (b : Int) (w : World) (hi : ip < 4294967296) :
    Calls Tryz.prog 26 #[.agg #[.int .u32 ip, .int .i64 b]] w fun e w' => e = .returned (.int .u32 ((lastOf ip b : Nat) : Int)) ∧ Below w.heap.size w w' := by
  by_cases h : IsNet ip b
  · obtain ⟨n, rfl⟩ : ∃ n : Nat, b = n := ⟨b.toNat, by have := h.1; omega⟩
    rw [lastOf, if_pos h]; exact last_some ip n w hi (by have := h.2.1; omega) h.2.2
  · rw [lastOf, if_neg h]; exact last_not ip b w hi h

/-- two nets in blocks of their own -/
theorem boxed2 (w : World) (ip : Nat) (b : Int) (jp : Nat) (c : Int) : ∃ W, W = (w.alloc (.cells #[.int .u32 ip, .int .i64 b] 34)).alloc (.cells #[.int .u32 jp, .int .i64 c] 34) ∧ Below w.heap.size w W ∧
    (∀ d os, (grow (redrawn W d) os).cell? ⟨w.heap.size, 0, none⟩ = some (.int .u32 ip)) ∧ (∀ d os, (grow (redrawn W d) os).cell? ⟨w.heap.size, 1, none⟩ = some (.int .i64 b)) ∧
    (∀ d os, (grow (redrawn W d) os).cell? ⟨w.heap.size + 1, 0, none⟩ = some (.int .u32 jp)) ∧ (∀ d os, (grow (redrawn W d) os).cell? ⟨w.heap.size + 1, 1, none⟩ = some (.int .i64 c)) := by
  refine ⟨_, rfl, ((Below.refl w.heap.size w).alloc (Nat.le_refl _) _).alloc (by simp) _, cell_regrown ?_, cell_regrown ?_, cell_regrown ?_, cell_regrown ?_⟩
  · rw [World.cell?_alloc_old _ _ _ (by simp)]; simp
  · rw [World.cell?_alloc_old _ _ _ (by simp)]; simp
  · rw [World.cell?_alloc_at _ _ _ _ (by simp)]; rfl
  · rw [World.cell?_alloc_at _ _ _ _ (by simp)]; rfl
theorem in_at (W : World) (ip : Nat) (b : Int) (a : Nat) (hi : ip < 4294967296) (ha : a < 4294967296) (t : Bool) (h : decide (InNet ip b a) = t) : ∀ d os, Calls Tryz.prog 24 #[.agg #[.int .u32 ip, .int .i64 b], .int .u32 a] (grow (redrawn W d) os) fun e w'' => e = .returned (.bool t) ∧ ∃ p : Regrown, w'' = grow (redrawn W p.d) p.os :=
  fun d os => Calls.regrown_of (by have := in_any ip b a (grow (redrawn W d) os) hi ha; rw [h] at this; exact this)
theorem last_at (W : World) (ip : Nat) (b : Int) (hi : ip < 4294967296) : ∀ d os, Calls Tryz.prog 26 #[.agg #[.int .u32 ip, .int .i64 b]] (grow (redrawn W d) os) fun e w'' => e = .returned (.int .u32 ((lastOf ip b : Nat) : Int)) ∧ ∃ p : Regrown, w'' = grow (redrawn W p.d) p.os :=
  fun d os => Calls.regrown_of (last_any ip b (grow (redrawn W d) os) hi)
set_option maxRecDepth 20000 in
set_option maxHeartbeats 1000000 in
theorem near_go (ip : Nat) (b : Int) (jp : Nat) (c : Int) (w : World) (hi : ip < 4294967296) (hj : jp < 4294967296) (t1 t2 t3 : Bool) (h1 : decide (IsNet ip b) = t1) (h2 : decide (InNet jp c ip) = t2) (h3 : decide (InNet jp c (lastOf ip b)) = t3) :
    Calls Tryz.prog 28 #[.agg #[.int .u32 ip, .int .i64 b], .agg #[.int .u32 jp, .int .i64 c]] w fun e w' => e = .returned (.bool (t1 && t2 && t3)) ∧ Below w.heap.size w w' := by
  obtain ⟨W, hW, hb, k0, k1, k2, k3⟩ := boxed2 w ip b jp c
  have cN := net_at W ip b hi t1 h1
  have cI := in_at W jp c ip hj hi t2 h2
  have cL := last_at W ip b hi
  have cJ := in_at W jp c _ hj (last_lt ip b hi) t3 h3
  clear h1 h2 h3
  generalize lastOf ip b = l at cL cJ
  cases t1 <;> cases t2 <;> cases t3
  all_goals
    go_enter Tryz.func28, Tryz.ntmps28
    go_wp2
    rw [← hW]
    clear hW
    refine wp_region_quiet_below (by kernel_rfl) (by kernel_rfl) ?_
    repeat (go_big_quiet_step (first | (go_at_call 22; exact cN _ _) | (go_at_call 26; exact cL _ _) | (go_at_call_of 24 ip; exact cI _ _) | (go_at_call_of 24 l; exact cJ _ _)))
    refine wpQuiet_nil ?_
    rintro _ ⟨⟨dq, osq⟩, rfl⟩
    go_wp2
    go_ret
    exact ⟨rfl, below_then w W hb dq osq⟩
theorem near_any (ip : Nat) (b : Int) (jp : Nat) (c : Int) (w : World) (hi : ip < 4294967296) (hj : jp < 4294967296) :
    Calls Tryz.prog 28 #[.agg #[.int .u32 ip, .int .i64 b], .agg #[.int .u32 jp, .int .i64 c]] w fun e w' => e = .returned (.bool (decide (NearNet ip b jp c))) ∧ Below w.heap.size w w' := by
  have h := near_go ip b jp c w hi hj _ _ _ rfl rfl rfl
  have e : (decide (IsNet ip b) && decide (InNet jp c ip) && decide (InNet jp c (lastOf ip b))) = decide (NearNet ip b jp c) := by
    rw [← Bool.decide_and, ← Bool.decide_and]
    exact decide_eq_decide.2 ((and_assoc).trans (near_iff ip b jp c))
  rw [e] at h
  exact h
end Go.Proofs.YtmpkeakbcojdeaaGreatDoor
