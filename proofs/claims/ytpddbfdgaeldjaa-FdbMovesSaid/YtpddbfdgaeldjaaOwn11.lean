/-
  Which MAC addresses a host may have: the contracts of addrs.Group and Own, and of the document's own; of an address and a VLAN: fdb.mayNote and gangwayref11.May. Nothing has turned.
-/
import Derived.Test.YtpddbfdgaeldjaaAgPlain
import Derived.Test.YtpddbfdgaeldjaaKit10
import Derived.Laws.BitsAllLaws
namespace Go.Proofs.Ytpddbfdgaeldjaa
open Go.RowKit


/-- a MAC address is many's -/
def grp (m : Nat) : Bool := decide (m / 1099511627776 % 2 = 1)
/-- a host may have it -/
def ownH (m : Nat) : Bool := decide (m < 281474976710656) && !grp m && decide (m ≠ 0)
theorem int_beq (a b : Nat) : ((a : Int) == (b : Int)) = decide (a = b) := by
  by_cases h : a = b
  · subst h; simp
  · rw [decide_eq_false h, beq_eq_false_iff_ne]; omega


theorem low_bit (m : Nat) (hm : m < 18446744073709551616) : bits BinOp.and IntKind.u64 ((m : Int) / 1099511627776) 1 = ((m / 1099511627776 % 2 : Nat) : Int) := by
  rw [show (m : Int) / 1099511627776 = ((m / 1099511627776 : Nat) : Int) by simp, show (1 : Int) = ((1 : Nat) : Int) from rfl, u64_and_nat _ _ (by omega) (by omega)]
  rw [show (1 : Nat) = 2 ^ 1 - 1 from rfl, Nat.and_two_pow_sub_one_eq_mod]
theorem group_any (m : Nat) (w : World) (hm : m < 18446744073709551616) :
    Calls Try.prog 55 #[.int .u64 m] w fun e w' => e = .returned (.bool (grp m)) ∧ w' = w := by
  have h := low_bit m hm
  go_enter Try.func55, Try.ntmps55
  go_wp2
  go_ret
  refine ⟨?_, rfl⟩
  show Ending.returned (Value.bool ((m : Int) / 1099511627776 % 2 == 1)) = _
  rw [show (m : Int) / 1099511627776 % 2 = ((m / 1099511627776 % 2 : Nat) : Int) by simp, show (((m / 1099511627776 % 2 : Nat) : Int) == 1) = decide (m / 1099511627776 % 2 = 1) from int_beq _ 1]
  rfl
theorem own_any (m : Nat) (w : World) (hm : m < 18446744073709551616) :
    Calls Try.prog 42 #[.int .u64 m] w fun e w' => e = .returned (.bool (ownH m)) ∧ w' = w := by
  have hg := hide (group_any m w hm)
  clear hm
  unfold ownH
  generalize grp m = g at hg ⊢
  by_cases h : (m : Int) < 281474976710656
  · have hd : decide ((m : Int) < 281474976710656) = true := decide_eq_true h
    rw [decide_eq_true (show m < 281474976710656 by omega)]
    clear h
    cases g
    · by_cases h0 : m = 0
      · subst h0
        go_enter Try.func42, Try.ntmps42
        go_wp2_with fail
        refine (unhide hg).mono ?_
        rintro e w1 ⟨rfl, rfl⟩
        go_wp2_with fail
        go_ret
        exact ⟨rfl, rfl⟩
      · have h1 : ((m : Int) != 0) = true := by rw [bne_iff_ne]; omega
        rw [decide_eq_true h0]
        go_enter Try.func42, Try.ntmps42
        go_wp2_with fail
        refine (unhide hg).mono ?_
        rintro e w1 ⟨rfl, rfl⟩
        go_wp2_with fail
        go_ret
        exact ⟨rfl, rfl⟩
    · rw [show (true && !true && decide (m ≠ 0)) = false from rfl]
      go_enter Try.func42, Try.ntmps42
      go_wp2_with fail
      refine (unhide hg).mono ?_
      rintro e w1 ⟨rfl, rfl⟩
      go_wp2_with fail
      go_ret
      exact ⟨rfl, rfl⟩
  · have hd : decide ((m : Int) < 281474976710656) = false := decide_eq_false h
    rw [decide_eq_false (show ¬ m < 281474976710656 by omega), Bool.false_and, Bool.false_and]
    go_enter Try.func42, Try.ntmps42
    go_wp2_with fail
    go_ret
    exact ⟨rfl, rfl⟩


theorem rgroup (m : Nat) (w : World) (hm : m < 18446744073709551616) : Calls Try.prog 51 #[.int .u64 m] w fun e w' => e = .returned (.bool (grp m)) ∧ w' = w := by
  go_enter Try.func51, Try.ntmps51
  go_wp2
  go_ret
  refine ⟨?_, rfl⟩
  show Ending.returned (Value.bool ((m : Int) / 1099511627776 % 2 == 1)) = _
  rw [show (m : Int) / 1099511627776 % 2 = ((m / 1099511627776 % 2 : Nat) : Int) by simp, show (((m / 1099511627776 % 2 : Nat) : Int) == 1) = decide (m / 1099511627776 % 2 = 1) from int_beq _ 1]
  rfl
theorem rown_at (M : Int) (w : World) (g t1 t2 : Bool) (hg : Hid (Calls Try.prog 51 #[.int .u64 M] w fun e w' => e = .returned (.bool g) ∧ w' = w)) (h1 : decide (0 < M) = t1) (h2 : decide (M < 281474976710656) = t2) :
    Calls Try.prog 34 #[.int .u64 M] w fun e w' => e = .returned (.bool (t1 && t2 && !g)) ∧ w' = w := by
  cases t1 <;> cases t2 <;> cases g
  all_goals
    go_enter Try.func34, Try.ntmps34
    go_wp2_with (go_at_call 51; refine (unhide hg).mono ?_; rintro e w1 ⟨rfl, rfl⟩)
    go_ret
    exact ⟨rfl, rfl⟩
theorem rown (m : Nat) (w : World) (hm : m < 18446744073709551616) : Calls Try.prog 34 #[.int .u64 m] w fun e w' => e = .returned (.bool (ownH m)) ∧ w' = w := by
  have h := rown_at (m : Int) w _ _ _ (hide (rgroup m w hm)) rfl rfl
  have e : (decide (0 < (m : Int)) && decide ((m : Int) < 281474976710656) && !grp m) = ownH m := by
    unfold ownH
    rw [show decide (0 < (m : Int)) = decide (m ≠ 0) from decide_eq_decide.2 (by omega), show decide ((m : Int) < 281474976710656) = decide (m < 281474976710656) from decide_eq_decide.2 (by omega)]
    cases decide (m ≠ 0) <;> cases decide (m < 281474976710656) <;> cases grp m <;> rfl
  rw [e] at h
  exact h

/-- may an address be noted in a VLAN? -/
def mayB (vid mac : Int) : Bool := decide (1 ≤ vid) && decide (vid ≤ 4094) && ownH mac.toNat
theorem own_int (m : Int) (w : World) (h : 0 ≤ m ∧ m < 18446744073709551616) : Calls Try.prog 42 #[.int .u64 m] w fun e w' => e = .returned (.bool (ownH m.toNat)) ∧ w' = w := by
  obtain ⟨k, rfl⟩ := Int.eq_ofNat_of_zero_le h.1
  exact own_any k w (by omega)
theorem rown_int (m : Int) (w : World) (h : 0 ≤ m ∧ m < 18446744073709551616) : Calls Try.prog 34 #[.int .u64 m] w fun e w' => e = .returned (.bool (ownH m.toNat)) ∧ w' = w := by
  obtain ⟨k, rfl⟩ := Int.eq_ofNat_of_zero_le h.1
  exact rown k w (by omega)
theorem may_any (vid mac : Int) (w : World) (h : 0 ≤ mac ∧ mac < 18446744073709551616) : Calls Try.prog 25 #[.int .i64 vid, .int .u64 mac] w fun e w' => e = .returned (.bool (mayB vid mac)) ∧ w' = w := by
  have C := hide (own_int mac w h)
  unfold mayB
  generalize ownH mac.toNat = b at C ⊢
  by_cases h1 : 1 ≤ vid
  · by_cases h2 : vid ≤ 4094
    · rw [decide_eq_true h1, decide_eq_true h2]
      go_enter Try.func25, Try.ntmps25
      go_wp2_with (go_at_call 42; refine (unhide C).mono ?_; rintro e w1 ⟨rfl, rfl⟩)
      go_ret
      exact ⟨rfl, rfl⟩
    · rw [decide_eq_false h2, decide_eq_true h1]
      go_enter Try.func25, Try.ntmps25
      go_wp2
      go_ret
      exact ⟨rfl, rfl⟩
  · rw [decide_eq_false h1]
    go_enter Try.func25, Try.ntmps25
    go_wp2
    go_ret
    exact ⟨rfl, rfl⟩
theorem qmay_any (vid mac : Int) (w : World) (h : 0 ≤ mac ∧ mac < 18446744073709551616) : Calls Try.prog 16 #[.int .i64 vid, .int .u64 mac] w fun e w' => e = .returned (.bool (mayB vid mac)) ∧ w' = w := by
  have C := hide (rown_int mac w h)
  unfold mayB
  generalize ownH mac.toNat = b at C ⊢
  by_cases h1 : 1 ≤ vid
  · by_cases h2 : vid ≤ 4094
    · rw [decide_eq_true h1, decide_eq_true h2]
      go_enter Try.func16, Try.ntmps16
      go_wp2_with (go_at_call 34; refine (unhide C).mono ?_; rintro e w1 ⟨rfl, rfl⟩)
      go_ret
      exact ⟨rfl, rfl⟩
    · rw [decide_eq_false h2, decide_eq_true h1]
      go_enter Try.func16, Try.ntmps16
      go_wp2
      go_ret
      exact ⟨rfl, rfl⟩
  · rw [decide_eq_false h1]
    go_enter Try.func16, Try.ntmps16
    go_wp2
    go_ret
    exact ⟨rfl, rfl⟩
end Go.Proofs.Ytpddbfdgaeldjaa
