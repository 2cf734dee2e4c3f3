/-
  The contracts of addrs.Group and Own; nothing has turned.
-/
import Derived.Test.YtljhgehlaehgnaaDoorBytes3
import Derived.Test.YtljhgehlaehgnaaDoorMacPlain
import Derived.Laws.BitsAllLaws
namespace Go.Proofs.YtljhgehlaehgnaaDoor
open Go.RowKit

theorem low_bit (m : Nat) (hm : m < 18446744073709551616) : bits BinOp.and IntKind.u64 ((m : Int) / 1099511627776) 1 = ((m / 1099511627776 % 2 : Nat) : Int) := by
  rw [show (m : Int) / 1099511627776 = ((m / 1099511627776 : Nat) : Int) by simp, show (1 : Int) = ((1 : Nat) : Int) from rfl, u64_and_nat _ _ (by omega) (by omega)]
  rw [show (1 : Nat) = 2 ^ 1 - 1 from rfl, Nat.and_two_pow_sub_one_eq_mod]
theorem group_any (m : Nat) (w : World) (hm : m < 18446744073709551616) :
    Calls Tryd.prog 29 #[.int .u64 m] w fun e w' => e = .returned (.bool (grp m)) ∧ w' = w := by
  have h := low_bit m hm
  go_enter Tryd.func29, Tryd.ntmps29
  go_wp2
  go_ret
  refine ⟨?_, rfl⟩
  show Ending.returned (Value.bool ((m : Int) / 1099511627776 % 2 == 1)) = _
  rw [show (m : Int) / 1099511627776 % 2 = ((m / 1099511627776 % 2 : Nat) : Int) by simp, show (((m / 1099511627776 % 2 : Nat) : Int) == 1) = decide (m / 1099511627776 % 2 = 1) from int_beq _ 1]
  rfl
theorem own_any (m : Nat) (w : World) (hm : m < 18446744073709551616) :
    Calls Tryd.prog 21 #[.int .u64 m] w fun e w' => e = .returned (.bool (ownH m)) ∧ w' = w := by
  have hg := hide (group_any m w hm)
  clear hm
  unfold ownH
  generalize grp m = g at hg ⊢
  by_cases h : (m : Int) < 281474976710656
  · have hd : decide ((m : Int) < 281474976710656) = true := decide_eq_true h
    rw [decide_eq_true (show m < 281474976710656 by omega)]
    clear h
    cases g
    · by_cases h0 : m = 0
      · subst h0
        go_enter Tryd.func21, Tryd.ntmps21
        go_wp2_with fail
        refine (unhide hg).mono ?_
        rintro e w1 ⟨rfl, rfl⟩
        go_wp2_with fail
        go_ret
        exact ⟨rfl, rfl⟩
      · have h1 : ((m : Int) != 0) = true := by rw [bne_iff_ne]; omega
        rw [decide_eq_true h0]
        go_enter Tryd.func21, Tryd.ntmps21
        go_wp2_with fail
        refine (unhide hg).mono ?_
        rintro e w1 ⟨rfl, rfl⟩
        go_wp2_with fail
        go_ret
        exact ⟨rfl, rfl⟩
    · rw [show (true && !true && decide (m ≠ 0)) = false from rfl]
      go_enter Tryd.func21, Tryd.ntmps21
      go_wp2_with fail
      refine (unhide hg).mono ?_
      rintro e w1 ⟨rfl, rfl⟩
      go_wp2_with fail
      go_ret
      exact ⟨rfl, rfl⟩
  · have hd : decide ((m : Int) < 281474976710656) = false := decide_eq_false h
    rw [decide_eq_false (show ¬ m < 281474976710656 by omega), Bool.false_and, Bool.false_and]
    go_enter Tryd.func21, Tryd.ntmps21
    go_wp2_with fail
    go_ret
    exact ⟨rfl, rfl⟩
end Go.Proofs.YtljhgehlaehgnaaDoor
