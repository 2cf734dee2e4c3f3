/-
  The document's answer for kinds of MAC addresses: the contracts of gangwayref02's Group and Own.
-/
import Derived.Test.YtljhgehlaehgnaaGreatDoorArps
namespace Go.Proofs.YtljhgehlaehgnaaGreatDoor
open Go.RowKit

theorem rgroup (m : Nat) (w : World) (hm : m < 18446744073709551616) : Calls Tryz.prog 67 #[.int .u64 m] w fun e w' => e = .returned (.bool (grp m)) ∧ w' = w := by
  go_enter Tryz.func67, Tryz.ntmps67
  go_wp2
  go_ret
  refine ⟨?_, rfl⟩
  show Ending.returned (Value.bool ((m : Int) / 1099511627776 % 2 == 1)) = _
  rw [show (m : Int) / 1099511627776 % 2 = ((m / 1099511627776 % 2 : Nat) : Int) by simp, show (((m / 1099511627776 % 2 : Nat) : Int) == 1) = decide (m / 1099511627776 % 2 = 1) from int_beq _ 1]
  rfl
theorem rown_at (M : Int) (w : World) (g t1 t2 : Bool) (hg : Hid (Calls Tryz.prog 67 #[.int .u64 M] w fun e w' => e = .returned (.bool g) ∧ w' = w)) (h1 : decide (0 < M) = t1) (h2 : decide (M < 281474976710656) = t2) :
    Calls Tryz.prog 49 #[.int .u64 M] w fun e w' => e = .returned (.bool (t1 && t2 && !g)) ∧ w' = w := by
  cases t1 <;> cases t2 <;> cases g
  all_goals
    go_enter Tryz.func49, Tryz.ntmps49
    go_wp2_with (go_at_call 67; refine (unhide hg).mono ?_; rintro e w1 ⟨rfl, rfl⟩)
    go_ret
    exact ⟨rfl, rfl⟩
theorem rown (m : Nat) (w : World) (hm : m < 18446744073709551616) : Calls Tryz.prog 49 #[.int .u64 m] w fun e w' => e = .returned (.bool (ownH m)) ∧ w' = w := by
  have h := rown_at (m : Int) w _ _ _ (hide (rgroup m w hm)) rfl rfl
  have e : (decide (0 < (m : Int)) && decide ((m : Int) < 281474976710656) && !grp m) = ownH m := by
    unfold ownH
    rw [show decide (0 < (m : Int)) = decide (m ≠ 0) from decide_eq_decide.2 (by omega), show decide ((m : Int) < 281474976710656) = decide (m < 281474976710656) from decide_eq_decide.2 (by omega)]
    cases decide (m ≠ 0) <;> cases decide (m < 281474976710656) <;> cases grp m <;> rfl
  rw [e] at h
  exact h
end Go.Proofs.YtljhgehlaehgnaaGreatDoor
