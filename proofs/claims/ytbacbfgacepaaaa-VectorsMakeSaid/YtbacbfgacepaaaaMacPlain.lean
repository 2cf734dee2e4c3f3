/-
  Plain facts on MAC addresses: no program is named here.
-/
import Derived.Test.YtbacbfgacepaaaaPlain
namespace Go.Proofs.Ytbacbfgacepaaaa

/-- a MAC address is many's -/
def grp (m : Nat) : Bool := decide (m / 1099511627776 % 2 = 1)
/-- a host may have it -/
def ownH (m : Nat) : Bool := decide (m < 281474976710656) && !grp m && decide (m ≠ 0)
theorem int_beq (a b : Nat) : ((a : Int) == (b : Int)) = decide (a = b) := by
  by_cases h : a = b
  · subst h; simp
  · rw [decide_eq_false h, beq_eq_false_iff_ne]; omega
end Go.Proofs.Ytbacbfgacepaaaa
