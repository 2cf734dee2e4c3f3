/-
  The contract of csum's function Patch; no cell that was there before has turned.
-/
import Derived.Test.YtojipoifjioglaaDoorSum
namespace Go.Proofs.YtojipoifjioglaaDoor
open Go.RowKit

/-- what a checksum becomes, in plain numbers -/
def pat (s o n : Nat) : Nat := 65535 - fold (s + o + n)
theorem pat_int (s o n : Nat) : (65535 : Int) - ((fold (s + o + n) : Nat) : Int) = ((pat s o n : Nat) : Int) := by
  have := fold_le (s + o + n)
  unfold pat
  omega
theorem wrap_mod (x : Int) : wrap64 x % 65536 = x % 65536 := by
  unfold wrap64
  omega
theorem word_of (x : Int) (a : Nat) (w : World) (h : Hid (x % 65536 = a)) : Calls Tryd.prog 47 #[.int .i64 x] w fun e w' => e = .returned (.int .i64 a) ∧ w' = w := by
  have c := cword x w
  rw [unhide h] at c
  exact c
theorem word_wrap (x : Int) (a : Nat) (w : World) (h : Hid (x % 65536 = a)) : Calls Tryd.prog 47 #[.int .i64 (wrap64 x)] w fun e w' => e = .returned (.int .i64 a) ∧ w' = w :=
  word_of _ a w (hide ((wrap_mod x).trans (unhide h)))
theorem patch_any (s o n : Int) (a b c : Nat) (w : World) (ha : (65535 - s) % 65536 = a) (hb : (65535 - o) % 65536 = b) (hc : n % 65536 = c) :
    Calls Tryd.prog 32 #[.int .i64 s, .int .i64 o, .int .i64 n] w fun e w' => e = .returned (.int .i64 (pat a b c : Nat)) ∧ w' = w := by
  have hp := pat_int a b c
  have hf := fold_le (a + b + c)
  have h1 : (a : Int) < 65536 := by omega
  have h2 : (b : Int) < 65536 := by omega
  have h3 : (c : Int) < 65536 := by omega
  have F := hide (fun W => cfold (a + b + c) W (by omega))
  rw [show ((a + b + c : Nat) : Int) = (a : Int) + (b : Int) + (c : Int) by omega] at F
  generalize fold (a + b + c) = x at hp hf F
  have HA := hide ha
  have HB := hide hb
  have HC := hide hc
  clear ha hb hc
  go_enter Tryd.func32, Tryd.ntmps32
  go_wp2_with fail
  refine (word_wrap _ _ _ HA).mono ?_
  rintro e w' ⟨rfl, rfl⟩
  go_wp2_with fail
  refine (word_wrap _ _ _ HB).mono ?_
  rintro e w' ⟨rfl, rfl⟩
  go_wp2_with fail
  refine (word_of _ _ _ HC).mono ?_
  rintro e w' ⟨rfl, rfl⟩
  go_wp2_with fail
  refine (unhide F _).mono ?_
  rintro e w' ⟨rfl, rfl⟩
  go_wp2_with fail
  go_ret
  exact ⟨rfl, rfl⟩
end Go.Proofs.YtojipoifjioglaaDoor
