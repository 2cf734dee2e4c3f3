/-
  The contract of gangwayref12's New.
-/
import Derived.Test.YtljhgehlaehgnaaGreatDoorBds
namespace Go.Proofs.YtljhgehlaehgnaaGreatDoor
open Go.RowKit Go.Sort

theorem hnew_ok (room life : Int) (w : World) (h : newOk room life) :
    Calls Tryz.prog 5 #[.int .i64 room, .int .i64 life] w fun e w' => e = .returned (.tuple #[.pointer (some ⟨w.heap.size, 0, none⟩), .int .i64 0]) ∧ w' = w.alloc (.cells #[.slice none 0 0, .int .i64 room, .int .i64 life] 57) := by
  obtain ⟨h1, h2, h3, h4⟩ := h
  have n1 : ¬ room < 1 := by omega
  have n2 : ¬ 4096 < room := by omega
  have n3 : ¬ life < 1 := by omega
  have n4 : ¬ 1099511627776 < life := by omega
  go_enter Tryz.func5, Tryz.ntmps5
  go_wp2
  go_ret2
  exact ⟨rfl, rfl⟩
theorem hnew_no (room life : Int) (w : World) (h : ¬ newOk room life) :
    Calls Tryz.prog 5 #[.int .i64 room, .int .i64 life] w fun e w' => e = .returned (.tuple #[.pointer none, .int .i64 1]) ∧ w' = w := by
  have hq : room < 1 ∨ (1 ≤ room ∧ 4096 < room) ∨ (1 ≤ room ∧ room ≤ 4096 ∧ life < 1) ∨ (1 ≤ room ∧ room ≤ 4096 ∧ 1 ≤ life ∧ 1099511627776 < life) := by
    unfold newOk at h
    omega
  clear h
  rcases hq with h | ⟨h1, h⟩ | ⟨h1, h2, h⟩ | ⟨h1, h2, h3, h⟩
  all_goals
    go_enter Tryz.func5, Tryz.ntmps5
    go_wp2
    go_ret2
    exact ⟨rfl, rfl⟩
end Go.Proofs.YtljhgehlaehgnaaGreatDoor
