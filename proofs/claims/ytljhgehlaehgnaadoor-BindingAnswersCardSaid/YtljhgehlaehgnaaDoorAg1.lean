/-
  The contracts of cmp.Compare at keys, of the search's own comparison, of slices.BinarySearchFunc over parts by rising keys, and of ordered's find: where a key stands, and whether it does; nothing that was there has turned.
-/
import Derived.Test.YtljhgehlaehgnaaDoorAgPlain
import Derived.Test.YtljhgehlaehgnaaDoorKit10
namespace Go.Proofs.YtljhgehlaehgnaaDoor
open Go.RowKit Go.Sort

theorem cmp_any (a b : Int) (w : World) : Calls Tryd.prog 44 #[.int .u64 a, .int .u64 b] w fun e w' => e = .returned (.int .i64 (cmpI a b)) ∧ w' = w := by
  unfold cmpI
  by_cases h1 : a < b
  · rw [if_pos h1]
    go_enter Tryd.func44, Tryd.ntmps44
    go_wp2
    go_ret
    exact ⟨rfl, rfl⟩
  · rw [if_neg h1]
    by_cases h2 : b < a
    · rw [if_pos h2]
      go_enter Tryd.func44, Tryd.ntmps44
      go_wp2
      go_ret
      exact ⟨rfl, rfl⟩
    · rw [if_neg h2]
      go_enter Tryd.func44, Tryd.ntmps44
      go_wp2
      go_ret
      exact ⟨rfl, rfl⟩
theorem fcl_any (k v t key : Int) (f : Bool) (w : World) : Calls Tryd.prog 43 #[.agg #[.int .u64 k, .int .u64 v, .int .i64 t, .bool f], .int .u64 key] w fun e w' => e = .returned (.int .i64 (cmpI k key)) ∧ Below w.heap.size w w' := by
  have C := hide (fun W => cmp_any k key W)
  generalize cmpI k key = c at C ⊢
  go_enter Tryd.func43, Tryd.ntmps43
  go_wp2_with fail
  refine (unhide C _).mono ?_
  rintro e w1 ⟨rfl, rfl⟩
  go_wp2_with fail
  go_ret
  exact ⟨rfl, alloc_below _ _⟩
end Go.Proofs.YtljhgehlaehgnaaDoor
