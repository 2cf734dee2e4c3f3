/-
  The document's table: what one holds; the contracts of gangwayref10.New and Time.
-/
import Derived.Test.YtppfhbcfmekdoaaHas10
namespace Go.Proofs.Ytppfhbcfmekdoaa
open Go.RowKit Go.Sort

/-- each key once -/
def Uniq (M : List Ent) : Prop := M.Pairwise fun a b => a.key ≠ b.key
/-- the document's table in a block of its own -/
structure RTab (B : Nat) (w : World) (g : Nat) (room life : Int) (v : Value) (M : List Ent) : Prop where
  row : w.heap[g]? = some (.cells #[v, .int .i64 room, .int .i64 life] 76 (0, 0))
  own : Tells B w v M
  low : B ≤ g
  apart : v.ownBlock ≠ some g
  uniq : Uniq M
  oks : Oks M
  fit : (M.length : Int) ≤ room
  room1 : 1 ≤ room
  room2 : room ≤ 4096
  life1 : 1 ≤ life
  life2 : life ≤ 1099511627776
theorem rnew_ok (B : Nat) (room life : Int) (w : World) (h : newOk room life) (hB : B ≤ w.heap.size) :
    Calls Try.prog 19 #[.int .i64 room, .int .i64 life] w fun e w' => e = .returned (.tuple #[.pointer (some ⟨w.heap.size, 0, none⟩), .int .i64 0]) ∧ Below w.heap.size w w' ∧ RTab B w' w.heap.size room life (.slice none 0 0) [] := by
  obtain ⟨h1, h2, h3, h4⟩ := h
  have n1 : ¬ room < 1 := by omega
  have n2 : ¬ 4096 < room := by omega
  have n3 : ¬ life < 1 := by omega
  have n4 : ¬ 1099511627776 < life := by omega
  have HT : Hid (RTab B (w.alloc (.cells #[.slice none 0 0, .int .i64 room, .int .i64 life] 76)) w.heap.size room life (.slice none 0 0) []) :=
    ⟨heap_alloc_new _ _, World.ownsRow_nil _ _ _ _, hB, by simp [Value.ownBlock], List.Pairwise.nil, fun _ h => (by cases h), by simp; omega, h1, h2, h3, h4⟩
  go_enter Try.func19, Try.ntmps19
  go_wp2
  go_ret2
  exact ⟨rfl, alloc_below _ _, unhide HT⟩
theorem rnew_no (room life : Int) (w : World) (h : ¬ newOk room life) :
    Calls Try.prog 19 #[.int .i64 room, .int .i64 life] w fun e w' => e = .returned (.tuple #[.pointer none, .int .i64 1]) ∧ w' = w := by
  by_cases h1 : room < 1
  · go_enter Try.func19, Try.ntmps19
    go_wp2
    go_ret2
    exact ⟨rfl, rfl⟩
  · by_cases h2 : 4096 < room
    · go_enter Try.func19, Try.ntmps19
      go_wp2
      go_ret2
      exact ⟨rfl, rfl⟩
    · by_cases h3 : life < 1
      · go_enter Try.func19, Try.ntmps19
        go_wp2
        go_ret2
        exact ⟨rfl, rfl⟩
      · have h4 : 1099511627776 < life := by
          unfold newOk at h; omega
        clear h
        go_enter Try.func19, Try.ntmps19
        go_wp2
        go_ret2
        exact ⟨rfl, rfl⟩
theorem rtime_any (n : Int) (w : World) : Calls Try.prog 47 #[.int .i64 n] w fun e w' => e = .returned (.bool (timeB n)) ∧ w' = w := by
  unfold timeB
  by_cases h1 : 0 ≤ n
  · by_cases h2 : n ≤ 1099511627776
    · rw [decide_eq_true h1, decide_eq_true h2]
      go_enter Try.func47, Try.ntmps47
      go_wp2
      go_ret
      exact ⟨rfl, rfl⟩
    · rw [decide_eq_true h1, decide_eq_false h2]
      go_enter Try.func47, Try.ntmps47
      go_wp2
      go_ret
      exact ⟨rfl, rfl⟩
  · rw [decide_eq_false h1]
    go_enter Try.func47, Try.ntmps47
    go_wp2
    go_ret
    exact ⟨rfl, rfl⟩
end Go.Proofs.Ytppfhbcfmekdoaa
