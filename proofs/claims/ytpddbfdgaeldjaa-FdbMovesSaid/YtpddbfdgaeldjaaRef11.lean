/-
  The document's side: the contracts of gangwayref10.New, gangwayref11.New and Target, and of gangwaylaw11.begun.
-/
import Derived.Test.YtpddbfdgaeldjaaFd2
import Derived.Test.YtpddbfdgaeldjaaMask10
namespace Go.Proofs.Ytpddbfdgaeldjaa
open Go.RowKit Go.Sort

theorem r10new_ok (room life : Int) (w : World) (h : newOk room life) :
    Calls Try.prog 22 #[.int .i64 room, .int .i64 life] w fun e w' => (∃ r, e = .returned (.tuple #[.pointer (some ⟨r, 0, none⟩), .int .i64 0])) ∧ Below w.heap.size w w' := by
  obtain ⟨h1, h2, h3, h4⟩ := h
  have n1 : ¬ room < 1 := by omega
  have n2 : ¬ 4096 < room := by omega
  have n3 : ¬ life < 1 := by omega
  have n4 : ¬ 1099511627776 < life := by omega
  go_enter Try.func22, Try.ntmps22
  go_wp2
  go_ret2
  exact ⟨⟨_, rfl⟩, alloc_below _ _⟩
theorem r10new_no (room life : Int) (w : World) (h : ¬ newOk room life) :
    Calls Try.prog 22 #[.int .i64 room, .int .i64 life] w fun e w' => e = .returned (.tuple #[.pointer none, .int .i64 1]) ∧ w' = w := by
  have hq : room < 1 ∨ (1 ≤ room ∧ 4096 < room) ∨ (1 ≤ room ∧ room ≤ 4096 ∧ life < 1) ∨ (1 ≤ room ∧ room ≤ 4096 ∧ 1 ≤ life ∧ 1099511627776 < life) := by
    unfold newOk at h
    omega
  clear h
  rcases hq with h | ⟨h1, h⟩ | ⟨h1, h2, h⟩ | ⟨h1, h2, h3, h⟩
  all_goals
    go_enter Try.func22, Try.ntmps22
    go_wp2
    go_ret2
    exact ⟨rfl, rfl⟩
set_option maxRecDepth 100000 in
theorem qnew_ok (room life most win : Int) (W : World) (h : keepOk room life most win) :
    Calls Try.prog 8 #[.agg #[.int .i64 room, .int .i64 life, .int .i64 most, .int .i64 win]] W fun e W' => ∃ q r, e = .returned (.tuple #[.pointer (some ⟨q, 0, none⟩), .int .i64 0]) ∧ Below W.heap.size W W' ∧ W'.heap[q]? = some (.cells #[.pointer (some ⟨r, 0, none⟩), .int .i64 room, .int .i64 life, .int .i64 most, .int .i64 win, .slice none 0 0] 52 (0, 0)) ∧ W.heap.size ≤ q := by
  obtain ⟨hn, h1, h2, h3, h4⟩ := h
  have C0 := hide (fun W => r10new_ok room life W hn)
  have r0 := heap_alloc_new W (.cells #[.int .i64 room, .int .i64 life, .int .i64 most, .int .i64 win] 23)
  have B0 := hide (alloc_below W (.cells #[.int .i64 room, .int .i64 life, .int .i64 most, .int .i64 win] 23))
  have R0 := hide r0
  obtain ⟨q0, q1, q2, q3, _⟩ := cells4 r0
  have n1 : ¬ most < 0 := by omega
  have n2 : ¬ 64 < most := by omega
  have n3 : ¬ win < 1 := by omega
  have n4 : ¬ 1099511627776 < win := by omega
  clear r0 hn h1 h2 h3 h4
  go_enter Try.func8, Try.ntmps8
  go_wp2_with fail
  refine (unhide C0 _).mono ?_
  rintro e w1 ⟨⟨r, rfl⟩, b1⟩
  have R1 := Below.row b1 (unhide R0)
  obtain ⟨s0, s1, s2, s3, _⟩ := cells4 R1
  have B1 := hide (bthen (unhide B0) b1)
  clear b1 C0 q0 q1 q2 q3
  go_wp2_with fail
  go_ret2
  exact ⟨_, r, rfl, alloc_then (unhide B1), heap_alloc_new w1 _, (unhide B1).size⟩
set_option maxRecDepth 100000 in
theorem qnew_no (room life most win : Int) (W : World) (h : ¬ keepOk room life most win) :
    Calls Try.prog 8 #[.agg #[.int .i64 room, .int .i64 life, .int .i64 most, .int .i64 win]] W fun e W' => e = .returned (.tuple #[.pointer none, .int .i64 1]) ∧ Below W.heap.size W W' := by
  have b0 := alloc_below W (.cells #[.int .i64 room, .int .i64 life, .int .i64 most, .int .i64 win] 23)
  have r0 := heap_alloc_new W (.cells #[.int .i64 room, .int .i64 life, .int .i64 most, .int .i64 win] 23)
  have B0 := hide b0
  have R0 := hide r0
  obtain ⟨q0, q1, q2, q3, _⟩ := cells4 r0
  by_cases hn : newOk room life
  · have C0 := hide (fun W => r10new_ok room life W hn)
    have hq : most < 0 ∨ (0 ≤ most ∧ 64 < most) ∨ (0 ≤ most ∧ most ≤ 64 ∧ win < 1) ∨ (0 ≤ most ∧ most ≤ 64 ∧ 1 ≤ win ∧ 1099511627776 < win) := by
      unfold keepOk at h
      have : ¬ (0 ≤ most ∧ most ≤ 64 ∧ 1 ≤ win ∧ win ≤ 1099511627776) := fun q => h ⟨hn, q⟩
      omega
    clear b0 r0 hn h
    rcases hq with h | ⟨h1, h⟩ | ⟨h1, h2, h⟩ | ⟨h1, h2, h3, h⟩
    all_goals
      go_enter Try.func8, Try.ntmps8
      go_wp2_with fail
      refine (unhide C0 _).mono ?_
      rintro e w1 ⟨⟨r, rfl⟩, b1⟩
      have R1 := Below.row b1 (unhide R0)
      obtain ⟨s0, s1, s2, s3, _⟩ := cells4 R1
      have B1 := hide (bthen (unhide B0) b1)
      clear b1 C0 q0 q1 q2 q3
      go_wp2_with fail
      go_ret2
      exact ⟨rfl, unhide B1⟩
  · have C0 := hide (fun W => r10new_no room life W hn)
    clear b0 r0 hn h
    go_enter Try.func8, Try.ntmps8
    go_wp2_with fail
    refine (unhide C0 _).mono ?_
    rintro e w1 ⟨rfl, rfl⟩
    go_wp2_with fail
    go_ret2
    exact ⟨rfl, unhide B0⟩
theorem qTarget_any (k n : Int) (b : Bool) (w : World) (hn : 0 ≤ n) (hb : b = true ↔ Tgt k n) : Calls Try.prog 17 #[.agg #[.int .i64 k, .int .u32 n]] w fun e w' => e = .returned (.bool b) ∧ Below w.heap.size w w' := by
  have r0 := cells2 (heap_alloc_new w (.cells #[.int .i64 k, .int .u32 n] 42))
  have b0 := hide (alloc_below w (.cells #[.int .i64 k, .int .u32 n] 42))
  unfold Tgt at hb
  have hq : (k = 0 ∧ 1 ≤ n ∧ n ≤ 64 ∧ b = true) ∨ (k = 0 ∧ 1 ≤ n ∧ ¬ n ≤ 64 ∧ b = false) ∨ (k = 0 ∧ ¬ 1 ≤ n ∧ b = false) ∨ (k = 1 ∧ 0 < n ∧ b = true) ∨ (k = 1 ∧ ¬ 0 < n ∧ b = false) ∨ (k ≠ 0 ∧ k ≠ 1 ∧ b = false) := by
    cases b
    · have : ¬ ((k = 0 ∧ 1 ≤ n ∧ n ≤ 64) ∨ (k = 1 ∧ 1 ≤ n)) := fun h => by have := hb.2 h; cases this
      simp only [Bool.false_eq_true, and_false, and_true]
      omega
    · have := hb.1 rfl
      simp only [Bool.true_eq_false, and_false, and_true]
      omega
  clear hb
  rcases hq with ⟨rfl, h1, h2, rfl⟩ | ⟨rfl, h1, h2, rfl⟩ | ⟨rfl, h1, rfl⟩ | ⟨rfl, h1, rfl⟩ | ⟨rfl, h1, rfl⟩ | ⟨h0, h1, rfl⟩
  · go_enter Try.func17, Try.ntmps17
    go_wp2
    go_ret
    exact ⟨rfl, unhide b0⟩
  · go_enter Try.func17, Try.ntmps17
    go_wp2
    go_ret
    exact ⟨rfl, unhide b0⟩
  · go_enter Try.func17, Try.ntmps17
    go_wp2
    go_ret
    exact ⟨rfl, unhide b0⟩
  · go_enter Try.func17, Try.ntmps17
    go_wp2
    go_ret
    exact ⟨rfl, unhide b0⟩
  · go_enter Try.func17, Try.ntmps17
    go_wp2
    go_ret
    exact ⟨rfl, unhide b0⟩
  · have e0 : (k == 0) = false := by rw [beq_eq_false_iff_ne]; exact h0
    have e1 : (k == 1) = false := by rw [beq_eq_false_iff_ne]; exact h1
    clear h0 h1
    go_enter Try.func17, Try.ntmps17
    go_wp2
    go_ret
    exact ⟨rfl, unhide b0⟩
end Go.Proofs.Ytpddbfdgaeldjaa
