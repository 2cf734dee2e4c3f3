/-
  The contracts of cmp.Less of numbers, of slices.Sort of at most twelve numbers that rise already: nothing has turned.
-/
import Derived.Test.YtpddbfdgaeldjaaAg9
namespace Go.Proofs.Ytpddbfdgaeldjaa
open Go.RowKit Go.Sort

theorem nani_any (a : Int) (w : World) : Calls Try.prog 96 #[.int .i64 a] w fun e w' => e = .returned (.bool false) ∧ w' = w := by
  go_enter Try.func96, Try.ntmps96
  go_wp2
  go_ret
  exact ⟨rfl, rfl⟩
theorem less_any (a b : Int) (w : World) : Calls Try.prog 84 #[.int .i64 a, .int .i64 b] w fun e w' => e = .returned (.bool (decide (a < b))) ∧ w' = w := by
  have C := hide (fun x W => nani_any x W)
  obtain ⟨t, ht⟩ : ∃ t, decide (a < b) = t := ⟨_, rfl⟩
  rw [ht]
  go_enter Try.func84, Try.ntmps84
  go_wp2_with (go_at_call 96; refine (unhide C _ _).mono ?_; rintro e w2 ⟨rfl, rfl⟩)
  go_ret
  exact ⟨rfl, rfl⟩
/-- numbers in a row's cells, from a place on -/
def Irow (w : World) (r o : Nat) (M : List Int) : Prop := ∀ j (h : j < M.length), w.cell? ⟨r, o + j, none⟩ = some (.int .i64 M[j])
theorem Irow.below {w w' : World} {r o : Nat} {M : List Int} (h : Irow w r o M) (b : Below w.heap.size w w') : Irow w' r o M := fun j hj =>
  (b.cell (p := ⟨r, o + j, none⟩) (block_lt_of_cell (h j hj))).trans (h j hj)
/-- they rise -/
def Rises (M : List Int) : Prop := M.Pairwise (· ≤ ·)
theorem rises_at {M : List Int} (h : Rises M) {i j : Nat} (hi : i < j) (hj : j < M.length) : M[i]'(by omega) ≤ M[j] := List.pairwise_iff_getElem.1 h i j (by omega) hj hi
set_option maxHeartbeats 1000000 in
set_option maxRecDepth 100000 in
theorem insort_any (M : List Int) (r o c n : Nat) (w : World) (hr : Irow w r o M) (hn : M.length = n) (hs : Rises M) (hc : n ≤ 12) :
    Calls Try.prog 78 #[.slice (some ⟨r, o, none⟩) n c, .int .i64 0, .int .i64 n] w fun e w' => e = .returned (.tuple #[]) ∧ Below w.heap.size w w' := by
  have HR := hide hr
  have HS := hide hs
  have HN := hide hn
  have C := hide (fun a b W => less_any a b W)
  clear hr hs hn
  go_enter Try.func78, Try.ntmps78
  go_wp2_with fail
  go_loopw [6] (fun a wr => ∃ k : Nat, a = .int .i64 k ∧ 1 ≤ k ∧ Below w.heap.size w wr) (fun a _ => n - (intOf a).toNat)
  case atStart => exact ⟨1, rfl, Nat.le_refl _, Below.refl _ _⟩
  case round =>
    obtain ⟨k, rfl, hk1, hb⟩ := hrel
    have HB := hide hb
    have hr1 := (unhide HR).below hb
    clear hb
    by_cases hlt : k < n
    · obtain ⟨q, rfl⟩ : ∃ q, k = q + 1 := ⟨k - 1, by omega⟩
      have hkl : q + 1 < M.length := by rw [unhide HN]; exact hlt
      have e1 := hr1 (q + 1) hkl
      have e0 := hr1 q (by omega)
      have hle := rises_at (unhide HS) (i := q) (j := q + 1) (by omega) hkl
      have C1 := hide (unhide C (M[q + 1]) (M[q]'(by omega)))
      have hd : decide (M[q + 1] < M[q]'(by omega)) = false := decide_eq_false (by omega)
      rw [hd] at C1
      generalize M[q + 1] = x1 at e1 C1
      generalize M[q]'(by omega) = x0 at e0 C1
      clear hle hd hr1
      go_wp2_with fail
      refine wp_loop_rounds 1 ?_
      rw [rounds_succ]
      go_wp2_with fail
      go_quiet ((go_at_call 84; exact Calls.quiet_of_same (unhide C1 _)))
      have hb2 := drewN_below (unhide HB) nq
      go_wp2_with fail
      go_roundw
      case rel => exact ⟨q + 2, by go_num, by omega, hb2⟩
      case measure => simp [intOf]; omega
    · clear hr1
      go_wp2_with fail
      go_end0
      exact ⟨rfl, unhide HB⟩
set_option maxRecDepth 100000 in
theorem blen_any (n : Nat) (w : World) (h : n ≤ 12) : Calls Try.prog 70 #[.int .u64 n] w fun e w' => (∃ k : Int, e = .returned (.int .i64 k)) ∧ w' = w := by
  have C : Hid (Calls Try.prog 88 #[.int .u64 n] w fun e w' => (∃ k : Int, e = .returned (.int .i64 k)) ∧ w' = w) := by
    show Calls _ _ _ _ _
    obtain rfl | rfl | rfl | rfl | rfl | rfl | rfl | rfl | rfl | rfl | rfl | rfl | rfl : n = 0 ∨ n = 1 ∨ n = 2 ∨ n = 3 ∨ n = 4 ∨ n = 5 ∨ n = 6 ∨ n = 7 ∨ n = 8 ∨ n = 9 ∨ n = 10 ∨ n = 11 ∨ n = 12 := by omega
    all_goals
      go_enter Try.func88, Try.ntmps88
      go_wp2
      go_ret
      exact ⟨⟨_, rfl⟩, rfl⟩
  go_enter Try.func70, Try.ntmps70
  go_wp2_with fail
  refine (unhide C).mono ?_
  rintro e w2 ⟨⟨k, rfl⟩, rfl⟩
  go_wp2_with fail
  go_ret
  exact ⟨⟨_, rfl⟩, rfl⟩
set_option maxRecDepth 100000 in
theorem pdq_any (M : List Int) (r o c n : Nat) (lim : Int) (w : World) (hr : Irow w r o M) (hn : M.length = n) (hs : Rises M) (hc : n ≤ 12) :
    Calls Try.prog 69 #[.slice (some ⟨r, o, none⟩) n c, .int .i64 0, .int .i64 n, .int .i64 lim] w fun e w' => e = .returned (.tuple #[]) ∧ Below w.heap.size w w' := by
  have C := hide (insort_any M r o c n w hr hn hs hc)
  have hd : (n : Int) ≤ 12 := by omega
  clear hr hn hs
  go_enter Try.func69, Try.ntmps69
  go_wp2_with fail
  refine wp_loop_rounds 1 ?_
  rw [rounds_succ]
  go_wp2_with fail
  refine (unhide C).mono ?_
  rintro e w2 ⟨rfl, b2⟩
  have B2 := hide b2
  clear b2 C
  go_wp2_with fail
  refine bodyPost_ret (results_none rfl _ _ _) rfl ?_
  exact ⟨rfl, unhide B2⟩
set_option maxRecDepth 100000 in
theorem sort_any (M : List Int) (r o c n : Nat) (w : World) (hr : Irow w r o M) (hn : M.length = n) (hs : Rises M) (hc : n ≤ 12) :
    Calls Try.prog 58 #[.slice (some ⟨r, o, none⟩) n c] w fun e w' => e = .returned (.tuple #[]) ∧ Below w.heap.size w w' := by
  have C := hide (fun lim => pdq_any M r o c n lim w hr hn hs hc)
  have CL := hide (blen_any n w hc)
  clear hr hn hs
  go_enter Try.func58, Try.ntmps58
  go_wp2_with fail
  refine (unhide CL).mono ?_
  rintro e w2 ⟨⟨k, rfl⟩, rfl⟩
  go_wp2_with fail
  refine (unhide C _).mono ?_
  rintro e w2 ⟨rfl, b2⟩
  have B2 := hide b2
  clear b2 C
  go_wp2_with fail
  go_end0
  exact ⟨rfl, unhide B2⟩
end Go.Proofs.Ytpddbfdgaeldjaa
