/-
  The contracts of vectors.rising, within and partsOf, and of two arrays of five words held against each other.
-/
import Derived.Test.YtagfaaciakbnbaaCellsV
import Derived.Test.YtagfaaciakbnbaaVcPlain
import Derived.BigQuiet
import Derived.Laws.StructEq
import Derived.ChangeKeysEq
import Derived.Deep.RegionHeld3
import Derived.Handy
namespace Go.Proofs.Ytagfaaciakbnbaa
open Go.RowKit Go.Sort

theorem xor_top (m : Nat) (h : m < 9223372036854775808) : m ^^^ 9223372036854775808 = m + 9223372036854775808 := by
  have e : (9223372036854775808 : Nat) = 2 ^ 63 := by decide
  rw [e] at h ⊢
  apply Nat.eq_of_testBit_eq
  intro i
  rw [Nat.testBit_xor, Nat.testBit_two_pow, Nat.add_comm]
  rcases Nat.lt_trichotomy i 63 with hi | hi | hi
  · rw [Nat.testBit_two_pow_add_gt hi, decide_eq_false (by omega)]; simp
  · subst hi
    rw [Nat.testBit_two_pow_add_eq, decide_eq_true rfl]
    simp
  · have h1 : 2 ^ 63 + m < 2 ^ i := by
      have : 2 ^ 64 ≤ 2 ^ i := Nat.pow_le_pow_right (by omega) hi
      have e2 : (2 : Nat) ^ 64 = 2 ^ 63 + 2 ^ 63 := by decide
      omega
    rw [Nat.testBit_lt_two_pow h1, Nat.testBit_lt_two_pow (by omega), decide_eq_false (by omega)]; simp
theorem xor_off (m : Nat) (h : m < 9223372036854775808) : (m + 9223372036854775808) ^^^ 9223372036854775808 = m := by
  rw [← xor_top m h, Nat.xor_assoc, Nat.xor_self, Nat.xor_zero]
theorem rise_word {n : Int} (h : I64 n) : ∃ u : Nat, IntKind.u64.wrap n = (u : Int) ∧ bits .xor .u64 (u : Int) 9223372036854775808 = ((rise n : Nat) : Int) := by
  refine ⟨(n % 18446744073709551616).toNat, by rw [IntKind.wrap_u64]; omega, ?_⟩
  have hu : (n % 18446744073709551616).toNat < 18446744073709551616 := by omega
  rw [show (9223372036854775808 : Int) = ((9223372036854775808 : Nat) : Int) from rfl, u64_xor_nat _ _ hu (by omega)]
  congr 1
  by_cases h0 : 0 ≤ n
  · have e : (n % 18446744073709551616).toNat = n.toNat := by omega
    rw [e, xor_top _ (by omega)]
    unfold rise; omega
  · have e : (n % 18446744073709551616).toNat = rise n + 9223372036854775808 := by unfold rise; omega
    rw [e, xor_off _ (by unfold rise; omega)]
theorem rising_any (n : Int) (w : World) (h : I64 n) : Calls Try.prog 34 #[.int .i64 n] w fun e w' => e = .returned (.int .u64 ((rise n : Nat) : Int)) ∧ Below w.heap.size w w' := by
  obtain ⟨u, hu, hb⟩ := rise_word h
  go_enter Try.func34, Try.ntmps34
  go_wp2
  go_ret
  exact ⟨rfl, Below.refl _ _⟩
theorem vwithin_any (n : Int) (w : World) : Calls Try.prog 33 #[.int .i64 n] w fun e w' => e = .returned (.bool (inB n)) ∧ w' = w := by
  unfold inB
  by_cases h : 0 ≤ n
  · by_cases h2 : n ≤ 4294967296
    · rw [decide_eq_true ⟨h, h2⟩]
      go_enter Try.func33, Try.ntmps33
      go_wp2
      go_ret
      exact ⟨rfl, rfl⟩
    · rw [decide_eq_false (fun q => h2 q.2)]
      go_enter Try.func33, Try.ntmps33
      go_wp2
      go_ret
      exact ⟨rfl, rfl⟩
  · rw [decide_eq_false (fun q => h q.1)]
    go_enter Try.func33, Try.ntmps33
    go_wp2
    go_ret
    exact ⟨rfl, rfl⟩
theorem vkeep {W W' : World} {g : Nat} {t : TypeId} {a0 a1 a2 a3 a4 : Value} (b : Below W.heap.size W W') (h : W.heap[g]? = some (.cells #[a0, a1, a2, a3, a4] t (0, 0))) :
    W'.cell? ⟨g, 0, none⟩ = some a0 ∧ W'.cell? ⟨g, 1, none⟩ = some a1 ∧ W'.cell? ⟨g, 2, none⟩ = some a2 ∧ W'.cell? ⟨g, 3, none⟩ = some a3 ∧ W'.cell? ⟨g, 4, none⟩ = some a4 := by
  obtain ⟨c0, c1, c2, c3, c4, _⟩ := vcells (Below.row b h)
  exact ⟨c0, c1, c2, c3, c4⟩
set_option maxRecDepth 100000 in
theorem partsOf_at (r c d p o r1 r3 r4 : Int) (w : World)
    (C1 : Hid (∀ W, Calls Try.prog 34 #[.int .i64 c] W fun e w' => e = .returned (.int .u64 r1) ∧ Below W.heap.size W w'))
    (C3 : Hid (∀ W, Calls Try.prog 34 #[.int .i64 p] W fun e w' => e = .returned (.int .u64 r3) ∧ Below W.heap.size W w'))
    (C4 : Hid (∀ W, Calls Try.prog 34 #[.int .i64 o] W fun e w' => e = .returned (.int .u64 r4) ∧ Below W.heap.size W w')) :
    Calls Try.prog 31 #[.agg #[.int .u64 r, .int .i64 c, .int .u64 d, .int .i64 p, .int .i64 o]] w fun e w' => e = .returned (.agg #[.int .u64 r, .int .u64 r1, .int .u64 d, .int .u64 r3, .int .u64 r4]) ∧ Below w.heap.size w w' := by
  go_enter Try.func31, Try.ntmps31
  go_wp2_with fail
  have hA := heap_alloc2_old w (.cells #[.int .u64 r, .int .i64 c, .int .u64 d, .int .i64 p, .int .i64 o] 25) (.cells #[.int .u64 0, .int .u64 0, .int .u64 0, .int .u64 0, .int .u64 0] 52)
  have hF := heap_alloc2_new w (.cells #[.int .u64 r, .int .i64 c, .int .u64 d, .int .i64 p, .int .i64 o] 25) (.cells #[.int .u64 0, .int .u64 0, .int .u64 0, .int .u64 0, .int .u64 0] 52)
  have hb := alloc_then (o := .cells #[.int .u64 0, .int .u64 0, .int .u64 0, .int .u64 0, .int .u64 0] 52) (alloc_below w (.cells #[.int .u64 r, .int .i64 c, .int .u64 d, .int .i64 p, .int .i64 o] 25))
  generalize (w.alloc (.cells #[.int .u64 r, .int .i64 c, .int .u64 d, .int .i64 p, .int .i64 o] 25)).alloc (.cells #[.int .u64 0, .int .u64 0, .int .u64 0, .int .u64 0, .int .u64 0] 52) = W2 at *
  have HS := hide (And.intro hb.drew (And.intro hA hF))
  clear hA hF hb
  go_region_held3 (fun w' => w'.cell? ⟨w.heap.size, 0, none⟩ = some (.int .u64 r) ∧ w'.cell? ⟨w.heap.size, 1, none⟩ = some (.int .i64 c) ∧ w'.cell? ⟨w.heap.size, 2, none⟩ = some (.int .u64 d) ∧ w'.cell? ⟨w.heap.size, 3, none⟩ = some (.int .i64 p) ∧ w'.cell? ⟨w.heap.size, 4, none⟩ = some (.int .i64 o))
    ((first | (with_reducible exact unhide K5 _ _ _ _ _) | (exact vkeep (Below.refl _ _) (unhide HS).2.1)))
    ((first
      | (go_at_call_of 34 c; refine (unhide C1 _).mono ?_; rintro e5 w5 ⟨rfl, B5⟩; have HS := hide (And.intro (bthen (unhide HS).1 B5) (And.intro (Below.row B5 (unhide HS).2.1) (Below.row B5 (unhide HS).2.2))); have r5 := (unhide HS).2.2; obtain ⟨x0, x1, x2, x3, x4, u0, u1, u2, u3, u4⟩ := vcells r5; have K5 := hide (fun v0 v1 v2 v3 v4 => vkeep (Below.refl _ (((((w5.setCell ⟨w.heap.size + 1, 0, none⟩ v0).setCell ⟨w.heap.size + 1, 1, none⟩ v1).setCell ⟨w.heap.size + 1, 2, none⟩ v2).setCell ⟨w.heap.size + 1, 3, none⟩ v3).setCell ⟨w.heap.size + 1, 4, none⟩ v4)) (vother (Nat.ne_of_lt (Nat.lt_succ_self _)) (unhide HS).2.1)))
      | (go_at_call_of 34 p; refine (unhide C3 _).mono ?_; rintro e5 w5 ⟨rfl, B5⟩; have HS := hide (And.intro (bthen (unhide HS).1 B5) (And.intro (Below.row B5 (unhide HS).2.1) (Below.row B5 (unhide HS).2.2))); have r5 := (unhide HS).2.2; obtain ⟨x0, x1, x2, x3, x4, u0, u1, u2, u3, u4⟩ := vcells r5; have K5 := hide (fun v0 v1 v2 v3 v4 => vkeep (Below.refl _ (((((w5.setCell ⟨w.heap.size + 1, 0, none⟩ v0).setCell ⟨w.heap.size + 1, 1, none⟩ v1).setCell ⟨w.heap.size + 1, 2, none⟩ v2).setCell ⟨w.heap.size + 1, 3, none⟩ v3).setCell ⟨w.heap.size + 1, 4, none⟩ v4)) (vother (Nat.ne_of_lt (Nat.lt_succ_self _)) (unhide HS).2.1)))
      | (go_at_call_of 34 o; refine (unhide C4 _).mono ?_; rintro e5 w5 ⟨rfl, B5⟩; have HS := hide (And.intro (bthen (unhide HS).1 B5) (And.intro (Below.row B5 (unhide HS).2.1) (Below.row B5 (unhide HS).2.2))); have r5 := (unhide HS).2.2; obtain ⟨x0, x1, x2, x3, x4, u0, u1, u2, u3, u4⟩ := vcells r5; have K5 := hide (fun v0 v1 v2 v3 v4 => vkeep (Below.refl _ (((((w5.setCell ⟨w.heap.size + 1, 0, none⟩ v0).setCell ⟨w.heap.size + 1, 1, none⟩ v1).setCell ⟨w.heap.size + 1, 2, none⟩ v2).setCell ⟨w.heap.size + 1, 3, none⟩ v3).setCell ⟨w.heap.size + 1, 4, none⟩ v4)) (vother (Nat.ne_of_lt (Nat.lt_succ_self _)) (unhide HS).2.1)))))
  go_wp2_with fail
  refine bodyPost_ret ?_ rfl ⟨rfl, vbelow (unhide HS).1 (Nat.le_succ _)⟩
  exact results_cell_row rfl _ _ (w.heap.size + 1) 52 _ _ _ rfl (vset r5) Try.underlying52 rfl (by kernel_rfl)
end Go.Proofs.Ytagfaaciakbnbaa
