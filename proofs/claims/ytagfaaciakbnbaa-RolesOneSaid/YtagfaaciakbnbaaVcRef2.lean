/-
  The contracts of gangwayref13's Right and Plus: the document's answer to whether a vector may be, and what is farther.
-/
import Derived.Test.YtagfaaciakbnbaaVcRef1
namespace Go.Proofs.Ytagfaaciakbnbaa
open Go.RowKit Go.Sort

theorem size_alloc2 (w : World) (a b : Obj) : ((w.alloc a).alloc b).heap.size = w.heap.size + 1 + 1 := by simp
set_option maxRecDepth 100000 in
theorem wright_at (r c d p o : Int) (is : Bool) (w : World)
    (h : is = true ∧ (0 ≤ c ∧ c ≤ 4294967296) ∧ (0 ≤ p ∧ p ≤ 4294967296) ∧ 0 ≤ o ∧ o ≤ 4294967296 ∨ is = false ∧ ¬ ((0 ≤ c ∧ c ≤ 4294967296) ∧ (0 ≤ p ∧ p ≤ 4294967296) ∧ 0 ≤ o ∧ o ≤ 4294967296)) :
    Calls Try.prog 26 #[.agg #[.int .u64 r, .int .i64 c, .int .u64 d, .int .i64 p, .int .i64 o]] w fun e w' => e = .returned (.bool is) ∧ Below w.heap.size w w' := by
  have b0 := hide (alloc_below w (.cells #[.int .u64 r, .int .i64 c, .int .u64 d, .int .i64 p, .int .i64 o] 25))
  obtain ⟨q0, q1, q2, q3, q4, _⟩ := vcells (heap_alloc_new w (.cells #[.int .u64 r, .int .i64 c, .int .u64 d, .int .i64 p, .int .i64 o] 25))
  by_cases h0 : 0 ≤ c
  · by_cases h1 : c ≤ 4294967296
    · by_cases h2 : 0 ≤ p
      · by_cases h3 : p ≤ 4294967296
        · by_cases h4 : 0 ≤ o
          · by_cases h5 : o ≤ 4294967296
            · obtain rfl : is = true := by
                rcases h with ⟨h, _⟩ | ⟨_, h⟩
                · exact h
                · exact absurd ⟨⟨h0, h1⟩, ⟨h2, h3⟩, h4, h5⟩ h
              clear h
              go_enter Try.func26, Try.ntmps26
              go_wp2_with fail
              go_ret
              exact ⟨rfl, unhide b0⟩
            · obtain rfl : is = false := by
                rcases h with ⟨_, h⟩ | ⟨h, _⟩
                · omega
                · exact h
              clear h
              go_enter Try.func26, Try.ntmps26
              go_wp2_with fail
              go_ret
              exact ⟨rfl, unhide b0⟩
          · obtain rfl : is = false := by
              rcases h with ⟨_, h⟩ | ⟨h, _⟩
              · omega
              · exact h
            clear h
            go_enter Try.func26, Try.ntmps26
            go_wp2_with fail
            go_ret
            exact ⟨rfl, unhide b0⟩
        · obtain rfl : is = false := by
            rcases h with ⟨_, h⟩ | ⟨h, _⟩
            · omega
            · exact h
          clear h
          go_enter Try.func26, Try.ntmps26
          go_wp2_with fail
          go_ret
          exact ⟨rfl, unhide b0⟩
      · obtain rfl : is = false := by
          rcases h with ⟨_, h⟩ | ⟨h, _⟩
          · omega
          · exact h
        clear h
        go_enter Try.func26, Try.ntmps26
        go_wp2_with fail
        go_ret
        exact ⟨rfl, unhide b0⟩
    · obtain rfl : is = false := by
        rcases h with ⟨_, h⟩ | ⟨h, _⟩
        · omega
        · exact h
      clear h
      go_enter Try.func26, Try.ntmps26
      go_wp2_with fail
      go_ret
      exact ⟨rfl, unhide b0⟩
  · obtain rfl : is = false := by
      rcases h with ⟨_, h⟩ | ⟨h, _⟩
      · omega
      · exact h
    clear h
    go_enter Try.func26, Try.ntmps26
    go_wp2_with fail
    go_ret
    exact ⟨rfl, unhide b0⟩
theorem wright_any (v : Vc) (w : World) : Calls Try.prog 26 #[v.val] w fun e w' => e = .returned (.bool v.right) ∧ Below w.heap.size w w' := by
  refine wright_at v.root v.cost v.bridge v.port v.on v.right w ?_
  cases h : v.right with
  | true => exact .inl ⟨rfl, right_iff.1 h⟩
  | false => exact .inr ⟨rfl, fun q => by rw [right_iff.2 q] at h; cases h⟩
set_option maxRecDepth 100000 in
theorem wplus_at (r c d p o x y : Int) (t1 : Bool) (w : World)
    (KR : Hid (∀ W, Calls Try.prog 26 #[.agg #[.int .u64 r, .int .i64 c, .int .u64 d, .int .i64 p, .int .i64 o]] W fun e w' => e = .returned (.bool t1) ∧ Below W.heap.size W w'))
    (hy : ((0 ≤ x ∧ x ≤ 4294967296) ∧ t1 = true ∧ ∃ s, wrap64 (c + x) = s ∧ (s < 4294967296 ∧ y = s ∨ 4294967296 ≤ s ∧ y = 4294967296)) ∨ ((¬ 0 ≤ x ∨ 0 ≤ x ∧ (¬ x ≤ 4294967296 ∨ x ≤ 4294967296 ∧ t1 = false)) ∧ y = 4294967296)) :
    Calls Try.prog 17 #[.agg #[.int .u64 r, .int .i64 c, .int .u64 d, .int .i64 p, .int .i64 o], .int .i64 x] w fun e w' => e = .returned (.agg #[.int .u64 r, .int .i64 y, .int .u64 d, .int .i64 p, .int .i64 o]) ∧ Below w.heap.size w w' := by
  have hA := heap_alloc2_old w (.cells #[.int .u64 r, .int .i64 c, .int .u64 d, .int .i64 p, .int .i64 o] 25) (.cells #[.int .u64 0, .int .i64 0, .int .u64 0, .int .i64 0, .int .i64 0] 25)
  have hF := heap_alloc2_new w (.cells #[.int .u64 r, .int .i64 c, .int .u64 d, .int .i64 p, .int .i64 o] 25) (.cells #[.int .u64 0, .int .i64 0, .int .u64 0, .int .i64 0, .int .i64 0] 25)
  have hb := alloc_then (o := (.cells #[.int .u64 0, .int .i64 0, .int .u64 0, .int .i64 0, .int .i64 0] 25)) (alloc_below w (.cells #[.int .u64 r, .int .i64 c, .int .u64 d, .int .i64 p, .int .i64 o] 25))
  obtain ⟨q0, q1, q2, q3, q4, _⟩ := vcells hA
  go_enter Try.func17, Try.ntmps17
  go_upto_region 3 with fail
  have hA3 := Below.row (alloc_below ((w.alloc (.cells #[.int .u64 r, .int .i64 c, .int .u64 d, .int .i64 p, .int .i64 o] 25)).alloc (.cells #[.int .u64 0, .int .i64 0, .int .u64 0, .int .i64 0, .int .i64 0] 25)) (.cells #[.int .u64 r, .int .i64 4294967296, .int .u64 d, .int .i64 p, .int .i64 o] 25)) hA
  have hF3 := Below.row (alloc_below ((w.alloc (.cells #[.int .u64 r, .int .i64 c, .int .u64 d, .int .i64 p, .int .i64 o] 25)).alloc (.cells #[.int .u64 0, .int .i64 0, .int .u64 0, .int .i64 0, .int .i64 0] 25)) (.cells #[.int .u64 r, .int .i64 4294967296, .int .u64 d, .int .i64 p, .int .i64 o] 25)) hF
  have hC3 : (((w.alloc (.cells #[.int .u64 r, .int .i64 c, .int .u64 d, .int .i64 p, .int .i64 o] 25)).alloc (.cells #[.int .u64 0, .int .i64 0, .int .u64 0, .int .i64 0, .int .i64 0] 25)).alloc (.cells #[.int .u64 r, .int .i64 4294967296, .int .u64 d, .int .i64 p, .int .i64 o] 25)).heap[w.heap.size + 1 + 1]? = some (.cells #[.int .u64 r, .int .i64 4294967296, .int .u64 d, .int .i64 p, .int .i64 o] 25 (0, 0)) := heap_last _ _ _ (size_alloc2 _ _ _)
  have hb3 := alloc_then (o := (.cells #[.int .u64 r, .int .i64 4294967296, .int .u64 d, .int .i64 p, .int .i64 o] 25)) hb
  clear hA hF hb q0 q1 q2 q3 q4
  generalize ((w.alloc (.cells #[.int .u64 r, .int .i64 c, .int .u64 d, .int .i64 p, .int .i64 o] 25)).alloc (.cells #[.int .u64 0, .int .i64 0, .int .u64 0, .int .i64 0, .int .i64 0] 25)).alloc (.cells #[.int .u64 r, .int .i64 4294967296, .int .u64 d, .int .i64 p, .int .i64 o] 25) = W3 at *
  have HA := hide hA3
  have HF := hide hF3
  have HC := hide hC3
  have HB := hide hb3
  have n1 : w.heap.size + 1 ≠ w.heap.size + 1 + 1 := by omega
  clear hb3
  obtain ⟨q0, q1, q2, q3, q4, _⟩ := vcells hA3
  rcases hy with ⟨⟨x0, x1⟩, rfl, s, hw, hs⟩ | ⟨hx, rfl⟩
  · have HY := hide hs
    clear hA3 hF3 hC3 hs
    go_wp2_with fail
    refine (unhide KR _).mono ?_
    rintro e w1 ⟨rfl, b1⟩
    have HB1 := hide (bthen (unhide HB) b1)
    have HF1 := hide (Below.row b1 (unhide HF))
    have HC1 := hide (Below.row b1 (unhide HC))
    obtain ⟨q0, q1, q2, q3, q4, u0, u1, u2, u3, u4⟩ := vcells (Below.row b1 (unhide HA))
    obtain ⟨k0, k1, k2, k3, k4, l0, l1, l2, l3, l4⟩ := vcells (unhide HC1)
    clear b1 HB HA HF HC
    rcases (unhide HY) with ⟨h, rfl⟩ | ⟨h, rfl⟩
    · have dm : ∀ (ts : Array TypeId) (t : TypeId) (W : World), (Builtin.min_ ts t #[.int .i64 4294967296, .int .i64 y]).run Try.prog W = .ok (.int .i64 y) W := fun ts t W => min_right ts t h W
      obtain ⟨f0, f1, f2, f3, f4, z0, z1, z2, z3, z4⟩ := vcells (set_other (n := 1) (v := .int .i64 y) n1 (unhide HF1))
      clear h HY n1
      go_wp2_with fail
      refine bodyPost_ret ?_ rfl ⟨rfl, vbelow ((unhide HB1).setCell (p := ⟨w.heap.size + 1 + 1, 1, none⟩) (by show w.heap.size ≤ w.heap.size + 1 + 1; omega) _) (Nat.le_succ _)⟩
      exact results_cell_row rfl _ _ (w.heap.size + 1) 25 _ _ _ rfl (vset (set_other (by omega) (unhide HF1))) Try.underlying25 rfl (by kernel_rfl)
    · have dm : ∀ (ts : Array TypeId) (t : TypeId) (W : World), (Builtin.min_ ts t #[.int .i64 4294967296, .int .i64 s]).run Try.prog W = .ok (.int .i64 4294967296) W := fun ts t W => min_left ts t h W
      obtain ⟨f0, f1, f2, f3, f4, z0, z1, z2, z3, z4⟩ := vcells (set_other (n := 1) (v := .int .i64 4294967296) n1 (unhide HF1))
      clear h HY n1
      go_wp2_with fail
      refine bodyPost_ret ?_ rfl ⟨rfl, vbelow ((unhide HB1).setCell (p := ⟨w.heap.size + 1 + 1, 1, none⟩) (by show w.heap.size ≤ w.heap.size + 1 + 1; omega) _) (Nat.le_succ _)⟩
      exact results_cell_row rfl _ _ (w.heap.size + 1) 25 _ _ _ rfl (vset (set_other (by omega) (unhide HF1))) Try.underlying25 rfl (by kernel_rfl)
  · obtain ⟨k0, k1, k2, k3, k4, -⟩ := vcells hC3
    obtain ⟨f0, f1, f2, f3, f4, z0, z1, z2, z3, z4⟩ := vcells hF3
    clear hA3 hF3 hC3 n1
    rcases hx with h | ⟨h, h2 | ⟨h2, rfl⟩⟩
    · go_wp2_with fail
      refine bodyPost_ret ?_ rfl ⟨rfl, vbelow (unhide HB) (Nat.le_succ _)⟩
      exact results_cell_row rfl _ _ (w.heap.size + 1) 25 _ _ _ rfl (vset (unhide HF)) Try.underlying25 rfl (by kernel_rfl)
    · go_wp2_with fail
      refine bodyPost_ret ?_ rfl ⟨rfl, vbelow (unhide HB) (Nat.le_succ _)⟩
      exact results_cell_row rfl _ _ (w.heap.size + 1) 25 _ _ _ rfl (vset (unhide HF)) Try.underlying25 rfl (by kernel_rfl)
    · clear k0 k1 k2 k3 k4 f0 f1 f2 f3 f4 z0 z1 z2 z3 z4
      go_wp2_with fail
      refine (unhide KR _).mono ?_
      rintro e w1 ⟨rfl, b1⟩
      have HB1 := hide (bthen (unhide HB) b1)
      have HF1 := hide (Below.row b1 (unhide HF))
      obtain ⟨k0, k1, k2, k3, k4, -⟩ := vcells (Below.row b1 (unhide HC))
      obtain ⟨f0, f1, f2, f3, f4, z0, z1, z2, z3, z4⟩ := vcells (unhide HF1)
      clear b1 HB HA HF HC q0 q1 q2 q3 q4
      go_wp2_with fail
      refine bodyPost_ret ?_ rfl ⟨rfl, vbelow (unhide HB1) (Nat.le_succ _)⟩
      exact results_cell_row rfl _ _ (w.heap.size + 1) 25 _ _ _ rfl (vset (unhide HF1)) Try.underlying25 rfl (by kernel_rfl)
theorem wplus_any (v : Vc) (x : Int) (w : World) : Calls Try.prog 17 #[v.val, .int .i64 x] w fun e w' => e = .returned (v.plus x).val ∧ Below w.heap.size w w' := by
  refine wplus_at v.root v.cost v.bridge v.port v.on x (v.far x) v.right w (hide fun W => wright_any v W) ?_
  have hf : v.far x = if v.right = true ∧ inB x = true then min (v.cost + x) 4294967296 else 4294967296 := rfl
  by_cases hx : inB x = true
  · have h2 := inB_iff.1 hx
    cases hr : v.right with
    | false =>
      rw [if_neg (fun q => by rw [hr] at q; cases q.1)] at hf
      exact .inr ⟨.inr ⟨h2.1, .inr ⟨h2.2, rfl⟩⟩, hf⟩
    | true =>
      rw [if_pos ⟨hr, hx⟩] at hf
      have h1 := right_iff.1 hr
      refine .inl ⟨h2, rfl, v.cost + x, by unfold wrap64; omega, ?_⟩
      omega
  · rw [if_neg (fun q => hx q.2)] at hf
    have h2 : ¬ (0 ≤ x ∧ x ≤ 4294967296) := fun q => hx (inB_iff.2 q)
    refine .inr ⟨?_, hf⟩
    omega
end Go.Proofs.Ytagfaaciakbnbaa
