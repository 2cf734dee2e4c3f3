/-
  The contract of roles.role: what a port is.
-/
import Derived.Test.YtagfaaciakbnbaaVw2
namespace Go.Proofs.Ytagfaaciakbnbaa
open Go.RowKit Go.Sort

set_option maxHeartbeats 1000000 in
set_option maxRecDepth 100000 in
theorem role_at (up told is : Bool) (s r c d p o r2 c2 d2 p2 o2 t y : Int) (w : World)
    (KA : Hid (∀ W, Calls Try.prog 29 #[.agg #[.int .u64 r, .int .i64 c, .int .u64 d, .int .i64 p, .int .i64 o], .int .i64 o2] W fun e w' => e = .returned (.agg #[.int .u64 r, .int .i64 c, .int .u64 d, .int .i64 p, .int .i64 o2]) ∧ Below W.heap.size W w'))
    (KC : Hid (∀ W, Calls Try.prog 20 #[.agg #[.int .u64 r, .int .i64 c, .int .u64 d, .int .i64 p, .int .i64 o2], .agg #[.int .u64 r2, .int .i64 c2, .int .u64 d2, .int .i64 p2, .int .i64 o2]] W fun e w' => e = .returned (.int .i64 t) ∧ Below W.heap.size W w'))
    (h : (up = false ∧ y = 0) ∨ (up = true ∧ is = true ∧ y = 4) ∨ (up = true ∧ is = false ∧ told = false ∧ y = 3) ∨ (up = true ∧ is = false ∧ told = true ∧ 0 ≤ t ∧ y = 3) ∨ (up = true ∧ is = false ∧ told = true ∧ t < 0 ∧ (d = d2 ∧ y = 1 ∨ d ≠ d2 ∧ y = 2))) :
    Calls Try.prog 23 #[.agg #[.bool up, .int .i64 s, .bool told, .int .u64 r, .int .i64 c, .int .u64 d, .int .i64 p, .int .i64 o], .bool is, .agg #[.int .u64 r2, .int .i64 c2, .int .u64 d2, .int .i64 p2, .int .i64 o2]] w fun e w' => e = .returned (.int .i64 y) ∧ Below w.heap.size w w' := by
  have hA := heap_alloc2_old w (.cells #[.bool up, .int .i64 s, .bool told, .int .u64 r, .int .i64 c, .int .u64 d, .int .i64 p, .int .i64 o] 34) (.cells #[.int .u64 r2, .int .i64 c2, .int .u64 d2, .int .i64 p2, .int .i64 o2] 25)
  have hF := heap_alloc2_new w (.cells #[.bool up, .int .i64 s, .bool told, .int .u64 r, .int .i64 c, .int .u64 d, .int .i64 p, .int .i64 o] 34) (.cells #[.int .u64 r2, .int .i64 c2, .int .u64 d2, .int .i64 p2, .int .i64 o2] 25)
  have hb := alloc_then (o := .cells #[.int .u64 r2, .int .i64 c2, .int .u64 d2, .int .i64 p2, .int .i64 o2] 25) (alloc_below w (.cells #[.bool up, .int .i64 s, .bool told, .int .u64 r, .int .i64 c, .int .u64 d, .int .i64 p, .int .i64 o] 34))
  go_enter Try.func23, Try.ntmps23
  go_upto_region 1 with fail
  generalize (w.alloc (.cells #[.bool up, .int .i64 s, .bool told, .int .u64 r, .int .i64 c, .int .u64 d, .int .i64 p, .int .i64 o] 34)).alloc (.cells #[.int .u64 r2, .int .i64 c2, .int .u64 d2, .int .i64 p2, .int .i64 o2] 25) = W2 at *
  obtain ⟨q0, q1, q2, q3, q4, q5, q6, q7, -⟩ := xcells hA
  obtain ⟨f0, f1, f2, f3, f4, -⟩ := vcells hF
  have HA := hide hA
  have HF := hide hF
  have HB := hide hb
  clear hA hF hb
  rcases h with ⟨rfl, rfl⟩ | ⟨rfl, rfl, rfl⟩ | ⟨rfl, rfl, rfl, rfl⟩ | h
  · go_wp2_with fail
    go_ret
    exact ⟨rfl, unhide HB⟩
  · go_wp2_with fail
    go_ret
    exact ⟨rfl, unhide HB⟩
  · go_wp2_with fail
    go_ret
    exact ⟨rfl, unhide HB⟩
  · obtain ⟨rfl, rfl, rfl⟩ : up = true ∧ is = false ∧ told = true := by
      rcases h with h | h <;> exact ⟨h.1, h.2.1, h.2.2.1⟩
    have HY := hide h
    clear h
    go_upto_region 4 with fail
    have k3 := cell_regrown q3
    have k4 := cell_regrown q4
    have k5 := cell_regrown q5
    have k6 := cell_regrown q6
    have k7 := cell_regrown q7
    have l0 := cell_regrown f0
    have l1 := cell_regrown f1
    have l2 := cell_regrown f2
    have l3 := cell_regrown f3
    have l4 := cell_regrown f4
    have ca := at_grown (unhide KA) W2
    have cc := at_grown (unhide KC) W2
    clear q0 q1 q2 q3 q4 q5 q6 q7 f0 f1 f2 f3 f4
    refine wp_region_quiet_below (by kernel_rfl) (by kernel_rfl) ?_
    repeat (go_big_quiet_step (first | (go_at_call 29; exact ca _ _) | (go_at_call 20; exact cc _ _)))
    refine wpQuiet_nil ?_
    rintro _ ⟨⟨dq, osq⟩, rfl⟩
    have HB3 := hide (grown_then (unhide HB) dq osq)
    have HA3 := hide (Below.row (below_regrown W2 dq osq) (unhide HA))
    have HF3 := hide (Below.row (below_regrown W2 dq osq) (unhide HF))
    clear k3 k4 k5 k6 k7 l0 l1 l2 l3 l4 ca cc HA HF HB KA KC
    generalize grow (redrawn W2 dq) osq = W3 at *
    rcases (unhide HY) with ⟨-, -, -, ht, rfl⟩ | ⟨-, -, -, ht, hd⟩
    · have dt : decide (0 ≤ t) = true := decide_eq_true ht
      clear HY
      go_wp2_with fail
      go_ret
      exact ⟨rfl, unhide HB3⟩
    · have dt : decide (0 ≤ t) = false := decide_eq_false (by omega)
      obtain ⟨q0, q1, q2, q3, q4, q5, q6, q7, -⟩ := xcells (unhide HA3)
      obtain ⟨f0, f1, f2, f3, f4, -⟩ := vcells (unhide HF3)
      rcases hd with ⟨rfl, rfl⟩ | ⟨hd, rfl⟩
      · clear HY
        go_wp2_with fail
        go_ret
        exact ⟨rfl, unhide HB3⟩
      · have e1 : (d == d2) = false := by simpa using hd
        have e2 : decide (d = d2) = false := decide_eq_false hd
        clear HY
        go_wp2_with fail
        go_ret
        exact ⟨rfl, unhide HB3⟩
theorem role_any (x : Vw) (is : Bool) (s : Vc) (w : World) (hx : x.fits) (hs : s.fits) : Calls Try.prog 23 #[x.val, .bool is, s.val] w fun e w' => e = .returned (.int .i64 (roleOf x is s)) ∧ Below w.heap.size w w' := by
  have hf : (x.v.at s.on).fits := at_fits hx.2 hs.2.2.2.2
  obtain ⟨up, sc, told, r, c, d, p, o⟩ := x
  obtain ⟨r2, c2, d2, p2, o2⟩ := s
  refine role_at up told is sc r c d p o r2 c2 d2 p2 o2 ((Vc.at ⟨r, c, d, p, o⟩ o2).cmp ⟨r2, c2, d2, p2, o2⟩) _ w (hide fun W => rat_at r c d p o o2 W) (hide fun W => vcmp_any (Vc.at ⟨r, c, d, p, o⟩ o2) ⟨r2, c2, d2, p2, o2⟩ W hf hs) ?_
  unfold roleOf
  simp only
  cases up with
  | false => exact .inl ⟨rfl, by simp⟩
  | true =>
    cases is with
    | true => exact .inr (.inl ⟨rfl, rfl, by simp⟩)
    | false =>
      cases told with
      | false => exact .inr (.inr (.inl ⟨rfl, rfl, rfl, by simp⟩))
      | true =>
        by_cases ht : 0 ≤ (Vc.at ⟨r, c, d, p, o⟩ o2).cmp ⟨r2, c2, d2, p2, o2⟩
        · exact .inr (.inr (.inr (.inl ⟨rfl, rfl, rfl, ht, by simp [ht]⟩)))
        · refine .inr (.inr (.inr (.inr ⟨rfl, rfl, rfl, by omega, ?_⟩)))
          by_cases hd : d = d2
          · exact .inl ⟨by omega, by rw [if_neg (by simp), if_neg (by simp), if_neg (fun q => q.elim (fun q => by cases q) ht), if_pos hd]⟩
          · exact .inr ⟨by omega, by rw [if_neg (by simp), if_neg (by simp), if_neg (fun q => q.elim (fun q => by cases q) ht), if_neg hd]⟩
end Go.Proofs.Ytagfaaciakbnbaa
