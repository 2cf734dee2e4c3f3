/-
  The contracts of vectors.Plus, of Of (vectors' and the document's), and of vectors.Best; vectors in a row.
-/
import Derived.Test.YtbacbfgacepaaaaVc3
namespace Go.Proofs.Ytbacbfgacepaaaa
open Go.RowKit Go.Sort

theorem vplus_any (v : Vc) (x : Int) (w : World) : Calls Try.prog 13 #[v.val, .int .i64 x] w fun e w' => e = .returned (v.plus x).val ∧ Below w.heap.size w w' := by
  refine plus_at v.root v.cost v.bridge v.port v.on x (v.far x) v.right (inB x) w (hide fun W => vright_any v W) (hide fun W => vwithin_any x W) ?_
  have hf : v.far x = if v.right = true ∧ inB x = true then min (v.cost + x) 4294967296 else 4294967296 := rfl
  cases hr : v.right with
  | false => exact .inr ⟨.inl rfl, by rw [hf, hr]; simp⟩
  | true =>
    cases hi : inB x with
    | false => exact .inr ⟨.inr ⟨rfl, rfl⟩, by rw [hf, hi]; simp⟩
    | true =>
      have h1 := right_iff.1 hr
      have h2 := inB_iff.1 hi
      rw [if_pos ⟨hr, hi⟩] at hf
      refine .inl ⟨rfl, rfl, v.cost + x, by unfold wrap64; omega, ?_⟩
      omega
/-- what a message says at a port -/
def ofVc (b : Bp) (n : Int) : Vc := ⟨b.root, b.cost, b.bridge, b.port, n⟩
set_option maxRecDepth 100000 in
theorem vof_any (b : Bp) (n : Int) (w : World) : Calls Try.prog 17 #[b.val, .int .i64 n] w fun e w' => e = .returned (ofVc b n).val ∧ Below w.heap.size w w' := by
  unfold Bp.val ofVc Vc.val
  obtain ⟨k, c, p, l, f, a, x, r, R, C, B, P, A, M, H, D⟩ := b
  simp only
  have hA := heap_alloc2_old w (.cells #[.int .i64 k, .bool c, .bool p, .bool l, .bool f, .bool a, .bool x, .int .i64 r, .int .u64 (R : Int), .int .i64 C, .int .u64 (B : Int), .int .i64 P, .int .i64 A, .int .i64 M, .int .i64 H, .int .i64 D] 31) (.cells #[.int .u64 0, .int .i64 0, .int .u64 0, .int .i64 0, .int .i64 0] 24)
  have hF := heap_alloc2_new w (.cells #[.int .i64 k, .bool c, .bool p, .bool l, .bool f, .bool a, .bool x, .int .i64 r, .int .u64 (R : Int), .int .i64 C, .int .u64 (B : Int), .int .i64 P, .int .i64 A, .int .i64 M, .int .i64 H, .int .i64 D] 31) (.cells #[.int .u64 0, .int .i64 0, .int .u64 0, .int .i64 0, .int .i64 0] 24)
  have hb := alloc_then (o := .cells #[.int .u64 0, .int .i64 0, .int .u64 0, .int .i64 0, .int .i64 0] 24) (alloc_below w (.cells #[.int .i64 k, .bool c, .bool p, .bool l, .bool f, .bool a, .bool x, .int .i64 r, .int .u64 (R : Int), .int .i64 C, .int .u64 (B : Int), .int .i64 P, .int .i64 A, .int .i64 M, .int .i64 H, .int .i64 D] 31))
  have q8 := cell_of_row _ _ 8 _ _ _ hA
  have q9 := cell_of_row _ _ 9 _ _ _ hA
  have q10 := cell_of_row _ _ 10 _ _ _ hA
  have q11 := cell_of_row _ _ 11 _ _ _ hA
  simp only [List.getElem?_toArray, List.getElem?_cons_succ, List.getElem?_cons_zero] at q8 q9 q10 q11
  obtain ⟨x0, x1, x2, x3, x4, z0, z1, z2, z3, z4⟩ := vcells hF
  clear hA
  go_enter Try.func17, Try.ntmps17
  go_upto_region 1 with fail
  generalize (w.alloc (.cells #[.int .i64 k, .bool c, .bool p, .bool l, .bool f, .bool a, .bool x, .int .i64 r, .int .u64 (R : Int), .int .i64 C, .int .u64 (B : Int), .int .i64 P, .int .i64 A, .int .i64 M, .int .i64 H, .int .i64 D] 31)).alloc (.cells #[.int .u64 0, .int .i64 0, .int .u64 0, .int .i64 0, .int .i64 0] 24) = W2 at *
  have HF := hide hF
  have HB := hide hb
  clear hF hb
  go_wp2_with fail
  refine bodyPost_ret ?_ rfl ⟨rfl, vbelow (unhide HB) (Nat.le_succ _)⟩
  exact results_cell_row rfl _ _ (w.heap.size + 1) 24 _ _ _ rfl (vset (unhide HF)) Try.underlying24 rfl (by kernel_rfl)
set_option maxRecDepth 100000 in
theorem wof_any (b : Bp) (n : Int) (w : World) : Calls Try.prog 18 #[b.val, .int .i64 n] w fun e w' => e = .returned (ofVc b n).val ∧ Below w.heap.size w w' := by
  unfold Bp.val ofVc Vc.val
  obtain ⟨k, c, p, l, f, a, x, r, R, C, B, P, A, M, H, D⟩ := b
  simp only
  have hA := heap_alloc2_old w (.cells #[.int .i64 k, .bool c, .bool p, .bool l, .bool f, .bool a, .bool x, .int .i64 r, .int .u64 (R : Int), .int .i64 C, .int .u64 (B : Int), .int .i64 P, .int .i64 A, .int .i64 M, .int .i64 H, .int .i64 D] 31) (.cells #[.int .u64 0, .int .i64 0, .int .u64 0, .int .i64 0, .int .i64 0] 24)
  have hF := heap_alloc2_new w (.cells #[.int .i64 k, .bool c, .bool p, .bool l, .bool f, .bool a, .bool x, .int .i64 r, .int .u64 (R : Int), .int .i64 C, .int .u64 (B : Int), .int .i64 P, .int .i64 A, .int .i64 M, .int .i64 H, .int .i64 D] 31) (.cells #[.int .u64 0, .int .i64 0, .int .u64 0, .int .i64 0, .int .i64 0] 24)
  have hb := alloc_then (o := .cells #[.int .u64 0, .int .i64 0, .int .u64 0, .int .i64 0, .int .i64 0] 24) (alloc_below w (.cells #[.int .i64 k, .bool c, .bool p, .bool l, .bool f, .bool a, .bool x, .int .i64 r, .int .u64 (R : Int), .int .i64 C, .int .u64 (B : Int), .int .i64 P, .int .i64 A, .int .i64 M, .int .i64 H, .int .i64 D] 31))
  have q8 := cell_of_row _ _ 8 _ _ _ hA
  have q9 := cell_of_row _ _ 9 _ _ _ hA
  have q10 := cell_of_row _ _ 10 _ _ _ hA
  have q11 := cell_of_row _ _ 11 _ _ _ hA
  simp only [List.getElem?_toArray, List.getElem?_cons_succ, List.getElem?_cons_zero] at q8 q9 q10 q11
  obtain ⟨x0, x1, x2, x3, x4, z0, z1, z2, z3, z4⟩ := vcells hF
  clear hA
  go_enter Try.func18, Try.ntmps18
  go_upto_region 1 with fail
  generalize (w.alloc (.cells #[.int .i64 k, .bool c, .bool p, .bool l, .bool f, .bool a, .bool x, .int .i64 r, .int .u64 (R : Int), .int .i64 C, .int .u64 (B : Int), .int .i64 P, .int .i64 A, .int .i64 M, .int .i64 H, .int .i64 D] 31)).alloc (.cells #[.int .u64 0, .int .i64 0, .int .u64 0, .int .i64 0, .int .i64 0] 24) = W2 at *
  have HF := hide hF
  have HB := hide hb
  clear hF hb
  go_wp2_with fail
  refine bodyPost_ret ?_ rfl ⟨rfl, vbelow (unhide HB) (Nat.le_succ _)⟩
  exact results_cell_row rfl _ _ (w.heap.size + 1) 24 _ _ _ rfl (vset (unhide HF)) Try.underlying24 rfl (by kernel_rfl)
/-- a vector's cells in memory -/
def VcAt (W : World) (b o : Nat) (v : Vc) : Prop :=
  W.cell? ⟨b, o, none⟩ = some (.int .u64 (v.root : Int)) ∧ W.cell? ⟨b, o + 1, none⟩ = some (.int .i64 v.cost) ∧ W.cell? ⟨b, o + 2, none⟩ = some (.int .u64 (v.bridge : Int)) ∧ W.cell? ⟨b, o + 3, none⟩ = some (.int .i64 v.port) ∧ W.cell? ⟨b, o + 4, none⟩ = some (.int .i64 v.on)
theorem VcAt.below {W W' : World} {b o : Nat} {v : Vc} (h : VcAt W b o v) (k : Below W.heap.size W W') : VcAt W' b o v := by
  obtain ⟨h0, h1, h2, h3, h4⟩ := h
  have hb := block_lt_of_cell h0
  exact ⟨(k.cell (p := ⟨b, o, none⟩) hb).trans h0, (k.cell (p := ⟨b, o + 1, none⟩) hb).trans h1, (k.cell (p := ⟨b, o + 2, none⟩) hb).trans h2, (k.cell (p := ⟨b, o + 3, none⟩) hb).trans h3, (k.cell (p := ⟨b, o + 4, none⟩) hb).trans h4⟩
/-- the cells in every world that has grown -/
theorem VcAt.regrown {W : World} {b o : Nat} {v : Vc} (h : VcAt W b o v) (d : Nat) (os : Array Obj) : VcAt (grow (redrawn W d) os) b o v := h.below (below_regrown W d os)
/-- vectors in a row, from a place on -/
def VcsIn (W : World) (ao : Option Addr) (n cap : Nat) (S : Nat → Vc) : Prop :=
  n ≤ cap ∧ cap ≤ maxLen ∧ (n = 0 ∨ ∃ b o, ao = some ⟨b, o, none⟩ ∧ ∀ i, i < n → VcAt W b (o + i * 5) (S i) ∧ (S i).fits)
theorem VcsIn.below {W W' : World} {ao : Option Addr} {n cap : Nat} {S : Nat → Vc} (h : VcsIn W ao n cap S) (k : Below W.heap.size W W') : VcsIn W' ao n cap S := by
  obtain ⟨h1, h2, h3⟩ := h
  refine ⟨h1, h2, ?_⟩
  rcases h3 with h3 | ⟨b, o, rfl, h3⟩
  · exact .inl h3
  · exact .inr ⟨b, o, rfl, fun i hi => ⟨(h3 i hi).1.below k, (h3 i hi).2⟩⟩
theorem VcsIn.take {W : World} {ao : Option Addr} {n cap : Nat} {S : Nat → Vc} (h : VcsIn W ao n cap S) {m : Nat} (hm : m ≤ n) : VcsIn W ao m cap S := by
  obtain ⟨h1, h2, h3⟩ := h
  refine ⟨by omega, h2, ?_⟩
  rcases h3 with h3 | ⟨b, o, rfl, h3⟩
  · exact .inl (by omega)
  · exact .inr ⟨b, o, rfl, fun i hi => h3 i (by omega)⟩
theorem VcsIn.fits {W : World} {ao : Option Addr} {n cap : Nat} {S : Nat → Vc} (h : VcsIn W ao n cap S) (i : Nat) (hi : i < n) : (S i).fits := by
  obtain ⟨h1, h2, h3⟩ := h
  rcases h3 with h3 | ⟨b, o, rfl, h3⟩
  · omega
  · exact (h3 i hi).2
theorem bestF_rng (S : Nat → Vc) (n : Nat) : -1 ≤ bestF S n ∧ bestF S n < n := by
  induction n with
  | zero => simp [bestF]
  | succ n ih =>
    rw [bestF]
    split <;> omega
set_option maxHeartbeats 1000000 in
set_option maxRecDepth 100000 in
theorem vbest_any (ao : Option Addr) (n cap : Nat) (S : Nat → Vc) (w : World) (h : VcsIn w ao n cap S) :
    Calls Try.prog 15 #[.slice ao n cap] w fun e w' => e = .returned (.int .i64 (bestF S n)) ∧ Below w.heap.size w w' := by
  have HV := hide h
  have hnc : n ≤ cap := h.1
  have hcm : cap ≤ maxLen := h.2.1
  unfold maxLen at hcm
  obtain ⟨res, hres⟩ : ∃ r, bestF S n = r := ⟨_, rfl⟩
  rw [hres]
  have HR := hide hres
  clear h hres
  go_enter Try.func15, Try.ntmps15
  go_wp2_with fail
  go_loopw [3, 8] (fun a b wr => ∃ i : Nat, b = .int .i64 i ∧ a = .int .i64 (bestF S i) ∧ i ≤ n ∧ Below w.heap.size w wr) (fun _ b _ => (n - intOf b).toNat)
  case atStart => exact ⟨0, rfl, rfl, Nat.zero_le _, Below.refl _ _⟩
  case round =>
    obtain ⟨i, rfl, rfl, hin, hb⟩ := hrel
    have HB := hide hb
    clear hb
    obtain ⟨k, hk⟩ : ∃ k, bestF S i = k := ⟨_, rfl⟩
    have hrng := bestF_rng S i
    rw [hk] at hrng ⊢
    have HK := hide hk
    clear hk
    by_cases hlt : i < n
    · obtain ⟨sb, so, rfl, hS⟩ := (unhide HV).2.2.resolve_left (by omega)
      have HS := hide hS
      obtain ⟨hc, hf⟩ := hS i hlt
      obtain ⟨c0, c1, c2, c3, c4⟩ := hc.below (unhide HB)
      have hiI : (i : Int) < (n : Int) := by omega
      clear hS hc
      by_cases hk0 : k < 0
      · have hn1 : bestF S (i + 1) = (i : Int) := by rw [bestF, if_pos (.inl (by rw [unhide HK]; exact hk0))]
        have dk : decide (k < 0) = true := decide_eq_true hk0
        have b1 := hide (alloc_then (o := .cells #[.int .u64 ((S i).root : Int), .int .i64 (S i).cost, .int .u64 ((S i).bridge : Int), .int .i64 (S i).port, .int .i64 (S i).on] 24) (unhide HB))
        clear hk0
        go_wp2_with fail
        go_quiet (fail)
        go_wp2_with fail
        go_roundw
        case rel => exact ⟨i + 1, by go_num, by rw [hn1], by omega, below_drewN (unhide b1) _⟩
        case measure => simp [intOf]; omega
      · obtain ⟨j, rfl⟩ : ∃ j : Nat, k = (j : Int) := ⟨k.toNat, by omega⟩
        have hj : j < i := by omega
        obtain ⟨hcj, hfj⟩ := unhide HS j (by omega)
        have b0 := alloc_then (o := .cells #[.int .u64 ((S i).root : Int), .int .i64 (S i).cost, .int .u64 ((S i).bridge : Int), .int .i64 (S i).port, .int .i64 (S i).on] 24) (unhide HB)
        have hv : VcAt (wr.alloc (.cells #[.int .u64 ((S i).root : Int), .int .i64 (S i).cost, .int .u64 ((S i).bridge : Int), .int .i64 (S i).port, .int .i64 (S i).on] 24)) wr.heap.size 0 (S i) := by
          have r := vcells (heap_alloc_new wr (.cells #[.int .u64 ((S i).root : Int), .int .i64 (S i).cost, .int .u64 ((S i).bridge : Int), .int .i64 (S i).port, .int .i64 (S i).on] 24))
          exact ⟨r.1, r.2.1, r.2.2.1, r.2.2.2.1, r.2.2.2.2.1⟩
        have hw := hcj.below b0
        have CC := fun W => at_grown (fun W' => vcmp_any (S i) (S j) W' hf hfj) W
        have B1 := hide b0
        have hbest : bestF S (i + 1) = if (S i).cmp (S j) < 0 then (i : Int) else (j : Int) := by
          rw [bestF, unhide HK]
          simp only [Int.toNat_natCast]
          by_cases hc : (S i).cmp (S j) < 0
          · rw [if_pos (.inr hc), if_pos hc]
          · rw [if_neg (by omega), if_neg hc]
        have HN := hide hbest
        have hjI : (j : Int) < (n : Int) := by omega
        have dk : decide ((j : Int) < 0) = false := decide_eq_false (by omega)
        unfold Vc.val at CC
        clear hk0 hrng HS b0 hf hfj hcj HK hbest
        generalize (S i).cmp (S j) = t at *
        generalize S i = a at *
        generalize S j = b at *
        obtain ⟨ra, ca, da, pa, oa⟩ := a
        obtain ⟨rb, cb, db, pb, ob⟩ := b
        simp only at *
        go_upto_region 5 with fail
        generalize wr.alloc (.cells #[.int .u64 (ra : Int), .int .i64 ca, .int .u64 (da : Int), .int .i64 pa, .int .i64 oa] 24) = W2 at *
        have CC2 := CC W2
        have k0 := cell_regrown hv.1
        have k1 := cell_regrown hv.2.1
        have k2 := cell_regrown hv.2.2.1
        have k3 := cell_regrown hv.2.2.2.1
        have k4 := cell_regrown hv.2.2.2.2
        have l0 := cell_regrown hw.1
        have l1 := cell_regrown hw.2.1
        have l2 := cell_regrown hw.2.2.1
        have l3 := cell_regrown hw.2.2.2.1
        have l4 := cell_regrown hw.2.2.2.2
        clear CC hv hw c0 c1 c2 c3 c4
        refine wp_region_quiet_below (by kernel_rfl) (by kernel_rfl) ?_
        repeat (go_big_quiet_step (first | (go_at_call 9; exact CC2 _ _)))
        refine wpQuiet_nil ?_
        rintro _ ⟨⟨dq, osq⟩, rfl⟩
        have hb3 := grown_then (unhide B1) dq osq
        clear k0 k1 k2 k3 k4 l0 l1 l2 l3 l4 CC2
        have HB3 := hide hb3
        clear hb3 B1
        by_cases ht : t < 0
        · have dt : decide (t < 0) = true := decide_eq_true ht
          have hn1 : bestF S (i + 1) = (i : Int) := by rw [unhide HN, if_pos ht]
          clear HN
          go_wp2_with fail
          go_roundw
          case rel => exact ⟨i + 1, by go_num, by rw [hn1], by omega, unhide HB3⟩
          case measure => simp [intOf]; omega
        · have dt : decide (t < 0) = false := decide_eq_false ht
          have hn1 : bestF S (i + 1) = (j : Int) := by rw [unhide HN, if_neg ht]
          clear HN
          go_wp2_with fail
          go_roundw
          case rel => exact ⟨i + 1, by go_num, by rw [hn1], by omega, unhide HB3⟩
          case measure => simp [intOf]; omega
    · obtain rfl : i = n := by omega
      obtain rfl : k = res := by rw [← unhide HK, unhide HR]
      go_wp2_with fail
      go_ret
      exact ⟨rfl, unhide HB⟩
end Go.Proofs.Ytbacbfgacepaaaa
