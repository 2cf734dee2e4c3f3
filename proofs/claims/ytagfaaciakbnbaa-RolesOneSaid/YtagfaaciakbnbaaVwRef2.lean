/-
  The contract of gangwayref14.Root: the document's best way.
-/
import Derived.Test.YtagfaaciakbnbaaVwRef1
namespace Go.Proofs.Ytagfaaciakbnbaa
open Go.RowKit Go.Sort

theorem ways_step {b : Nat} {S : Nat → Vw} {i : Nat} : waysVc b S (i + 1) = if offers b (S i) = true then waysVc b S i ++ [wayVc (S i) ((i : Int) + 1)] else waysVc b S i := rfl
theorem size_alloc3 (w : World) (a b c : Obj) : (((w.alloc a).alloc b).alloc c).heap.size = w.heap.size + 1 + 1 + 1 := by simp
/-- how it begins -/
theorem doc_begin (b : Nat) (w : World) : Doc14 w (((w.alloc (.cells #[.int .u64 0, .int .i64 0, .int .u64 0, .int .i64 0, .int .i64 0] 25)).alloc (.cells #[.int .u64 (b : Int), .int .i64 0, .int .u64 (b : Int), .int .i64 0, .int .i64 0] 25)).alloc (.cells #[.int .i64 0] 3))
    (.slice (some ⟨w.heap.size + 1, 0, none⟩) 1 1) (.slice (some ⟨w.heap.size + 1 + 1, 0, none⟩) 1 1) [ownVc b] [ownVc b] := by
  have r0 := heap_alloc2_old w (.cells #[.int .u64 0, .int .i64 0, .int .u64 0, .int .i64 0, .int .i64 0] 25) (.cells #[.int .u64 (b : Int), .int .i64 0, .int .u64 (b : Int), .int .i64 0, .int .i64 0] 25)
  have b3 := alloc_below ((w.alloc (.cells #[.int .u64 0, .int .i64 0, .int .u64 0, .int .i64 0, .int .i64 0] 25)).alloc (.cells #[.int .u64 (b : Int), .int .i64 0, .int .u64 (b : Int), .int .i64 0, .int .i64 0] 25)) (.cells #[.int .i64 0] 3)
  have o1 := World.ownsRow_lit (base := w.heap.size + 1) (e := 25) (size := 5) (w.alloc (.cells #[.int .u64 0, .int .i64 0, .int .u64 0, .int .i64 0, .int .i64 0] 25)) #[.int .u64 (b : Int), .int .i64 0, .int .u64 (b : Int), .int .i64 0, .int .i64 0] 1 (by simp) (by decide) rfl
  have o2 := World.ownsRow_lit (base := w.heap.size + 1) (e := 3) (size := 1) ((w.alloc (.cells #[.int .u64 0, .int .i64 0, .int .u64 0, .int .i64 0, .int .i64 0] 25)).alloc (.cells #[.int .u64 (b : Int), .int .i64 0, .int .u64 (b : Int), .int .i64 0, .int .i64 0] 25)) #[.int .i64 0] 1 (by simp) (by decide) rfl
  have e1 : (w.alloc (.cells #[.int .u64 0, .int .i64 0, .int .u64 0, .int .i64 0, .int .i64 0] 25)).heap.size = w.heap.size + 1 := by simp
  have e2 := size_alloc2 w (.cells #[.int .u64 0, .int .i64 0, .int .u64 0, .int .i64 0, .int .i64 0] 25) (.cells #[.int .u64 (b : Int), .int .i64 0, .int .u64 (b : Int), .int .i64 0, .int .i64 0] 25)
  rw [e1] at o1
  rw [e2] at o2
  exact ⟨alloc_then (alloc_then (alloc_below _ _)), Below.row b3 r0, own_below o1 b3, o2⟩
theorem vecs_in {W : World} {B g c : Nat} {L : List Vc} (d : Vc) (h : W.ownsRow B 25 5 (.slice (some ⟨g, 0, none⟩) L.length c) L.length (vecL L)) (hf : ∀ v ∈ L, v.fits) :
    VcsIn W (some ⟨g, 0, none⟩) L.length c (fun i => L[i]?.getD d) ∧ ∀ k, (hk : k < L.length) → VcAt W g (k * 5) L[k] := by
  have at_ : ∀ k, (hk : k < L.length) → VcAt W g (k * 5) L[k] := fun k hk => by
    have c : ∀ t u, t < 5 → (L[k]).cs[t]? = some u → W.cell? ⟨g, k * 5 + t, none⟩ = some u := fun t u ht hu => by
      rw [h.cellAt (k * 5 + t) (by omega), vecL_get L hk ht, hu]
    exact ⟨c 0 _ (by omega) rfl, c 1 _ (by omega) rfl, c 2 _ (by omega) rfl, c 3 _ (by omega) rfl, c 4 _ (by omega) rfl⟩
  refine ⟨?_, at_⟩
  obtain ⟨_, ⟨q, _⟩ | ⟨g', cap, cur, q, _, _, h4, h5, _⟩⟩ := h
  · cases q
  · cases q
    refine ⟨h4, h5, .inr ⟨g, 0, rfl, fun i hi => ?_⟩⟩
    have e : L[i]?.getD d = L[i] := by rw [List.getElem?_eq_getElem hi]; rfl
    simp only [e]
    exact ⟨by rw [Nat.zero_add]; exact at_ i hi, hf _ (List.getElem_mem _)⟩
theorem cell_other5 {W : World} {g : Nat} {a : Addr} {u v0 v1 v2 v3 v4 : Value} (h : a.block ≠ g) (hc : W.cell? a = some u) : (((((W.setCell ⟨g, 0, none⟩ v0).setCell ⟨g, 1, none⟩ v1).setCell ⟨g, 2, none⟩ v2).setCell ⟨g, 3, none⟩ v3).setCell ⟨g, 4, none⟩ v4).cell? a = some u := by
  rw [World.cell?_of_block (heap_setCell_other _ ⟨g, 4, none⟩ a.block _ h), World.cell?_of_block (heap_setCell_other _ ⟨g, 3, none⟩ a.block _ h), World.cell?_of_block (heap_setCell_other _ ⟨g, 2, none⟩ a.block _ h), World.cell?_of_block (heap_setCell_other _ ⟨g, 1, none⟩ a.block _ h), World.cell?_of_block (heap_setCell_other _ ⟨g, 0, none⟩ a.block _ h)]
  exact hc
theorem ports_at {W : World} {B g c : Nat} {L : List Vc} (h : W.ownsRow B 3 1 (.slice (some ⟨g, 0, none⟩) L.length c) L.length (onL L)) {k : Nat} (hk : k < L.length) : W.cell? ⟨g, k, none⟩ = some (.int .i64 (L[k]).on) := by
  rw [h.cellAt k (by omega)]
  simp [onL, hk]
set_option maxHeartbeats 4000000 in
set_option maxRecDepth 100000 in
theorem sroot_any (b : Nat) (ao : Option Addr) (n cap : Nat) (S : Nat → Vw) (w : World) (hb : b < 18446744073709551616) (hn : n ≤ 4000) (h : VwsIn w ao n cap S) :
    Calls Try.prog 9 #[.int .u64 (b : Int), .slice ao n cap] w fun e w' => e = .returned (.tuple #[(rootVc b S n).val, .int .i64 (rootVc b S n).on]) ∧ Below w.heap.size w w' := by
  have HV := hide h
  have hnc : n ≤ cap := h.1
  have hcm : cap ≤ maxLen := h.2.1
  unfold maxLen at hcm
  have HBB := hide hb
  have HD0 := hide (doc_begin b w)
  obtain ⟨res, hres⟩ : ∃ r, rootVc b S n = r := ⟨_, rfl⟩
  rw [hres]
  have HR := hide hres
  clear h hres hb
  go_enter Try.func9, Try.ntmps9
  go_wp2_with fail
  go_loopw [6, 7, 8] (fun a1 a2 a wr => ∃ (i g1 c1 g2 c2 : Nat), a1 = .slice (some ⟨g1, 0, none⟩) (waysVc b S i).length c1 ∧ a2 = .slice (some ⟨g2, 0, none⟩) (waysVc b S i).length c2 ∧ a = .int .i64 i ∧ i ≤ n ∧ Doc14 w wr (.slice (some ⟨g1, 0, none⟩) (waysVc b S i).length c1) (.slice (some ⟨g2, 0, none⟩) (waysVc b S i).length c2) (waysVc b S i) (waysVc b S i)) (fun _ _ a _ => (n - intOf a).toNat)
  case atStart => exact ⟨0, _, _, _, _, rfl, rfl, rfl, Nat.zero_le _, unhide HD0⟩
  case round =>
    obtain ⟨i, g1, c1, g2, c2, rfl, rfl, rfl, hin, hd⟩ := hrel
    have HD := hide hd
    clear hd HD0
    by_cases hlt : i < n
    · obtain ⟨sb, so, rfl, hS⟩ := (unhide HV).2.2.resolve_left (by omega)
      obtain ⟨hc, hfi⟩ := hS i hlt
      have hiI : (i : Int) < (n : Int) := by omega
      have hwi : wrap64 ((i : Int) + 1) = (i : Int) + 1 := by unfold wrap64; omega
      have hv := hc.below (unhide HD).below
      have HWS := hide (ways_step (b := b) (S := S) (i := i))
      have hlen := (ways_len b S i).2
      by_cases ho : offers b (S i) = true
      · rw [if_pos ho] at HWS
        have CP := hide (fun W => wplus_any (S i).v (S i).cost W)
        have h0 := ho
        unfold offers at h0
        simp only [Bool.and_eq_true, Bool.not_eq_true', decide_eq_false_iff_not] at h0
        clear hc hS hfi ho
        have hwv : wayVc (S i) ((i : Int) + 1) = ⟨(S i).v.root, (S i).v.far (S i).cost, (S i).v.bridge, (S i).v.port, (i : Int) + 1⟩ := rfl
        rw [hwv] at HWS
        unfold Vc.val Vc.plus at CP
        clear hwv
        generalize hlx : S i = x at *
        obtain ⟨up, sc, told, xr, xc, xd, xp, xo⟩ := x
        simp only at CP HWS h0
        obtain ⟨rfl, rfl, h3⟩ := h0
        generalize Vc.far ⟨xr, xc, xd, xp, xo⟩ sc = f at *
        have e1 : ((xd : Int) == (b : Int)) = false := beq_eq_false_iff_ne.2 (by omega)
        have e2 : decide ((xd : Int) = (b : Int)) = false := decide_eq_false (by omega)
        clear h3
        have keepG : Hid (∀ W2, Below wr.heap.size wr W2 → W2.cell? ⟨sb, so + i * 8 + 1, none⟩ = some (.int .i64 sc) ∧ W2.cell? ⟨sb, so + i * 8 + 3, none⟩ = some (.int .u64 (xr : Int)) ∧ W2.cell? ⟨sb, so + i * 8 + 4, none⟩ = some (.int .i64 xc) ∧ W2.cell? ⟨sb, so + i * 8 + 5, none⟩ = some (.int .u64 (xd : Int)) ∧ W2.cell? ⟨sb, so + i * 8 + 6, none⟩ = some (.int .i64 xp) ∧ W2.cell? ⟨sb, so + i * 8 + 7, none⟩ = some (.int .i64 xo)) := fun W2 k => by
          obtain ⟨h0, h1, h2, h3, h4, h5, h6, h7⟩ := hv.below k
          exact ⟨h1, h3, h4, h5, h6, h7⟩
        have HS := hide ((Below.refl wr.heap.size wr).drew)
        have HSa := hide ((alloc_then (o := .cells #[.int .u64 0, .int .i64 0, .int .u64 0, .int .i64 0, .int .i64 0] 25) (Below.refl wr.heap.size wr)).drew)
        obtain ⟨k0, k1, k2, k3, k4, k5, k6, k7⟩ := hv
        go_upto_region 6 with fail
        clear k0 k1 k2 k3 k4 k5 k6 k7
        go_cut [9] (fun u wx => ∃ X : Nat, u = .pointer (some ⟨X, 0, none⟩) ∧ wx.heap[X]? = some (.cells #[.int .u64 (xr : Int), .int .i64 f, .int .u64 (xd : Int), .int .i64 xp, .int .i64 xo] 25 (0, 0)) ∧ wr.heap.size ≤ X ∧ Below wr.heap.size wr wx)
        case first =>
          go_region_held3 (fun W2 => W2.cell? ⟨sb, so + i * 8 + 1, none⟩ = some (.int .i64 sc) ∧ W2.cell? ⟨sb, so + i * 8 + 3, none⟩ = some (.int .u64 (xr : Int)) ∧ W2.cell? ⟨sb, so + i * 8 + 4, none⟩ = some (.int .i64 xc) ∧ W2.cell? ⟨sb, so + i * 8 + 5, none⟩ = some (.int .u64 (xd : Int)) ∧ W2.cell? ⟨sb, so + i * 8 + 6, none⟩ = some (.int .i64 xp) ∧ W2.cell? ⟨sb, so + i * 8 + 7, none⟩ = some (.int .i64 xo))
            ((first | (with_reducible exact unhide keepG _ (unhide HS)) | (with_reducible exact unhide keepG _ (unhide HSa)) | (with_reducible exact unhide keepG _ (alloc_then (unhide HS))) | (with_reducible exact unhide keepG _ (vbelow (unhide HS) (Nat.le_refl _)))))
            ((first
              | (go_at_call 17; refine (unhide CP _).mono ?_; rintro e5 w5 ⟨rfl, B5⟩; first | (have HT : Below wr.heap.size wr w5 := (by with_reducible exact bthen (unhide HS) B5); have HS := hide HT; clear HT) | (have HT : Below wr.heap.size wr w5 := (by with_reducible exact bthen (unhide HSa) B5); have HS := hide HT; clear HT; have rZ := Below.row B5 (heap_alloc_new wr (.cells #[.int .u64 0, .int .i64 0, .int .u64 0, .int .i64 0, .int .i64 0] 25)); have cZ := vcells rZ))))
          all_goals
            go_wp2_with fail
            go_meet
            first
              | (with_reducible exact ⟨_, rfl, heap_alloc_new w5 _, (unhide HS).size, alloc_then (unhide HS)⟩)
              | (with_reducible exact ⟨_, rfl, vset rZ, Nat.le_refl _, vbelow (unhide HS) (Nat.le_refl _)⟩)
        case rest =>
          obtain ⟨X, rfl, hX, hle, hbw⟩ := hcut
          have hX4 := vset4 (v4 := .int .i64 ((i : Int) + 1)) hX
          have hd4 := (unhide HD).next (hbw.setCell (p := ⟨X, 4, none⟩) hle (.int .i64 ((i : Int) + 1)))
          obtain ⟨-, -, -, -, k4, -, -, -, -, l4⟩ := vcells hX
          obtain ⟨q0, q1, q2, q3, q4, -⟩ := vcells hX4
          have HD4 := hide hd4
          clear hX hX4 hd4 hle hbw keepG HS CP HD
          go_upto_region 8 with fail
          clear k4 l4
          generalize wc.setCell ⟨X, 4, none⟩ (.int .i64 ((i : Int) + 1)) = W7 at *
          go_upto_region 9 with (first | (at_builtin; refine wp_way rfl (.tmp 58) (.tmp 60) rfl w _ _ _ _ _ _ ⟨xr, f, xd, xp, (i : Int) + 1⟩ rfl rfl (unhide HD4) rfl (by omega) ?_; intro r1 c1' w6 H6))
          have H6' := hide (unhide H6)
          clear H6 HD4 q0 q1 q2 q3 q4
          go_wp2_with (first | (at_builtin; refine wp_port rfl (.tmp 62) (.tmp 65) rfl w _ _ _ _ _ _ ⟨xr, f, xd, xp, (i : Int) + 1⟩ rfl rfl (unhide H6') rfl (by omega) ?_; intro r2 c2' w8 H8))
          go_roundw
          case rel =>
            have h8 := unhide H8
            have hl8 : (waysVc b S i).length + 1 = (waysVc b S (i + 1)).length := by rw [unhide HWS, List.length_append]; rfl
            rw [hl8, ← unhide HWS] at h8
            exact ⟨i + 1, r1, c1', r2, c2', by rw [hl8], by rw [hl8], by go_num, by omega, h8⟩
          case measure => simp [intOf]; omega
      · rw [if_neg ho] at HWS
        have hw1 := unhide HWS
        have hno : (S i).up = false ∨ ((S i).up = true ∧ (S i).told = false) ∨ ((S i).up = true ∧ (S i).told = true ∧ (S i).v.bridge = b) := by
          unfold offers at ho
          cases hu : (S i).up with
          | false => exact .inl rfl
          | true =>
            cases ht : (S i).told with
            | false => exact .inr (.inl ⟨rfl, rfl⟩)
            | true =>
              refine .inr (.inr ⟨rfl, rfl, ?_⟩)
              rw [hu, ht] at ho
              simpa using ho
        clear hc hS hfi ho HWS hlen
        generalize S i = x at *
        obtain ⟨up, sc, told, xr, xc, xd, xp, xo⟩ := x
        obtain ⟨k0, k1, k2, k3, k4, k5, k6, k7⟩ := hv
        have HW1 := hide hw1
        have HNO := hide hno
        clear hw1 hno
        rcases unhide HNO with h | ⟨h, h'⟩ | ⟨h, h', h3⟩
        · simp only at h
          subst h
          clear HNO
          go_wp2_with fail
          go_roundw
          case rel => exact ⟨i + 1, g1, c1, g2, c2, by rw [unhide HW1], by rw [unhide HW1], by go_num, by omega, by rw [unhide HW1]; exact unhide HD⟩
          case measure => simp [intOf]; omega
        · simp only at h h'
          subst h h'
          clear HNO
          go_wp2_with fail
          go_roundw
          case rel => exact ⟨i + 1, g1, c1, g2, c2, by rw [unhide HW1], by rw [unhide HW1], by go_num, by omega, by rw [unhide HW1]; exact unhide HD⟩
          case measure => simp [intOf]; omega
        · simp only at h h' h3
          subst h h' h3
          clear HNO
          go_wp2_with fail
          go_roundw
          case rel => exact ⟨i + 1, g1, c1, g2, c2, by rw [unhide HW1], by rw [unhide HW1], by go_num, by omega, by rw [unhide HW1]; exact unhide HD⟩
          case measure => simp [intOf]; omega
    · obtain rfl : i = n := by omega
      obtain ⟨k, hk, hbest, hkr⟩ := best_ways (b := b) (S := S) (n := i) (unhide HBB) (fun j hj => (unhide HV).fits j hj) (unhide HV).len
      rw [unhide HR] at hkr
      have hvi := vecs_in (ownVc b) (unhide HD).ways (ways_fit (unhide HBB) (fun j hj => (unhide HV).fits j hj) (unhide HV).len)
      have hat := hvi.2 k hk
      have hpt := ports_at (unhide HD).ports hk
      rw [hkr] at hat hpt
      have CB := wbest_any _ _ _ _ wr hvi.1
      rw [hbest] at CB
      have HCB := hide CB
      have HAT := hide hat
      have HPT := hide hpt
      clear CB hat hpt hvi hkr hbest
      generalize (waysVc b S i).length = m at *
      obtain ⟨rb, cb, db, pb, ob⟩ := res
      go_wp2_with fail
      refine (unhide HCB).mono ?_
      rintro e w2 ⟨rfl, b2⟩
      have hd2 := (unhide HD).next b2
      obtain ⟨l0, l1, l2, l3, l4⟩ := (unhide HAT).below b2
      have p0 := (b2.cell (p := ⟨g2, k, none⟩) (block_lt_of_cell (unhide HPT))).trans (unhide HPT)
      obtain ⟨f0, f1, f2, f3, f4, z0, z1, z2, z3, z4⟩ := vcells hd2.res
      have HD2 := hide hd2
      have hkI : (k : Int) < (m : Int) := by omega
      simp only at l0 l1 l2 l3 l4 p0
      clear b2 hd2 HD HAT HPT HCB
      have hg2 : g2 ≠ w.heap.size := by
        have := (World.ownsRow.lt (unhide HD2).ports g2 rfl).1
        omega
      have p1 := cell_other5 (v0 := .int .u64 (rb : Int)) (v1 := .int .i64 cb) (v2 := .int .u64 (db : Int)) (v3 := .int .i64 pb) (v4 := .int .i64 ob) (g := w.heap.size) (a := ⟨g2, k, none⟩) hg2 p0
      go_upto_region 11 with fail
      go_region
      go_wp2_with fail
      refine bodyPost_ret ?_ rfl ⟨rfl, (vbelow (unhide HD2).below (Nat.le_refl _)).drew⟩
      exact results_row2 rfl _ _ w.heap.size 25 _ _ _ _ rfl rfl (vsetd (unhide HD2).res) Try.underlying25 rfl (by kernel_rfl)
end Go.Proofs.Ytagfaaciakbnbaa
