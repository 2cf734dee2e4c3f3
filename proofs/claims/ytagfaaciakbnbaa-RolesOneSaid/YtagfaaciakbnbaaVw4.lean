/-
  Views in a row; the contracts of roles.Root and Says.
-/
import Derived.Test.YtagfaaciakbnbaaVw3
namespace Go.Proofs.Ytagfaaciakbnbaa
open Go.RowKit Go.Sort

/-- a view's cells in memory -/
def VwAt (W : World) (b o : Nat) (x : Vw) : Prop :=
  W.cell? ⟨b, o, none⟩ = some (.bool x.up) ∧ W.cell? ⟨b, o + 1, none⟩ = some (.int .i64 x.cost) ∧ W.cell? ⟨b, o + 2, none⟩ = some (.bool x.told) ∧
  W.cell? ⟨b, o + 3, none⟩ = some (.int .u64 (x.v.root : Int)) ∧ W.cell? ⟨b, o + 4, none⟩ = some (.int .i64 x.v.cost) ∧ W.cell? ⟨b, o + 5, none⟩ = some (.int .u64 (x.v.bridge : Int)) ∧ W.cell? ⟨b, o + 6, none⟩ = some (.int .i64 x.v.port) ∧ W.cell? ⟨b, o + 7, none⟩ = some (.int .i64 x.v.on)
theorem VwAt.below {W W' : World} {b o : Nat} {x : Vw} (h : VwAt W b o x) (k : Below W.heap.size W W') : VwAt W' b o x := by
  obtain ⟨h0, h1, h2, h3, h4, h5, h6, h7⟩ := h
  have hb := block_lt_of_cell h0
  exact ⟨(k.cell (p := ⟨b, o, none⟩) hb).trans h0, (k.cell (p := ⟨b, o + 1, none⟩) hb).trans h1, (k.cell (p := ⟨b, o + 2, none⟩) hb).trans h2, (k.cell (p := ⟨b, o + 3, none⟩) hb).trans h3, (k.cell (p := ⟨b, o + 4, none⟩) hb).trans h4, (k.cell (p := ⟨b, o + 5, none⟩) hb).trans h5, (k.cell (p := ⟨b, o + 6, none⟩) hb).trans h6, (k.cell (p := ⟨b, o + 7, none⟩) hb).trans h7⟩
/-- views in a row, from a place on -/
def VwsIn (W : World) (ao : Option Addr) (n cap : Nat) (S : Nat → Vw) : Prop :=
  n ≤ cap ∧ cap ≤ maxLen ∧ (n = 0 ∨ ∃ b o, ao = some ⟨b, o, none⟩ ∧ ∀ i, i < n → VwAt W b (o + i * 8) (S i) ∧ (S i).fits)
theorem VwsIn.below {W W' : World} {ao : Option Addr} {n cap : Nat} {S : Nat → Vw} (h : VwsIn W ao n cap S) (k : Below W.heap.size W W') : VwsIn W' ao n cap S := by
  obtain ⟨h1, h2, h3⟩ := h
  refine ⟨h1, h2, ?_⟩
  rcases h3 with h3 | ⟨b, o, rfl, h3⟩
  · exact .inl h3
  · exact .inr ⟨b, o, rfl, fun i hi => ⟨(h3 i hi).1.below k, (h3 i hi).2⟩⟩
theorem VwsIn.fits {W : World} {ao : Option Addr} {n cap : Nat} {S : Nat → Vw} (h : VwsIn W ao n cap S) (i : Nat) (hi : i < n) : (S i).fits := by
  obtain ⟨h1, h2, h3⟩ := h
  rcases h3 with h3 | ⟨b, o, rfl, h3⟩
  · omega
  · exact (h3 i hi).2
theorem VwsIn.len {W : World} {ao : Option Addr} {n cap : Nat} {S : Nat → Vw} (h : VwsIn W ao n cap S) : n ≤ 9223372036854775807 := by
  have h1 := h.1
  have h2 := h.2.1
  unfold maxLen at h2
  omega
/-- a vector in a block of its own -/
def VcHas (W : World) (g : Nat) (v : Vc) : Prop := W.heap[g]? = some (.cells #[.int .u64 (v.root : Int), .int .i64 v.cost, .int .u64 (v.bridge : Int), .int .i64 v.port, .int .i64 v.on] 25 (0, 0))
theorem root_step {b : Nat} {S : Nat → Vw} {i : Nat} : rootVc b S (i + 1) = if offers b (S i) = true ∧ (offerVc b (S i) ((i : Int) + 1)).cmp (rootVc b S i) < 0 then offerVc b (S i) ((i : Int) + 1) else rootVc b S i := by
  rw [rootVc, offerVc]
  by_cases h : offers b (S i) = true
  · rw [if_pos h]
  · rw [if_neg (fun q => h q.1), if_neg (fun q => h q.1)]
theorem offer_fits {b : Nat} {x : Vw} (hx : x.fits) {n : Int} (hn : I64 n) : (offerVc b x n).fits := by
  unfold offerVc
  split
  · exact way_fits hx hn
  · unfold Vc.fits I64 zeroVc; simp
set_option maxHeartbeats 2000000 in
set_option maxRecDepth 100000 in
theorem rroot_any (b : Nat) (ao : Option Addr) (n cap : Nat) (S : Nat → Vw) (w : World) (hb : b < 18446744073709551616) (h : VwsIn w ao n cap S) :
    Calls Try.prog 8 #[.int .u64 (b : Int), .slice ao n cap] w fun e w' => e = .returned (.tuple #[(rootVc b S n).val, .int .i64 (rootVc b S n).on]) ∧ Below w.heap.size w w' := by
  have HV := hide h
  have hnc : n ≤ cap := h.1
  have hcm : cap ≤ maxLen := h.2.1
  unfold maxLen at hcm
  have HBB := hide hb
  obtain ⟨res, hres⟩ : ∃ r, rootVc b S n = r := ⟨_, rfl⟩
  rw [hres]
  have HR := hide hres
  have CW := hide (fun W => rown_any b W)
  unfold ownVc Vc.val at CW
  simp only at CW
  have HF := hide (heap_alloc_new w (.cells #[.int .u64 0, .int .i64 0, .int .u64 0, .int .i64 0, .int .i64 0] 25))
  have HB0 := hide (alloc_below w (.cells #[.int .u64 0, .int .i64 0, .int .u64 0, .int .i64 0, .int .i64 0] 25))
  clear h hres hb
  go_enter Try.func8, Try.ntmps8
  go_wp2_with fail
  refine (unhide CW _).mono ?_
  rintro e w1 ⟨rfl, b1⟩
  have HF1 := hide (Below.row (alloc_below w1 (.cells #[.int .u64 (b : Int), .int .i64 0, .int .u64 (b : Int), .int .i64 0, .int .i64 0] 25)) (Below.row b1 (unhide HF)))
  have HG1 : Hid (VcHas _ w1.heap.size (rootVc b S 0)) := hide (heap_alloc_new w1 (.cells #[.int .u64 (b : Int), .int .i64 0, .int .u64 (b : Int), .int .i64 0, .int .i64 0] 25))
  have HB1 := hide (alloc_then (o := .cells #[.int .u64 (b : Int), .int .i64 0, .int .u64 (b : Int), .int .i64 0, .int .i64 0] 25) (bthen (unhide HB0) b1))
  have hgt : w.heap.size < w1.heap.size := lt_of_row (Below.row b1 (unhide HF))
  have HGT := hide hgt
  clear HF HB0 b1 CW hgt
  go_wp2_with fail
  go_loopw [14] (fun a wr => ∃ i : Nat, a = .int .i64 i ∧ i ≤ n ∧ VcHas wr w1.heap.size (rootVc b S i) ∧ wr.heap[w.heap.size]? = some (.cells #[.int .u64 0, .int .i64 0, .int .u64 0, .int .i64 0, .int .i64 0] 25 (0, 0)) ∧ Below w.heap.size w wr) (fun a _ => (n - intOf a).toNat)
  case atStart => exact ⟨0, rfl, Nat.zero_le _, unhide HG1, unhide HF1, unhide HB1⟩
  case round =>
    obtain ⟨i, rfl, hin, hg, hf, hbl⟩ := hrel
    have HG := hide hg
    have HF2 := hide hf
    have HB2 := hide hbl
    clear hg hf hbl HG1 HF1 HB1
    by_cases hlt : i < n
    · obtain ⟨sb, so, rfl, hS⟩ := (unhide HV).2.2.resolve_left (by omega)
      obtain ⟨hc, hfi⟩ := hS i hlt
      obtain ⟨k0, k1, k2, k3, k4, k5, k6, k7⟩ := hc.below (unhide HB2)
      have hiI : (i : Int) < (n : Int) := by omega
      have hwi : wrap64 ((i : Int) + 1) = (i : Int) + 1 := by unfold wrap64; omega
      have CO := hide (fun W => offered_any b (S i) ((i : Int) + 1) W)
      have fo := offer_fits (b := b) hfi (n := (i : Int) + 1) (i64_nat (by omega))
      have fr := root_fits (b := b) (S := S) (n := i) (unhide HBB) (fun j hj => (hS j (by omega)).2) (by omega)
      have CC := hide (fun W => vcmp_any _ _ W fo fr)
      have HST := hide (root_step (b := b) (S := S) (i := i))
      clear hc hS fo fr hfi
      have HX := hide (⟨_, rfl⟩ : ∃ x, S i = x)
      generalize offerVc b (S i) ((i : Int) + 1) = v at *
      generalize hro : rootVc b S i = u at *
      generalize offers b (S i) = is at *
      clear hro HX
      generalize S i = x at *
      obtain ⟨up, sc, told, xr, xc, xd, xp, xo⟩ := x
      obtain ⟨ra, ca, da, pa, oa⟩ := v
      obtain ⟨rb, cb, db, pb, ob⟩ := u
      unfold Vc.val Vw.val at CO
      unfold Vc.val at CC
      simp only at *
      go_wp2_with fail
      refine (unhide CO _).mono ?_
      rintro e w2 ⟨rfl, b2⟩
      have HB3 := hide (alloc_then (o := .cells #[.int .u64 (ra : Int), .int .i64 ca, .int .u64 (da : Int), .int .i64 pa, .int .i64 oa] 25) (bthen (unhide HB2) b2))
      have HG3 := hide (Below.row (alloc_below w2 (.cells #[.int .u64 (ra : Int), .int .i64 ca, .int .u64 (da : Int), .int .i64 pa, .int .i64 oa] 25)) (Below.row b2 (unhide HG)))
      have HF3 := hide (Below.row (alloc_below w2 (.cells #[.int .u64 (ra : Int), .int .i64 ca, .int .u64 (da : Int), .int .i64 pa, .int .i64 oa] 25)) (Below.row b2 (unhide HF2)))
      have HH3 := hide (heap_alloc_new w2 (.cells #[.int .u64 (ra : Int), .int .i64 ca, .int .u64 (da : Int), .int .i64 pa, .int .i64 oa] 25))
      clear b2 HB2 HG HF2 CO k0 k1 k2 k3 k4 k5 k6 k7
      cases is with
      | false =>
        have hn1 : rootVc b S (i + 1) = ⟨rb, cb, db, pb, ob⟩ := by rw [unhide HST, if_neg (fun q => by cases q.1)]
        clear HST CC
        go_wp2_with fail
        go_roundw
        case rel => exact ⟨i + 1, by go_num, by omega, by rw [hn1]; exact unhide HG3, unhide HF3, unhide HB3⟩
        case measure => simp [intOf]; omega
      | true =>
        obtain ⟨c, hcc⟩ : ∃ c, Vc.cmp ⟨ra, ca, da, pa, oa⟩ ⟨rb, cb, db, pb, ob⟩ = c := ⟨_, rfl⟩
        rw [hcc] at CC HST
        clear hcc
        obtain ⟨k0, k1, k2, k3, k4, -⟩ := vcells (unhide HH3)
        obtain ⟨l0, l1, l2, l3, l4, -⟩ := vcells (unhide HG3)
        go_wp2_with fail
        refine (unhide CC _).mono ?_
        rintro e w3 ⟨rfl, b3⟩
        have HB4 := hide (bthen (unhide HB3) b3)
        have HG4 := hide (Below.row b3 (unhide HG3))
        have HF4 := hide (Below.row b3 (unhide HF3))
        have HH4 := hide (Below.row b3 (unhide HH3))
        clear b3 HB3 HG3 HF3 HH3 k0 k1 k2 k3 k4 l0 l1 l2 l3 l4 CC
        by_cases ht : c < 0
        · have dt : decide (c < 0) = true := decide_eq_true ht
          have hn1 : rootVc b S (i + 1) = ⟨ra, ca, da, pa, oa⟩ := by rw [unhide HST, if_pos ⟨by simp, ht⟩]
          obtain ⟨k0, k1, k2, k3, k4, -⟩ := vcells (unhide HH4)
          obtain ⟨l0, l1, l2, l3, l4, z0, z1, z2, z3, z4⟩ := vcells (unhide HG4)
          clear HST ht
          go_wp2_with fail
          go_roundw
          case rel => exact ⟨i + 1, by go_num, by omega, by rw [hn1]; exact vset (unhide HG4), vother (Nat.ne_of_lt (unhide HGT)) (unhide HF4), vbelow (unhide HB4) (Nat.le_of_lt (unhide HGT))⟩
          case measure => simp [intOf]; omega
        · have dt : decide (c < 0) = false := decide_eq_false ht
          have hn1 : rootVc b S (i + 1) = ⟨rb, cb, db, pb, ob⟩ := by rw [unhide HST, if_neg (fun q => ht q.2)]
          clear HST ht
          go_wp2_with fail
          go_roundw
          case rel => exact ⟨i + 1, by go_num, by omega, by rw [hn1]; exact unhide HG4, unhide HF4, unhide HB4⟩
          case measure => simp [intOf]; omega
    · obtain rfl : i = n := by omega
      rw [unhide HR] at HG
      obtain ⟨rb, cb, db, pb, ob⟩ := res
      obtain ⟨l0, l1, l2, l3, l4, -⟩ := vcells (unhide HG)
      obtain ⟨f0, f1, f2, f3, f4, z0, z1, z2, z3, z4⟩ := vcells (unhide HF2)
      go_upto_region 9 with fail
      have x4 := (vcells (vother (Nat.ne_of_gt (unhide HGT)) (unhide HG) (v0 := .int .u64 (rb : Int)) (v1 := .int .i64 cb) (v2 := .int .u64 (db : Int)) (v3 := .int .i64 pb) (v4 := .int .i64 ob))).2.2.2.2.1
      go_region
      go_wp2_with fail
      refine bodyPost_ret ?_ rfl ⟨rfl, (vbelow (unhide HB2) (Nat.le_refl _)).drew⟩
      exact results_row2 rfl _ _ w.heap.size 25 _ _ _ _ rfl rfl (vsetd (unhide HF2)) Try.underlying25 rfl (by kernel_rfl)
set_option maxRecDepth 100000 in
theorem rsays_any (b : Nat) (ao : Option Addr) (n cap : Nat) (S : Nat → Vw) (k : Int) (w : World) (hb : b < 18446744073709551616) (h : VwsIn w ao n cap S) :
    Calls Try.prog 10 #[.int .u64 (b : Int), .slice ao n cap, .int .i64 k] w fun e w' => e = .returned (saysVc b (rootVc b S n) k).val ∧ Below w.heap.size w w' := by
  have CR := hide (rroot_any b ao n cap S (w.alloc (.cells #[.int .u64 0, .int .i64 0, .int .u64 0, .int .i64 0, .int .i64 0] 25)) hb (h.below (alloc_below w _)))
  have HF := hide (heap_alloc_new w (.cells #[.int .u64 0, .int .i64 0, .int .u64 0, .int .i64 0, .int .i64 0] 25))
  have HB := hide (alloc_below w (.cells #[.int .u64 0, .int .i64 0, .int .u64 0, .int .i64 0, .int .i64 0] 25))
  have CS := hide (fun W => said_any b (rootVc b S n) k W)
  clear h hb
  unfold saysVc at CS ⊢
  generalize rootVc b S n = u at *
  obtain ⟨ru, cu, du, pu, ou⟩ := u
  unfold Vc.val at CR CS ⊢
  simp only at CR CS ⊢
  go_enter Try.func10, Try.ntmps10
  go_wp2_with fail
  refine (unhide CR).mono ?_
  rintro e w1 ⟨rfl, b1⟩
  have HF1 := hide (Below.row (alloc_below w1 (.cells #[.int .u64 (ru : Int), .int .i64 cu, .int .u64 (du : Int), .int .i64 pu, .int .i64 ou] 25)) (Below.row b1 (unhide HF)))
  have HB1 := hide (alloc_then (o := .cells #[.int .u64 (ru : Int), .int .i64 cu, .int .u64 (du : Int), .int .i64 pu, .int .i64 ou] 25) (bthen (unhide HB) b1))
  obtain ⟨k0, k1, k2, k3, k4, -⟩ := vcells (heap_alloc_new w1 (.cells #[.int .u64 (ru : Int), .int .i64 cu, .int .u64 (du : Int), .int .i64 pu, .int .i64 ou] 25))
  clear b1 HF HB CR
  go_wp2_with fail
  refine (unhide CS _).mono ?_
  rintro e w2 ⟨rfl, b2⟩
  have HF2 := hide (Below.row b2 (unhide HF1))
  have HB2 := hide (bthen (unhide HB1) b2)
  obtain ⟨f0, f1, f2, f3, f4, z0, z1, z2, z3, z4⟩ := vcells (unhide HF2)
  clear b2 HF1 HB1 CS k0 k1 k2 k3 k4
  go_wp2_with fail
  refine bodyPost_ret ?_ rfl ⟨rfl, vbelow (unhide HB2) (Nat.le_refl _)⟩
  exact results_cell_row rfl _ _ w.heap.size 25 _ _ _ rfl (vset (unhide HF2)) Try.underlying25 rfl (by kernel_rfl)
end Go.Proofs.Ytagfaaciakbnbaa
