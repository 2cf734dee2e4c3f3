/-
  Numbers in a row of one's own; the contract of roles.All.
-/
import Derived.Test.YtagfaaciakbnbaaVw4
import Derived.Laws.OwnMore
namespace Go.Proofs.Ytagfaaciakbnbaa
open Go.RowKit Go.Sort

/-- the cells of the first numbers -/
def numL (R : Nat → Int) (n : Nat) : List Value := (List.range n).map fun i => .int .i64 (R i)
theorem numL_len (R : Nat → Int) (n : Nat) : (numL R n).length = n := by simp [numL]
theorem numL_succ (R : Nat → Int) (n : Nat) : numL R (n + 1) = numL R n ++ [.int .i64 (R n)] := by simp [numL, List.range_succ]
theorem numL_at (R : Nat → Int) {n i : Nat} (h : i < n) : (numL R n)[i]? = some (.int .i64 (R i)) := by simp [numL, h]
theorem numL_eq {R R' : Nat → Int} {n : Nat} (h : ∀ i, i < n → R i = R' i) : numL R n = numL R' n := by
  unfold numL
  exact List.map_congr_left fun i hi => by rw [h i (by simpa using hi)]
/-- k of n are told, the others are 0 -/
def numK (R : Nat → Int) (n k : Nat) : List Value := numL R k ++ List.replicate (n - k) (.int .i64 0)
theorem numK_len (R : Nat → Int) {n k : Nat} (h : k ≤ n) : (numK R n k).length = n := by simp [numK, numL_len]; omega
theorem numK_all (R : Nat → Int) (n : Nat) : numK R n n = numL R n := by simp [numK]
theorem numK_set (R : Nat → Int) {n k : Nat} (h : k < n) : (numK R n k).set k (.int .i64 (R k)) = numK R n (k + 1) := by
  unfold numK
  rw [show n - k = (n - (k + 1)) + 1 by omega, List.replicate_succ, numL_succ, List.set_append_right _ _ (by rw [numL_len]; omega), numL_len, Nat.sub_self]
  simp
/-- numbers in a row of one's own -/
def Nums (B : Nat) (W : World) (v : Value) (n : Nat) (R : Nat → Int) : Prop := ∃ g cap, v = .slice (some ⟨g, 0, none⟩) n cap ∧ W.ownsRow B 3 1 v n (numL R n)
theorem own_below {W W' : World} {B e s n : Nat} {v : Value} {xs : List Value} (h : W.ownsRow B e s v n xs) (b : Below W.heap.size W W') : W'.ownsRow B e s v n xs := by
  obtain ⟨hl, hx | ⟨k, cap, cur, rfl, h1, h2, h3, h4, h5, h6⟩⟩ := h
  · exact ⟨hl, .inl hx⟩
  · exact ⟨hl, .inr ⟨k, cap, cur, rfl, h1, Below.row b h2, h3, h4, h5, h6⟩⟩
theorem own_mono {W : World} {B B' e s n : Nat} {v : Value} {xs : List Value} (h : W.ownsRow B e s v n xs) (b : B' ≤ B) : W.ownsRow B' e s v n xs := by
  obtain ⟨hl, hx | ⟨k, cap, cur, rfl, h1, h2, h3, h4, h5, h6⟩⟩ := h
  · exact ⟨hl, .inl hx⟩
  · exact ⟨hl, .inr ⟨k, cap, cur, rfl, by omega, h2, h3, h4, h5, h6⟩⟩
theorem own_cell {W : World} {B e n g cap : Nat} {xs : List Value} (h : W.ownsRow B e 1 (.slice (some ⟨g, 0, none⟩) n cap) n xs) {i : Nat} (hi : i < n) : ∃ u, W.cell? ⟨g, i, none⟩ = some u := by
  rw [h.cellAt i (by omega)]
  exact ⟨_, List.getElem?_eq_getElem (by rw [h.1]; omega)⟩
theorem Nums.below {W W' : World} {B n : Nat} {v : Value} {R : Nat → Int} (h : Nums B W v n R) (b : Below W.heap.size W W') : Nums B W' v n R := by
  obtain ⟨g, cap, rfl, ho⟩ := h
  exact ⟨g, cap, rfl, own_below ho b⟩
theorem Nums.mono {W : World} {B B' n : Nat} {v : Value} {R : Nat → Int} (h : Nums B W v n R) (b : B' ≤ B) : Nums B' W v n R := by
  obtain ⟨g, cap, rfl, ho⟩ := h
  exact ⟨g, cap, rfl, own_mono ho b⟩
theorem info3 : (Try.prog.info? 3).map (fun i => (i.zero, i.size, i.bytes)) = some (some (.int .i64 0), 1, 8) := by kernel_rfl
theorem info_ints : ∃ i, Try.prog.info? 3 = some i ∧ i.zero = some (.int .i64 0) ∧ i.size = 1 ∧ i.bytes = 8 := by
  have h := info3
  cases hi : Try.prog.info? 3 with
  | none => rw [hi] at h; cases h
  | some i =>
    rw [hi] at h
    simp only [Option.map_some, Option.some.injEq, Prod.mk.injEq] at h
    exact ⟨i, rfl, h.1, h.2.1, h.2.2⟩
theorem madeInts (n : Nat) : (madeCells #[Value.int .i64 0] n).toList = List.replicate n (.int .i64 0) := by
  rw [toList_madeCells_one]
set_option maxHeartbeats 2000000 in
set_option maxRecDepth 100000 in
theorem rall_any (b : Nat) (ao : Option Addr) (n cap : Nat) (S : Nat → Vw) (w : World) (hb : b < 18446744073709551616) (hn : n ≤ 4096) (h : VwsIn w ao n cap S) :
    Calls Try.prog 13 #[.int .u64 (b : Int), .slice ao n cap] w fun e w' => (∃ v, e = .returned v ∧ Nums w.heap.size w' v n (roleF b S n)) ∧ Below w.heap.size w w' := by
  have HV := hide h
  have hnc : n ≤ cap := h.1
  have hcm : cap ≤ maxLen := h.2.1
  unfold maxLen at hcm
  have HBB := hide hb
  obtain ⟨i0, hi0, hz0, hz1, hz2⟩ := info_ints
  have hmk : ∀ W : World, (Instr.makeSlice 30 (.int .i64 (n : Int)) (.int .i64 (n : Int))).run Try.prog W = .ok (.slice (some ⟨W.heap.size, 0, none⟩) n n) (W.alloc (.cells (madeCells #[.int .i64 0] n) 3)) := fun W => by
    have h := run_make (P := Try.prog) W 30 3 i0 (.int .i64 0) Try.underlying30 hi0 hz0 .i64 .i64 (n : Int) (n : Int) (by omega) (by omega) (by rw [hz2]; omega) (by omega)
    rw [hz1] at h
    simpa [Value.cells] using h
  have CR := hide (rroot_any b ao n cap S w hb h)
  have fr := root_fits (b := b) (S := S) (n := n) hb (fun i hi => h.fits i hi) h.len
  have FR := hide fr
  obtain ⟨R, hR⟩ : ∃ R, roleF b S n = R := ⟨_, rfl⟩
  rw [hR]
  have HRR := hide hR
  obtain ⟨u, hu⟩ : ∃ u, rootVc b S n = u := ⟨_, rfl⟩
  rw [hu] at CR FR
  have HU := hide hu
  clear h hb fr hR hu hi0 hz0 hz1 hz2
  obtain ⟨ru, cu, du, pu, ou⟩ := u
  unfold Vc.val at CR
  simp only at CR
  go_enter Try.func13, Try.ntmps13
  go_wp2_with fail
  refine (unhide CR).mono ?_
  rintro e w1 ⟨rfl, b1⟩
  have HB1 := hide (alloc_then (o := .cells (madeCells #[.int .i64 0] n) 3) (alloc_then (o := .cells #[.int .u64 (ru : Int), .int .i64 cu, .int .u64 (du : Int), .int .i64 pu, .int .i64 ou] 25) b1))
  have HG1 := hide (Below.row (alloc_below (w1.alloc (.cells #[.int .u64 (ru : Int), .int .i64 cu, .int .u64 (du : Int), .int .i64 pu, .int .i64 ou] 25)) (.cells (madeCells #[.int .i64 0] n) 3)) (heap_alloc_new w1 (.cells #[.int .u64 (ru : Int), .int .i64 cu, .int .u64 (du : Int), .int .i64 pu, .int .i64 ou] 25)))
  have hs : w.heap.size ≤ w1.heap.size := b1.size
  have own := World.ownsRow_lit (base := w.heap.size) (e := 3) (size := 1) (w1.alloc (.cells #[.int .u64 (ru : Int), .int .i64 cu, .int .u64 (du : Int), .int .i64 pu, .int .i64 ou] 25)) (madeCells #[Value.int .i64 0] n) n (by simp; omega) (by unfold maxLen; omega) (by rw [size_madeCells, Nat.mul_one])
  rw [madeInts, show List.replicate n (Value.int .i64 0) = numK R n 0 by simp [numK, numL]] at own
  have HO1 := hide own
  clear b1 own hs CR
  go_wp2_with fail
  go_loopw [21] (fun a wr => ∃ i : Nat, a = .int .i64 i ∧ i ≤ n ∧ VcHas wr w1.heap.size ⟨ru, cu, du, pu, ou⟩ ∧ wr.ownsRow w.heap.size 3 1 (.slice (some ⟨w1.heap.size + 1, 0, none⟩) n n) n (numK R n i) ∧ Below w.heap.size w wr) (fun a _ => (n - intOf a).toNat)
  case atStart => exact ⟨0, rfl, Nat.zero_le _, unhide HG1, by have h := unhide HO1; simpa using h, unhide HB1⟩
  case round =>
    obtain ⟨i, rfl, hin, hg, ho, hbl⟩ := hrel
    have HG := hide hg
    have HO := hide ho
    have HB := hide hbl
    have hs1 : w1.heap.size < wr.heap.size := lt_of_row hg
    have hs2 : w1.heap.size + 1 < wr.heap.size := (World.ownsRow.lt ho _ rfl).2
    have hs0 : w.heap.size ≤ w1.heap.size + 1 := (World.ownsRow.lt ho _ rfl).1
    clear hg ho hbl HG1 HO1 HB1 hs1
    by_cases hlt : i < n
    · obtain ⟨sb, so, rfl, hS⟩ := (unhide HV).2.2.resolve_left (by omega)
      obtain ⟨hc, hfi⟩ := hS i hlt
      have hiI : (i : Int) < (n : Int) := by omega
      have hwi : wrap64 ((i : Int) + 1) = (i : Int) + 1 := by unfold wrap64; omega
      have hsb : sb < w.heap.size := block_lt_of_cell hc.1
      have hv := hc.below (unhide HB)
      have CS := hide (fun W => said_any b ⟨ru, cu, du, pu, ou⟩ ((i : Int) + 1) W)
      have fs := says_fits (b := b) (unhide FR) (unhide HBB) (n := (i : Int) + 1) (i64_nat (by omega))
      obtain ⟨is, his⟩ : ∃ is, decide ((i : Int) + 1 = ou) = is := ⟨_, rfl⟩
      have hie : ((i : Int) + 1 == ou) = is := by rw [← his]; rfl
      have CL := hide (fun W => role_any (S i) is (saysVc b ⟨ru, cu, du, pu, ou⟩ ((i : Int) + 1)) W hfi fs)
      have hri : R i = roleOf (S i) is (saysVc b ⟨ru, cu, du, pu, ou⟩ ((i : Int) + 1)) := by
        rw [← unhide HRR]
        show roleOf _ _ _ = _
        rw [unhide HU]
        show roleOf (S i) (decide ((i : Int) + 1 = ou)) _ = _
        rw [his]
      rw [← hri] at CL
      have HRI := hide hri
      unfold saysVc Vc.val at CS
      unfold saysVc Vc.val Vw.val at CL
      simp only at CS CL
      clear hc hS hfi fs hri
      generalize hx : S i = x at *
      obtain ⟨up, sc, told, xr, xc, xd, xp, xo⟩ := x
      simp only at CL
      have keepG : Hid (∀ W2, Below (w1.heap.size + 1) wr W2 → W2.cell? ⟨sb, so + i * 8, none⟩ = some (.bool up) ∧ W2.cell? ⟨sb, so + i * 8 + 1, none⟩ = some (.int .i64 sc) ∧ W2.cell? ⟨sb, so + i * 8 + 2, none⟩ = some (.bool told) ∧ W2.cell? ⟨sb, so + i * 8 + 3, none⟩ = some (.int .u64 (xr : Int)) ∧ W2.cell? ⟨sb, so + i * 8 + 4, none⟩ = some (.int .i64 xc) ∧ W2.cell? ⟨sb, so + i * 8 + 5, none⟩ = some (.int .u64 (xd : Int)) ∧ W2.cell? ⟨sb, so + i * 8 + 6, none⟩ = some (.int .i64 xp) ∧ W2.cell? ⟨sb, so + i * 8 + 7, none⟩ = some (.int .i64 xo) ∧ W2.cell? ⟨w1.heap.size, 0, none⟩ = some (.int .u64 (ru : Int)) ∧ W2.cell? ⟨w1.heap.size, 1, none⟩ = some (.int .i64 cu) ∧ W2.cell? ⟨w1.heap.size, 2, none⟩ = some (.int .u64 (du : Int)) ∧ W2.cell? ⟨w1.heap.size, 3, none⟩ = some (.int .i64 pu) ∧ W2.cell? ⟨w1.heap.size, 4, none⟩ = some (.int .i64 ou)) := fun W2 k => by
        obtain ⟨h0, h1, h2, h3, h4, h5, h6, h7⟩ := hv
        obtain ⟨l0, l1, l2, l3, l4, -⟩ := vcells (unhide HG)
        have hb1 : sb < w1.heap.size + 1 := by omega
        have hb2 : w1.heap.size < w1.heap.size + 1 := by omega
        exact ⟨(k.cell (p := ⟨sb, _, none⟩) hb1).trans h0, (k.cell (p := ⟨sb, _, none⟩) hb1).trans h1, (k.cell (p := ⟨sb, _, none⟩) hb1).trans h2, (k.cell (p := ⟨sb, _, none⟩) hb1).trans h3, (k.cell (p := ⟨sb, _, none⟩) hb1).trans h4, (k.cell (p := ⟨sb, _, none⟩) hb1).trans h5, (k.cell (p := ⟨sb, _, none⟩) hb1).trans h6, (k.cell (p := ⟨sb, _, none⟩) hb1).trans h7,
          (k.cell (p := ⟨w1.heap.size, _, none⟩) hb2).trans l0, (k.cell (p := ⟨w1.heap.size, _, none⟩) hb2).trans l1, (k.cell (p := ⟨w1.heap.size, _, none⟩) hb2).trans l2, (k.cell (p := ⟨w1.heap.size, _, none⟩) hb2).trans l3, (k.cell (p := ⟨w1.heap.size, _, none⟩) hb2).trans l4⟩
      have HS := hide ((Below.refl (w1.heap.size + 1) wr).drew)
      have HWS := hide hs2
      have HBL := hide ((Below.refl wr.heap.size wr).drew)
      clear hv hs2
      go_upto_region 7 with fail
      go_region_held3 (fun W2 => W2.cell? ⟨sb, so + i * 8, none⟩ = some (.bool up) ∧ W2.cell? ⟨sb, so + i * 8 + 1, none⟩ = some (.int .i64 sc) ∧ W2.cell? ⟨sb, so + i * 8 + 2, none⟩ = some (.bool told) ∧ W2.cell? ⟨sb, so + i * 8 + 3, none⟩ = some (.int .u64 (xr : Int)) ∧ W2.cell? ⟨sb, so + i * 8 + 4, none⟩ = some (.int .i64 xc) ∧ W2.cell? ⟨sb, so + i * 8 + 5, none⟩ = some (.int .u64 (xd : Int)) ∧ W2.cell? ⟨sb, so + i * 8 + 6, none⟩ = some (.int .i64 xp) ∧ W2.cell? ⟨sb, so + i * 8 + 7, none⟩ = some (.int .i64 xo) ∧ W2.cell? ⟨w1.heap.size, 0, none⟩ = some (.int .u64 (ru : Int)) ∧ W2.cell? ⟨w1.heap.size, 1, none⟩ = some (.int .i64 cu) ∧ W2.cell? ⟨w1.heap.size, 2, none⟩ = some (.int .u64 (du : Int)) ∧ W2.cell? ⟨w1.heap.size, 3, none⟩ = some (.int .i64 pu) ∧ W2.cell? ⟨w1.heap.size, 4, none⟩ = some (.int .i64 ou))
        ((first | (exact unhide keepG _ (unhide HS)) | (exact unhide keepG _ (Below.setCell (unhide HS) (p := ⟨w1.heap.size + 1, _, none⟩) (Nat.le_refl _) _))))
        ((first
          | (go_at_call 22; refine (unhide CS _).mono ?_; rintro e5 w5 ⟨rfl, B5⟩; have HBL := hide (bthen (unhide HBL) B5); have HS := hide ((unhide HBL).mono (Nat.le_of_lt (unhide HWS))))
          | (go_at_call 23; refine (unhide CL _).mono ?_; rintro e5 w5 ⟨rfl, B5⟩; have HBL := hide (bthen (unhide HBL) B5); have HS := hide ((unhide HBL).mono (Nat.le_of_lt (unhide HWS))); have o5 := own_below (unhide HO) (unhide HBL); have f5 := o5.frozenAt i; obtain ⟨u5, c5⟩ := own_cell o5 hlt)))
      have hst := (o5.stored i (.int .i64 (R i))).1
      rw [numK_set R hlt] at hst
      have HST := hide hst
      have HG5 := hide (set_other (n := i) (v := .int .i64 (R i)) (Nat.ne_of_lt (Nat.lt_add_one w1.heap.size)) (Below.row (unhide HBL) (unhide HG)))
      have HB5 := hide ((bthen (unhide HB) (unhide HBL)).setCell (p := ⟨w1.heap.size + 1, i, none⟩) hs0 (.int .i64 (R i)))
      clear hst o5 f5 c5 HS keepG CS CL HBL HG HO HB
      go_wp2_with fail
      go_roundw
      case rel => exact ⟨i + 1, by go_num, by omega, unhide HG5, unhide HST, unhide HB5⟩
      case measure => simp [intOf]; omega
    · obtain rfl : i = n := by omega
      have ho := unhide HO
      rw [numK_all] at ho
      have HO2 := hide ho
      clear ho HO
      go_wp2_with fail
      go_ret
      exact ⟨⟨_, rfl, _, _, rfl, unhide HO2⟩, unhide HB⟩
end Go.Proofs.Ytagfaaciakbnbaa
