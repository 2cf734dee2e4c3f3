/-
  The contracts of gangwayref14.Says, Role, All and Nums.
-/
import Derived.Test.YtagfaaciakbnbaaVwRef2
namespace Go.Proofs.Ytagfaaciakbnbaa
open Go.RowKit Go.Sort

set_option maxRecDepth 100000 in
theorem ssays_any (b : Nat) (ao : Option Addr) (n cap : Nat) (S : Nat → Vw) (k : Int) (w : World) (hb : b < 18446744073709551616) (hn : n ≤ 4000) (h : VwsIn w ao n cap S) :
    Calls Try.prog 11 #[.int .u64 (b : Int), .slice ao n cap, .int .i64 k] w fun e w' => e = .returned (saysVc b (rootVc b S n) k).val ∧ Below w.heap.size w w' := by
  have CR := hide (sroot_any b ao n cap S (w.alloc (.cells #[.int .u64 0, .int .i64 0, .int .u64 0, .int .i64 0, .int .i64 0] 25)) hb hn (h.below (alloc_below w _)))
  have HF := hide (heap_alloc_new w (.cells #[.int .u64 0, .int .i64 0, .int .u64 0, .int .i64 0, .int .i64 0] 25))
  have HB := hide (alloc_below w (.cells #[.int .u64 0, .int .i64 0, .int .u64 0, .int .i64 0, .int .i64 0] 25))
  clear h hb hn
  unfold saysVc
  generalize rootVc b S n = u at *
  obtain ⟨ru, cu, du, pu, ou⟩ := u
  unfold Vc.val at CR ⊢
  simp only at CR ⊢
  go_enter Try.func11, Try.ntmps11
  go_wp2_with fail
  refine (unhide CR).mono ?_
  rintro e w1 ⟨rfl, b1⟩
  have HF1 := hide (Below.row (alloc_below w1 (.cells #[.int .u64 (ru : Int), .int .i64 cu, .int .u64 (du : Int), .int .i64 pu, .int .i64 ou] 25)) (Below.row b1 (unhide HF)))
  have HB1 := hide (alloc_then (o := .cells #[.int .u64 (ru : Int), .int .i64 cu, .int .u64 (du : Int), .int .i64 pu, .int .i64 ou] 25) (bthen (unhide HB) b1))
  obtain ⟨k0, k1, k2, k3, k4, -⟩ := vcells (heap_alloc_new w1 (.cells #[.int .u64 (ru : Int), .int .i64 cu, .int .u64 (du : Int), .int .i64 pu, .int .i64 ou] 25))
  obtain ⟨f0, f1, f2, f3, f4, z0, z1, z2, z3, z4⟩ := vcells (unhide HF1)
  clear b1 HF HB CR
  go_wp2_with fail
  refine bodyPost_ret ?_ rfl ⟨rfl, vbelow (unhide HB1) (Nat.le_refl _)⟩
  exact results_cell_row rfl _ _ w.heap.size 25 _ _ _ rfl (vset (unhide HF1)) Try.underlying25 rfl (by kernel_rfl)
/-- numbers in memory, from a block's head on -/
def NumsAt (W : World) (v : Value) (n : Nat) (R : Nat → Int) : Prop := ∃ g cap, v = .slice (some ⟨g, 0, none⟩) n cap ∧ n ≤ cap ∧ cap ≤ maxLen ∧ ∀ i, i < n → W.cell? ⟨g, i, none⟩ = some (.int .i64 (R i))
theorem Nums.at_ {B : Nat} {W : World} {v : Value} {n : Nat} {R : Nat → Int} (h : Nums B W v n R) : NumsAt W v n R := by
  obtain ⟨g, cap, rfl, ho⟩ := h
  have hc : ∀ i, i < n → W.cell? ⟨g, i, none⟩ = some (.int .i64 (R i)) := fun i hi => by rw [ho.cellAt i (by omega), numL_at R hi]
  obtain ⟨_, ⟨q, _⟩ | ⟨g', cap', cur, q, _, _, h4, h5, _⟩⟩ := ho
  · cases q
  · cases q
    exact ⟨g, cap, rfl, h4, h5, hc⟩
theorem NumsAt.below {W W' : World} {v : Value} {n : Nat} {R : Nat → Int} (h : NumsAt W v n R) (b : Below W.heap.size W W') : NumsAt W' v n R := by
  obtain ⟨g, cap, rfl, h1, h2, h3⟩ := h
  exact ⟨g, cap, rfl, h1, h2, fun i hi => (b.cell (p := ⟨g, i, none⟩) (block_lt_of_cell (h3 i hi))).trans (h3 i hi)⟩
set_option maxRecDepth 100000 in
theorem snums_any (u v : Value) (n : Nat) (R : Nat → Int) (w : World) (hu : NumsAt w u n R) (hv : NumsAt w v n R) :
    Calls Try.prog 12 #[u, v] w fun e w' => e = .returned (.bool true) ∧ Below w.heap.size w w' := by
  obtain ⟨g1, c1, rfl, h1, h2, h3⟩ := hu
  obtain ⟨g2, c2, rfl, h4, h5, h6⟩ := hv
  unfold maxLen at h2 h5
  have H3 := hide h3
  have H6 := hide h6
  clear h3 h6
  go_enter Try.func12, Try.ntmps12
  go_wp2_with fail
  go_loopw [5] (fun a wr => ∃ i : Nat, a = .int .i64 i ∧ i ≤ n ∧ Below w.heap.size w wr) (fun a _ => (n - intOf a).toNat)
  case atStart => exact ⟨0, rfl, Nat.zero_le _, Below.refl _ _⟩
  case round =>
    obtain ⟨i, rfl, hin, hb⟩ := hrel
    have HB := hide hb
    clear hb
    by_cases hlt : i < n
    · have hiI : (i : Int) < (n : Int) := by omega
      have k1 := ((unhide HB).cell (p := ⟨g1, i, none⟩) (block_lt_of_cell (unhide H3 i hlt))).trans (unhide H3 i hlt)
      have k2 := ((unhide HB).cell (p := ⟨g2, i, none⟩) (block_lt_of_cell (unhide H6 i hlt))).trans (unhide H6 i hlt)
      go_wp2_with fail
      go_quiet (fail)
      go_wp2_with fail
      go_roundw
      case rel => exact ⟨i + 1, by go_num, by omega, below_drewN (unhide HB) _⟩
      case measure => simp [intOf]; omega
    · obtain rfl : i = n := by omega
      go_wp2_with fail
      go_ret
      exact ⟨rfl, unhide HB⟩
/-- a number appended to a row of one's own -/
theorem wp_num {ops : Array Oper} {rest : List Oper} {o : Oper} {a : Act} {Q : Exit → Act → World → Prop} (hgd : o.guard = none) (s x : Operand)
    (ho : o.op = .call { callee := .builtin .append, args := #[s, x], argTypes := #[30, 30] }) (w W : World) (v : Value) (n : Nat) (R : Nat → Int) (E : Int) (hE : E = R n) (hs : a.eval s = v) (hd : Nums w.heap.size W v n R) (hb : Below w.heap.size w W)
    (hx : a.eval x = .slice (some ⟨W.heap.size, 0, none⟩) 1 1) (hl : n ≤ 4096)
    (h : ∀ r c W', Hid (Nums w.heap.size W' (.slice (some ⟨r, 0, none⟩) (n + 1) c) (n + 1) R ∧ Below w.heap.size w W') → wpList Try.prog ops Q rest (a.put o.dst (.slice (some ⟨r, 0, none⟩) (n + 1) c)) W') :
    wpList Try.prog ops Q (o :: rest) a (W.alloc (.cells #[.int .i64 E] 3)) := by
  obtain ⟨i0, hi0, hz0, hz1, hz2⟩ := info_ints
  subst hE
  obtain ⟨g, cap, rfl, hown⟩ := hd
  have ho' := own_below hown (alloc_below W (.cells #[.int .i64 (R n)] 3))
  have hb' := alloc_then (o := .cells #[.int .i64 (R n)] 3) hb
  have hg := (World.ownsRow.lt hown g rfl).1
  refine wpList_append_own_at _ hgd s x 30 ho w.heap.size 3 i0 _ 1 8 Try.underlying30 hi0 hz0 hz1 hz2 rfl (by decide) _ n (numL R n) hs ho' ⟨W.heap.size, 0, none⟩ 1 1 [.int .i64 (R n)] hx rfl (cell_one_new _ _ _) (by simp [Value.oneCell']) (by unfold maxLen; omega) (by omega) hb'.size ?_
  intro v' w' ho2 hg2 hnil _
  obtain ⟨r, c, rfl⟩ := own_shape ho2 (by omega)
  rw [← numL_succ] at ho2
  exact h r c w' ⟨⟨r, c, rfl, ho2⟩, hb'.grown hg2 hb'.size (fun k hk => (World.ownsRow.lt ho' k hk).1)⟩
end Go.Proofs.Ytagfaaciakbnbaa
