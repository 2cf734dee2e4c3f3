/-
  Views in a row of one's own, as a list of cells; a copy of a row of views; two views held against each other.
-/
import Derived.Test.YtagfaaciakbnbaaRow14
import Derived.Laws.AppendOwnNone
namespace Go.Proofs.Ytagfaaciakbnbaa
open Go.RowKit Go.Sort

/-- the cells of the first n -/
def vwL (S : Nat → Vw) : Nat → List Value
  | 0 => []
  | n + 1 => vwL S n ++ (S n).cs
theorem vws_len (x : Vw) : x.cs.length = 8 := rfl
theorem vwL_len (S : Nat → Vw) (n : Nat) : (vwL S n).length = n * 8 := by
  induction n with
  | zero => rfl
  | succ n ih => rw [vwL, List.length_append, ih, vws_len]; omega
theorem vwL_at (S : Nat → Vw) {n i t : Nat} (hi : i < n) (ht : t < 8) : (vwL S n)[i * 8 + t]? = (S i).cs[t]? := by
  induction n with
  | zero => omega
  | succ n ih =>
    rw [vwL]
    by_cases h : i < n
    · rw [List.getElem?_append_left (by rw [vwL_len]; omega), ih h]
    · obtain rfl : i = n := by omega
      rw [List.getElem?_append_right (by rw [vwL_len]; omega), vwL_len, show i * 8 + t - i * 8 = t by omega]
theorem vwL_one (S : Nat → Vw) (n : Nat) : ∀ u ∈ vwL S n, u.oneCell' = true := by
  induction n with
  | zero => intro u hu; cases hu
  | succ n ih =>
    intro u hu
    rw [vwL, List.mem_append] at hu
    rcases hu with hu | hu
    · exact ih u hu
    · simp only [Vw.cs, List.mem_cons, List.not_mem_nil, or_false] at hu
      rcases hu with rfl | rfl | rfl | rfl | rfl | rfl | rfl | rfl <;> rfl
theorem VwAt.get {W : World} {b o : Nat} {x : Vw} (h : VwAt W b o x) (t : Nat) (u : Value) (hu : x.cs[t]? = some u) : W.cell? ⟨b, o + t, none⟩ = some u := by
  obtain ⟨h0, h1, h2, h3, h4, h5, h6, h7⟩ := h
  have ht : t < 8 := (List.getElem?_eq_some_iff.1 hu).1
  match t, ht with
  | 0, _ => simp [Vw.cs] at hu; subst hu; exact h0
  | 1, _ => simp [Vw.cs] at hu; subst hu; exact h1
  | 2, _ => simp [Vw.cs] at hu; subst hu; exact h2
  | 3, _ => simp [Vw.cs] at hu; subst hu; exact h3
  | 4, _ => simp [Vw.cs] at hu; subst hu; exact h4
  | 5, _ => simp [Vw.cs] at hu; subst hu; exact h5
  | 6, _ => simp [Vw.cs] at hu; subst hu; exact h6
  | 7, _ => simp [Vw.cs] at hu; subst hu; exact h7
theorem vwL_src {W : World} {b o n : Nat} {S : Nat → Vw} (h : ∀ i, i < n → VwAt W b (o + i * 8) (S i)) : ∀ j u, (vwL S n)[j]? = some u → W.cell? ((⟨b, o, none⟩ : Addr).add j) = some u := fun j u hu => by
  have hj : j < n * 8 := by rw [← vwL_len S n]; exact (List.getElem?_eq_some_iff.1 hu).1
  rw [Addr.add_lit]
  have e : j = j / 8 * 8 + j % 8 := by omega
  have hi : j / 8 < n := by omega
  rw [e, vwL_at S hi (by omega)] at hu
  have := (h (j / 8) hi).get (j % 8) u hu
  rw [show o + j / 8 * 8 + j % 8 = o + j by omega] at this
  exact this
/-- views in a row of one's own -/
def VwOwn (B : Nat) (W : World) (g n c : Nat) (S : Nat → Vw) : Prop := W.ownsRow B 34 8 (.slice (some ⟨g, 0, none⟩) n c) n (vwL S n)
theorem VwOwn.below {B : Nat} {W W' : World} {g n c : Nat} {S : Nat → Vw} (h : VwOwn B W g n c S) (b : Below W.heap.size W W') : VwOwn B W' g n c S := own_below h b
theorem VwOwn.lt {B : Nat} {W : World} {g n c : Nat} {S : Nat → Vw} (h : VwOwn B W g n c S) : B ≤ g ∧ g < W.heap.size := World.ownsRow.lt h g rfl
theorem VwOwn.views {B : Nat} {W : World} {g n c : Nat} {S : Nat → Vw} (h : VwOwn B W g n c S) (hf : ∀ i, i < n → (S i).fits) : VwsIn W (some ⟨g, 0, none⟩) n c S := by
  have at_ : ∀ i, i < n → VwAt W g (0 + i * 8) (S i) := fun i hi => by
    have c : ∀ t u, (S i).cs[t]? = some u → W.cell? ⟨g, 0 + i * 8 + t, none⟩ = some u := fun t u hu => by
      have ht : t < 8 := (List.getElem?_eq_some_iff.1 hu).1
      rw [Nat.zero_add, World.ownsRow.cellAt h (i * 8 + t) (by omega), vwL_at S hi ht, hu]
    exact ⟨c 0 _ rfl, c 1 _ rfl, c 2 _ rfl, c 3 _ rfl, c 4 _ rfl, c 5 _ rfl, c 6 _ rfl, c 7 _ rfl⟩
  obtain ⟨_, ⟨q, _⟩ | ⟨g', cap, cur, q, _, _, h4, h5, _⟩⟩ := h
  · cases q
  · cases q
    exact ⟨h4, h5, .inr ⟨g, 0, rfl, fun i hi => ⟨at_ i hi, hf i hi⟩⟩⟩
theorem view_info : ∃ i, Try.prog.info? 34 = some i ∧ i.zero = some (.agg #[.bool false, .int .i64 0, .bool false, .int .u64 0, .int .i64 0, .int .u64 0, .int .i64 0, .int .i64 0]) ∧ i.size = 8 ∧ i.bytes = 64 := by
  have h : (Try.prog.info? 34).map (fun i => (i.zero, i.size, i.bytes)) = some (some (.agg #[.bool false, .int .i64 0, .bool false, .int .u64 0, .int .i64 0, .int .u64 0, .int .i64 0, .int .i64 0]), 8, 64) := by kernel_rfl
  cases hi : Try.prog.info? 34 with
  | none => rw [hi] at h; cases h
  | some i =>
    rw [hi] at h
    simp only [Option.map_some, Option.some.injEq, Prod.mk.injEq] at h
    exact ⟨i, rfl, h.1, h.2.1, h.2.2⟩
/-- the walk's law at a copy of views: an append of all of them to a row of none -/
theorem wp_copy {ops : Array Oper} {rest : List Oper} {o : Oper} {a : Act} {Q : Exit → Act → World → Prop} (hgd : o.guard = none) (s x : Operand)
    (ho : o.op = .call { callee := .builtin .append, args := #[s, x], argTypes := #[23, 23] }) (W : World) (ax : Option Addr) (m cap : Nat) (S : Nat → Vw) (hs : a.eval s = .slice (some ⟨W.heap.size, 0, none⟩) 0 0)
    (hx : a.eval x = .slice ax m cap) (hv : VwsIn W ax m cap S) (hzc : ax = none → cap = 0) (hm : m ≤ 4096)
    (h : ∀ g c W', Hid (VwOwn W.heap.size W' g m c S ∧ Below W.heap.size W W') → wpList Try.prog ops Q rest (a.put o.dst (.slice (some ⟨g, 0, none⟩) m c)) W') :
    wpList Try.prog ops Q (o :: rest) a (W.alloc (.cells #[] 34)) := by
  obtain ⟨i0, hi0, hz0, hz1, hz2⟩ := view_info
  have own : (W.alloc (.cells #[] 34)).ownsRow W.heap.size 34 8 (.slice (some ⟨W.heap.size, 0, none⟩) 0 0) 0 [] :=
    ⟨rfl, .inr ⟨W.heap.size, 0, #[], rfl, Nat.le_refl _, heap_alloc_new _ _, Nat.le_refl _, Nat.zero_le _, rfl, rfl⟩⟩
  have hnc := hv.1
  cases ax with
  | none =>
    obtain rfl : cap = 0 := hzc rfl
    obtain rfl : m = 0 := by omega
    exact wpList_append_own_none hgd s x 23 ho W.heap.size 34 i0 8 Try.underlying23 hi0 _ 0 [] hs own hx (h _ _ _ ⟨own, alloc_below _ _⟩)
  | some ad =>
    have src : ∀ j u, (vwL S m)[j]? = some u → (W.alloc (.cells #[] 34)).cell? (ad.add j) = some u := fun j u hu => by
      by_cases h0 : m = 0
      · subst h0; simp [vwL] at hu
      · obtain ⟨b, o, hbo, hS⟩ := hv.2.2.resolve_left h0
        obtain rfl : ad = ⟨b, o, none⟩ := Option.some.inj hbo
        exact vwL_src (fun i hi => (hS i hi).1.below (alloc_below W _)) j u hu
    refine wpList_append_own _ hgd s x 23 ho W.heap.size 34 i0 _ 8 64 Try.underlying23 hi0 hz0 hz1 hz2 rfl (by decide) _ 0 [] hs own ad m cap (vwL S m) hx (vwL_len S m) src (vwL_one S m) (by unfold maxLen; omega) (by omega) (by simp) ?_
    intro v' w1 ho1 hg1 hn1
    rw [Nat.zero_add, List.nil_append] at ho1
    have hb1 : Below W.heap.size W w1 := (alloc_below W (.cells #[] 34)).trans ((But2.by (g := W.heap.size) hg1).below (Nat.le_refl _) (fun k hk => Nat.le_of_eq (Option.some.inj (show some W.heap.size = some k from hk))) (by simp))
    have hv' : ∃ g c, v' = .slice (some ⟨g, 0, none⟩) m c := by
      obtain ⟨_, ⟨q, _⟩ | ⟨g, c, cur, q, _⟩⟩ := ho1
      · exact absurd (hn1.1 q).1 (by simp)
      · exact ⟨g, c, q⟩
    obtain ⟨g, c, rfl⟩ := hv'
    exact h g c w1 ⟨ho1, hb1⟩
theorem fields_view : Try.prog.underlying 34 = some (.struct (Try.prog.fieldsOf 34)) := by kernel_rfl
theorem held_view : Try.prog.stoodInHeld 34 = false := by kernel_rfl
set_option maxRecDepth 100000 in
theorem neq_view_same (up told : Bool) (s r c d p o : Int) (W : World) :
    (binOp .neq 34 (.agg #[.bool up, .int .i64 s, .bool told, .int .u64 r, .int .i64 c, .int .u64 d, .int .i64 p, .int .i64 o]) (.agg #[.bool up, .int .i64 s, .bool told, .int .u64 r, .int .i64 c, .int .u64 d, .int .i64 p, .int .i64 o])).run Try.prog W = .ok (.bool false) W := by
  rw [run_neq_struct, run_equalIn_agg _ _ _ _ _ fields_view held_view]
  simp [go_sem, Try.underlying34, Try.underlying25]
end Go.Proofs.Ytagfaaciakbnbaa
