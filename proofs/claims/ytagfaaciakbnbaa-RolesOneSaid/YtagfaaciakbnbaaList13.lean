/-
  Vectors in a row as a list of cells, there and back; a whole struct read out of a block in a region that draws.
-/
import Derived.Test.YtagfaaciakbnbaaCut13
import Derived.Lib.QuietBelow
import Derived.BigQuiet
import Derived.Laws.AppendOwn
import Derived.Laws.OwnMore
import Derived.Laws.AppendOwnNone
import Derived.Maps.AppendAt
namespace Go.Proofs.Ytagfaaciakbnbaa
open Go.RowKit Go.Sort

theorem quiet_load_obj {P : Program} {C : World → Prop} {a : Act} {o : Oper} {K : Act → Prop} (ty : TypeId) (x : Operand) (ho : o.op = .load ty x) (g : Nat) (hx : a.eval x = .pointer (some ⟨g, 0, none⟩)) (t : TypeId) (cs : Array Value) (fr : Nat × Nat) (d : TypeDesc)
    (hg : ∀ w, C w → w.heap[g]? = some (.cells cs t fr)) (hu : P.underlying ty = some d) (hd : (match d with | .struct _ | .array _ _ => true | _ => false) = true) (hi : (P.info? ty).map (·.size) = some cs.size)
    (hk : K (a.put o.dst (.agg cs))) : o.quiet P a C K :=
  ⟨_, fun w hw => by
    unfold Oper.quietAt execOp
    simp only [ho, hx, Instr.loadAt, Instr.sureAddr, Sem.run_bind, Sem.run_pure, Result.andThen_ok, run_loadVar_row w g t ty cs fr d (hg w hw) hu hd hi]
    exact ⟨rfl, rfl⟩, hk⟩
/-- a row of an old block, in every world with more blocks -/
theorem obj_regrown {W : World} {g : Nat} {ob : Obj} (h : W.heap[g]? = some ob) : ∀ w, (∃ p : Regrown, w = grow (redrawn W p.d) p.os) → w.heap[g]? = some ob := by
  rintro _ ⟨p, rfl⟩
  exact Below.row (below_regrown W p.d p.os) h
/-- the cells of the first n -/
def vcL (S : Nat → Vc) : Nat → List Value
  | 0 => []
  | n + 1 => vcL S n ++ (S n).cs
theorem cs_len (v : Vc) : v.cs.length = 5 := rfl
theorem vcL_len (S : Nat → Vc) (n : Nat) : (vcL S n).length = n * 5 := by
  induction n with
  | zero => rfl
  | succ n ih => rw [vcL, List.length_append, ih, cs_len]; omega
theorem vcL_at (S : Nat → Vc) {n i t : Nat} (hi : i < n) (ht : t < 5) : (vcL S n)[i * 5 + t]? = (S i).cs[t]? := by
  induction n with
  | zero => omega
  | succ n ih =>
    rw [vcL]
    by_cases h : i < n
    · rw [List.getElem?_append_left (by rw [vcL_len]; omega), ih h]
    · obtain rfl : i = n := by omega
      rw [List.getElem?_append_right (by rw [vcL_len]; omega), vcL_len, show i * 5 + t - i * 5 = t by omega]
theorem vcL_one (S : Nat → Vc) (n : Nat) : ∀ u ∈ vcL S n, u.oneCell' = true := by
  induction n with
  | zero => intro u hu; cases hu
  | succ n ih =>
    intro u hu
    rw [vcL, List.mem_append] at hu
    rcases hu with hu | hu
    · exact ih u hu
    · simp only [Vc.cs, List.mem_cons, List.not_mem_nil, or_false] at hu
      rcases hu with rfl | rfl | rfl | rfl | rfl <;> rfl
theorem VcAt.get {W : World} {b o : Nat} {v : Vc} (h : VcAt W b o v) (t : Nat) (u : Value) (hu : v.cs[t]? = some u) : W.cell? ⟨b, o + t, none⟩ = some u := by
  obtain ⟨h0, h1, h2, h3, h4⟩ := h
  have ht : t < 5 := (List.getElem?_eq_some_iff.1 hu).1
  match t, ht with
  | 0, _ => simp [Vc.cs] at hu; subst hu; exact h0
  | 1, _ => simp [Vc.cs] at hu; subst hu; exact h1
  | 2, _ => simp [Vc.cs] at hu; subst hu; exact h2
  | 3, _ => simp [Vc.cs] at hu; subst hu; exact h3
  | 4, _ => simp [Vc.cs] at hu; subst hu; exact h4
theorem vcL_src {W : World} {b o n : Nat} {S : Nat → Vc} (h : ∀ i, i < n → VcAt W b (o + i * 5) (S i)) : ∀ j u, (vcL S n)[j]? = some u → W.cell? ((⟨b, o, none⟩ : Addr).add j) = some u := fun j u hu => by
  have hj : j < n * 5 := by rw [← vcL_len S n]; exact (List.getElem?_eq_some_iff.1 hu).1
  rw [Addr.add_lit]
  have e : j = j / 5 * 5 + j % 5 := by omega
  have hi : j / 5 < n := by omega
  rw [e, vcL_at S hi (by omega)] at hu
  have := (h (j / 5) hi).get (j % 5) u hu
  rw [show o + j / 5 * 5 + j % 5 = o + j by omega] at this
  exact this
/-- what is in a row of its own -/
theorem vcL_own {W : World} {B n : Nat} {v : Value} {S : Nat → Vc} (h : W.ownsRow B 25 5 v n (vcL S n)) (hf : ∀ i, i < n → (S i).fits) : ∃ ax cap, v = .slice ax n cap ∧ VcsIn W ax n cap S := by
  obtain ⟨_, ⟨rfl, rfl⟩ | ⟨g, cap, cur, rfl, _, hg, hn, hm, hsz, ht⟩⟩ := h
  · exact ⟨none, 0, rfl, Nat.le_refl _, by unfold maxLen; omega, .inl rfl⟩
  · refine ⟨some ⟨g, 0, none⟩, cap, rfl, hn, hm, .inr ⟨g, 0, rfl, fun i hi => ⟨?_, hf i hi⟩⟩⟩
    have c : ∀ t u, (S i).cs[t]? = some u → W.cell? ⟨g, 0 + i * 5 + t, none⟩ = some u := fun t u hu => by
      have htl : t < 5 := (List.getElem?_eq_some_iff.1 hu).1
      rw [cell_of_row W g _ _ _ _ hg, ← hu, ← vcL_at S hi htl, ← ht, List.getElem?_take_of_lt (by omega), Array.getElem?_toList, Nat.zero_add]
    exact ⟨c 0 _ rfl, c 1 _ rfl, c 2 _ rfl, c 3 _ rfl, c 4 _ rfl⟩
end Go.Proofs.Ytagfaaciakbnbaa
