/-
  What the document's Root makes as it goes: the ways in a row, their ports in another one.
-/
import Derived.Test.YtagfaaciakbnbaaVw5
import Derived.Test.YtagfaaciakbnbaaVcRef3
import Derived.Test.YtagfaaciakbnbaaList13
import Derived.Maps.AppendAt
import Derived.Deep.DeepCutAuto
namespace Go.Proofs.Ytagfaaciakbnbaa
open Go.RowKit Go.Sort

/-- the cells of vectors in a list -/
def vecL (L : List Vc) : List Value := L.flatMap Vc.cs
/-- the ports of ways in a list -/
def onL (L : List Vc) : List Value := L.map fun v => .int .i64 v.on
theorem vecL_len (L : List Vc) : (vecL L).length = L.length * 5 := by
  induction L with
  | nil => rfl
  | cons v L ih =>
    unfold vecL at ih ⊢
    rw [List.flatMap_cons, List.length_append, ih, cs_len, List.length_cons]
    omega
theorem vecL_add (L : List Vc) (v : Vc) : vecL (L ++ [v]) = vecL L ++ v.cs := by simp [vecL]
theorem onL_add (L : List Vc) (v : Vc) : onL (L ++ [v]) = onL L ++ [.int .i64 v.on] := by simp [onL]
theorem vcs_one (v : Vc) : ∀ u ∈ v.cs, u.oneCell' = true := by
  intro u hu
  simp only [Vc.cs, List.mem_cons, List.not_mem_nil, or_false] at hu
  rcases hu with rfl | rfl | rfl | rfl | rfl <;> rfl
theorem vecL_get (L : List Vc) {i : Nat} (hi : i < L.length) {t : Nat} (ht : t < 5) : (vecL L)[i * 5 + t]? = (L[i]).cs[t]? := by
  induction L generalizing i with
  | nil => cases hi
  | cons v L ih =>
    have e : vecL (v :: L) = v.cs ++ vecL L := rfl
    rw [e]
    cases i with
    | zero => rw [List.getElem?_append_left (by rw [cs_len]; omega)]; simp
    | succ i =>
      rw [List.getElem?_append_right (by rw [cs_len]; omega), cs_len, show (i + 1) * 5 + t - 5 = i * 5 + t by omega]
      exact ih (by simpa using hi)
/-- a vector laid in a new block -/
theorem src_vec (W : World) (v : Vc) : ∀ j u, v.cs[j]? = some u → (W.alloc (.cells #[.int .u64 (v.root : Int), .int .i64 v.cost, .int .u64 (v.bridge : Int), .int .i64 v.port, .int .i64 v.on] 25)).cell? ((⟨W.heap.size, 0, none⟩ : Addr).add j) = some u := fun j u hu => by
  have c := vcells (heap_alloc_new W (.cells #[.int .u64 (v.root : Int), .int .i64 v.cost, .int .u64 (v.bridge : Int), .int .i64 v.port, .int .i64 v.on] 25))
  have hc : VcAt (W.alloc (.cells #[.int .u64 (v.root : Int), .int .i64 v.cost, .int .u64 (v.bridge : Int), .int .i64 v.port, .int .i64 v.on] 25)) W.heap.size 0 v := ⟨c.1, c.2.1, c.2.2.1, c.2.2.2.1, c.2.2.2.2.1⟩
  rw [Addr.add_lit]
  exact hc.get j u hu
/-- the document's ways and ports, as they lie in memory -/
structure Doc14 (w W : World) (v1 v2 : Value) (L M : List Vc) : Prop where
  below : Below w.heap.size w W
  res : W.heap[w.heap.size]? = some (.cells #[.int .u64 0, .int .i64 0, .int .u64 0, .int .i64 0, .int .i64 0] 25 (0, 0))
  ways : W.ownsRow (w.heap.size + 1) 25 5 v1 L.length (vecL L)
  ports : W.ownsRow (w.heap.size + 1) 3 1 v2 M.length (onL M)
theorem Doc14.next {w W W' : World} {v1 v2 : Value} {L M : List Vc} (h : Doc14 w W v1 v2 L M) (b : Below W.heap.size W W') : Doc14 w W' v1 v2 L M :=
  ⟨bthen h.below b, Below.row b h.res, own_below h.ways b, own_below h.ports b⟩
theorem Doc14.lt {w W : World} {v1 v2 : Value} {L M : List Vc} (h : Doc14 w W v1 v2 L M) : w.heap.size < W.heap.size := lt_of_row h.res
/-- the two rows are apart -/
theorem Doc14.apart {w W : World} {v1 v2 : Value} {L M : List Vc} (h : Doc14 w W v1 v2 L M) : (v1.ownBlock = none ∨ v1.ownBlock ≠ v2.ownBlock) ∧ (v2.ownBlock = none ∨ v2.ownBlock ≠ v1.ownBlock) := by
  obtain ⟨_, ⟨rfl, _⟩ | ⟨g, cap, cur, rfl, _, hg, _⟩⟩ := h.ways
  · refine ⟨.inl rfl, ?_⟩
    cases hv : v2.ownBlock with
    | none => exact .inl rfl
    | some k => exact .inr (by simp [Value.ownBlock])
  · obtain ⟨_, ⟨rfl, _⟩ | ⟨g2, cap2, cur2, rfl, _, hg2, _⟩⟩ := h.ports
    · exact ⟨.inr (by simp [Value.ownBlock]), .inl rfl⟩
    · have hne : g ≠ g2 := by
        rintro rfl
        rw [hg] at hg2
        simp at hg2
      exact ⟨.inr (by simpa [Value.ownBlock] using hne), .inr (by simpa [Value.ownBlock] using Ne.symm hne)⟩
/-- what is in a row that has something in it -/
theorem own_shape {W : World} {B e s n : Nat} {v : Value} {xs : List Value} (h : W.ownsRow B e s v n xs) (hn : n ≠ 0) : ∃ g cap, v = .slice (some ⟨g, 0, none⟩) n cap := by
  obtain ⟨_, ⟨_, h0⟩ | ⟨g, cap, cur, rfl, _⟩⟩ := h
  · exact absurd h0 hn
  · exact ⟨g, cap, rfl⟩
theorem row_far {w W W' : World} {row : Option Nat} {o : Obj} (h : W.heap[w.heap.size]? = some o) (hg : W.grownBy W' row) (hr : ∀ k, row = some k → w.heap.size + 1 ≤ k) : W'.heap[w.heap.size]? = some o :=
  (hg.block _ (lt_of_row h) (fun e => by have := hr _ e.symm; omega)).trans h
theorem info_vec14 : ∃ i, Try.prog.info? 25 = some i ∧ i.zero = some (.agg #[.int .u64 0, .int .i64 0, .int .u64 0, .int .i64 0, .int .i64 0]) ∧ i.size = 5 ∧ i.bytes = 40 := by
  have h : (Try.prog.info? 25).map (fun i => (i.zero, i.size, i.bytes)) = some (some (.agg #[.int .u64 0, .int .i64 0, .int .u64 0, .int .i64 0, .int .i64 0]), 5, 40) := by kernel_rfl
  cases hi : Try.prog.info? 25 with
  | none => rw [hi] at h; cases h
  | some i =>
    rw [hi] at h
    simp only [Option.map_some, Option.some.injEq, Prod.mk.injEq] at h
    exact ⟨i, rfl, h.1, h.2.1, h.2.2⟩
/-- a way appended to the ways -/
theorem wp_way {ops : Array Oper} {rest : List Oper} {o : Oper} {a : Act} {Q : Exit → Act → World → Prop} (hgd : o.guard = none) (s x : Operand)
    (ho : o.op = .call { callee := .builtin .append, args := #[s, x], argTypes := #[42, 42] }) (w W : World) (v1 v2 : Value) (n : Nat) (L M : List Vc) (E : Vc) (hn : L.length = n) (hs : a.eval s = v1) (hd : Doc14 w W v1 v2 L M)
    (hx : a.eval x = .slice (some ⟨W.heap.size, 0, none⟩) 1 1) (hl : n ≤ 4096)
    (h : ∀ r c W', Hid (Doc14 w W' (.slice (some ⟨r, 0, none⟩) (n + 1) c) v2 (L ++ [E]) M) → wpList Try.prog ops Q rest (a.put o.dst (.slice (some ⟨r, 0, none⟩) (n + 1) c)) W') :
    wpList Try.prog ops Q (o :: rest) a (W.alloc (.cells #[.int .u64 (E.root : Int), .int .i64 E.cost, .int .u64 (E.bridge : Int), .int .i64 E.port, .int .i64 E.on] 25)) := by
  obtain ⟨i0, hi0, hz0, hz1, hz2⟩ := info_vec14
  subst hn
  have hlt := hd.lt
  have hd' := hd.next (alloc_below W (.cells #[.int .u64 (E.root : Int), .int .i64 E.cost, .int .u64 (E.bridge : Int), .int .i64 E.port, .int .i64 E.on] 25))
  have hlt' := hd'.lt
  refine wpList_append_own_at _ hgd s x 42 ho (w.heap.size + 1) 25 i0 _ 5 40 Try.underlying42 hi0 hz0 hz1 hz2 rfl (by decide) v1 L.length (vecL L) hs hd'.ways ⟨W.heap.size, 0, none⟩ 1 1 E.cs hx rfl (src_vec W E) (vcs_one E) (by unfold maxLen; omega) (by omega) hlt' ?_
  intro v' w' ho' hg hnil _
  have hlow : ∀ k, v1.ownBlock = some k → w.heap.size + 1 ≤ k := fun k hk => (World.ownsRow.lt hd'.ways k hk).1
  obtain ⟨r, c, rfl⟩ := own_shape ho' (by omega)
  refine h r c w' ⟨hd'.below.grown hg (Nat.le_of_lt hlt') (fun k hk => Nat.le_of_lt (hlow k hk)), row_far hd'.res hg hlow, ?_, World.ownsRow.kept hd'.ports hg hd'.apart.2⟩
  rw [List.length_append, vecL_add]
  exact ho'
/-- a port appended to the ports -/
theorem wp_port {ops : Array Oper} {rest : List Oper} {o : Oper} {a : Act} {Q : Exit → Act → World → Prop} (hgd : o.guard = none) (s x : Operand)
    (ho : o.op = .call { callee := .builtin .append, args := #[s, x], argTypes := #[30, 30] }) (w W : World) (v1 v2 : Value) (n : Nat) (L M : List Vc) (E : Vc) (hn : M.length = n) (hs : a.eval s = v2) (hd : Doc14 w W v1 v2 L M)
    (hx : a.eval x = .slice (some ⟨W.heap.size, 0, none⟩) 1 1) (hl : n ≤ 4096)
    (h : ∀ r c W', Hid (Doc14 w W' v1 (.slice (some ⟨r, 0, none⟩) (n + 1) c) L (M ++ [E])) → wpList Try.prog ops Q rest (a.put o.dst (.slice (some ⟨r, 0, none⟩) (n + 1) c)) W') :
    wpList Try.prog ops Q (o :: rest) a (W.alloc (.cells #[.int .i64 E.on] 3)) := by
  obtain ⟨i0, hi0, hz0, hz1, hz2⟩ := info_ints
  subst hn
  have hlt := hd.lt
  have hd' := hd.next (alloc_below W (.cells #[.int .i64 E.on] 3))
  have hlt' := hd'.lt
  refine wpList_append_own_at _ hgd s x 30 ho (w.heap.size + 1) 3 i0 _ 1 8 Try.underlying30 hi0 hz0 hz1 hz2 rfl (by decide) v2 M.length (onL M) hs hd'.ports ⟨W.heap.size, 0, none⟩ 1 1 [.int .i64 E.on] hx rfl (cell_one_new _ _ _) (by simp [Value.oneCell']) (by unfold maxLen; omega) (by omega) hlt' ?_
  intro v' w' ho' hg hnil _
  have hlow : ∀ k, v2.ownBlock = some k → w.heap.size + 1 ≤ k := fun k hk => (World.ownsRow.lt hd'.ports k hk).1
  obtain ⟨r, c, rfl⟩ := own_shape ho' (by omega)
  refine h r c w' ⟨hd'.below.grown hg (Nat.le_of_lt hlt') (fun k hk => Nat.le_of_lt (hlow k hk)), row_far hd'.res hg hlow, World.ownsRow.kept hd'.ways hg hd'.apart.1, ?_⟩
  rw [List.length_append, onL_add]
  exact ho'
end Go.Proofs.Ytagfaaciakbnbaa
