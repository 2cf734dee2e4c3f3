/-
  Laws of no program: a copy over elements of more cells than one, as a step of a walk. And the contract of slices.Insert of one part: at the end, where there is room, and where there is none.
-/
import Derived.Test.YtljhgehlaehgnaaDoorAg12
import Derived.Lib.Overlaps
import Derived.Lib.AppendZerosOnto
import Derived.Maps.AppendAt
namespace Go.Proofs.YtljhgehlaehgnaaDoor
open Go.RowKit Go.Sort

theorem wpList_copy_k {P : Program} {w : World} {ops : Array Oper} {rest : List Oper} {o : Oper} {a : Act} {Q : Exit → Act → World → Prop} (hgd : o.guard = none) (d s : Operand) (dT sT : TypeId)
    (ho : o.op = .call { callee := .builtin .copy, args := #[d, s], argTypes := #[dT, sT] }) (elem : TypeId) (size : Nat) (hu : P.underlying dT = some (.slice elem)) (hsz : (P.info? elem).map (·.size) = some size)
    (g off dLen dCap : Nat) (ad : Addr) (sLen sCap : Nat) (hd : a.eval d = .slice (some ⟨g, off, none⟩) dLen dCap) (hs : a.eval s = .slice (some ad) sLen sCap)
    (cur : Array Value) (t : TypeId) (hg : w.heap[g]? = some (.cells cur t (0, 0))) (m : Nat) (hm : m = Nat.min sLen dLen) (cs : List Value) (hn : cs.length = m * size)
    (hsrc : ∀ j v, cs[j]? = some v → w.cell? (ad.add j) = some v) (hfit : off + cs.length ≤ cur.size) (h1 : ∀ v ∈ cs, v.oneCell' = true)
    (h : ∀ w', Hid (w'.heap[g]? = some (.cells (cur.toList.take off ++ cs ++ cur.toList.drop (off + cs.length)).toArray t (0, 0))) → w.grownBy w' (some g) → wpList P ops Q rest (a.put o.dst (goInt m)) w') : wpList P ops Q (o :: rest) a w := by
  refine wpList_plain hgd fun K hK => ?_
  have hrun := run_copy_k (P := P) w dT sT o.type elem size g off dLen dCap ad sLen sCap m cur t cs hu hsz hg hm hn hsrc hfit h1
  unfold Oper.wp
  simp only [execOp, ho, resolve, invoke, builtin, Sem.run_bind, Sem.run_pure, Result.andThen_ok, List.map_toArray, List.map_cons, List.map_nil, hd, hs, hrun]
  exact hK _ _ (h _ (setRow_heap w g cur _ t (0, 0) hg) (setRow_grown w g _))
theorem step_copy_k {P : Program} {w : World} {ops : Array Oper} {o : Oper} {a : Act} {K : Act → World → Prop} {Q : Exit → Act → World → Prop} {E : Prop} (hgd : o.guard = none) (d s : Operand) (dT sT : TypeId)
    (ho : o.op = .call { callee := .builtin .copy, args := #[d, s], argTypes := #[dT, sT] }) (elem : TypeId) (size : Nat) (hu : P.underlying dT = some (.slice elem)) (hsz : (P.info? elem).map (·.size) = some size)
    (g off dLen dCap : Nat) (ad : Addr) (sLen sCap : Nat) (hd : a.eval d = .slice (some ⟨g, off, none⟩) dLen dCap) (hs : a.eval s = .slice (some ad) sLen sCap)
    (cur : Array Value) (t : TypeId) (hg : w.heap[g]? = some (.cells cur t (0, 0))) (m : Nat) (hm : m = Nat.min sLen dLen) (cs : List Value) (hn : cs.length = m * size)
    (hsrc : ∀ j v, cs[j]? = some v → w.cell? (ad.add j) = some v) (hfit : off + cs.length ≤ cur.size) (h1 : ∀ v ∈ cs, v.oneCell' = true)
    (h : ∀ w', Hid (w'.heap[g]? = some (.cells (cur.toList.take off ++ cs ++ cur.toList.drop (off + cs.length)).toArray t (0, 0))) → w.grownBy w' (some g) → K (a.put o.dst (goInt m)) w') :
    if Region.wanted o (yielded ops a.tmps) = true then Oper.wp P o a w K Q else E := by
  have hw : Region.wanted o (yielded ops a.tmps) = true := by simp [Region.wanted, hgd]
  rw [if_pos hw]
  have hrun := run_copy_k (P := P) w dT sT o.type elem size g off dLen dCap ad sLen sCap m cur t cs hu hsz hg hm hn hsrc hfit h1
  unfold Oper.wp
  simp only [execOp, ho, resolve, invoke, builtin, Sem.run_bind, Sem.run_pure, Result.andThen_ok, List.map_toArray, List.map_cons, List.map_nil, hd, hs, hrun]
  exact h _ (setRow_heap w g cur _ t (0, 0) hg) (setRow_grown w g _)

/-- what an insertion leaves -/
def Inserted (B : Nat) (v : Value) (L' : List Ent) (w : World) (e : Ending) (w' : World) : Prop :=
  ∃ (a : Option Addr) (m c : Nat), e = .returned (.slice a m c) ∧ Own B w' (.slice a m c) L' ∧ w.grownBy w' v.ownBlock ∧ Nb w v.ownBlock (Value.slice a m c).ownBlock
theorem src4 {w : World} {vb : Nat} {x : Ent} (h : w.heap[vb]? = some (.cells #[.int .u64 x.key, .int .u64 x.val, .int .i64 x.at_, .bool x.fix] 100 (0, 0))) : ∀ j u, x.cs[j]? = some u → w.cell? ((⟨vb, 0, none⟩ : Addr).add j) = some u := by
  intro j u hu
  rw [Addr.add_lit, Nat.zero_add, cell_of_row w vb j _ _ _ h]
  simpa [Ent.cs] using hu
theorem cs4_one (x : Ent) : ∀ u ∈ x.cs, u.oneCell' = true := by
  have := cs_oneCell [x]
  rw [cs_one] at this
  exact this
theorem inserted_own {B : Nat} {v v' : Value} {L : List Ent} {x : Ent} {w w' : World} (h : Own B w' v' (L ++ [x])) (hg : w.grownBy w' v.ownBlock) (hat : v'.ownBlock = v.ownBlock ∨ v'.ownBlock = some w.heap.size) : Inserted B v (L ++ [x]) w (.returned v') w' := by
  rcases h.parts with ⟨_, h0⟩ | ⟨r, cap, R, hv, _⟩
  · simp at h0
  · subst hv
    refine ⟨_, _, _, rfl, h, hg, ?_⟩
    rcases hat with h | h
    · exact .inl h
    · exact .inr fun k hk => by rw [h] at hk; simp at hk; omega
set_option maxRecDepth 100000 in
theorem ins_nil (B vb : Nat) (x : Ent) (w : World) (hB : B ≤ w.heap.size) (hvb : w.heap[vb]? = some (.cells #[.int .u64 x.key, .int .u64 x.val, .int .i64 x.at_, .bool x.fix] 100 (0, 0))) :
    Calls Tryd.prog 52 #[.slice none 0 0, .int .i64 0, .slice (some ⟨vb, 0, none⟩) 1 1] w fun e w' => Inserted B (.slice none 0 0) [x] w e w' := by
  obtain ⟨i0, hi0, hz0, hz1, hz2⟩ := info_parts Tryd.infoPart
  have s1 := hide (src4 hvb)
  clear hvb
  go_enter Tryd.func52, Tryd.ntmps52
  go_wp2_with (first | (at_builtin; refine wpList_append_own_at _ rfl (.tmp 23) (.tmp 24) 76 rfl B 100 i0 _ 4 32 Tryd.underlying76 hi0 hz0 hz1 hz2 rfl (by decide) _ 0 [] rfl (World.ownsRow_nil _ _ _ _) ⟨vb, 0, none⟩ 1 1 x.cs rfl rfl (unhide s1) (cs4_one x) (by unfold maxLen; omega) (by omega) hB ?_; intro v' w1 ho1 hg1 hn1 hat1))
  have H1 := hide ho1
  have H2 := hide hg1
  have H3 := hide hat1
  clear ho1 hg1 hn1 hat1
  go_wp2
  go_ret
  exact inserted_own (L := []) (unhide H1) (unhide H2) (unhide H3)
set_option maxRecDepth 100000 in
theorem ins_end (B vb : Nat) (L : List Ent) (r cap n : Nat) (x : Ent) (w : World) (ho : Own B w (.slice (some ⟨r, 0, none⟩) n cap) L) (hn : L.length = n) (hc : n ≤ 4096) (hm : cap ≤ maxLen) (hB : B ≤ w.heap.size)
    (hvb : w.heap[vb]? = some (.cells #[.int .u64 x.key, .int .u64 x.val, .int .i64 x.at_, .bool x.fix] 100 (0, 0))) :
    Calls Tryd.prog 52 #[.slice (some ⟨r, 0, none⟩) n cap, .int .i64 n, .slice (some ⟨vb, 0, none⟩) 1 1] w fun e w' => Inserted B (.slice (some ⟨r, 0, none⟩) n cap) (L ++ [x]) w e w' := by
  obtain ⟨i0, hi0, hz0, hz1, hz2⟩ := info_parts Tryd.infoPart
  obtain ⟨ad, hA⟩ : ∃ ad : Addr, (if cap = n then some (⟨r, 0, none⟩ : Addr) else some ⟨r, n * 4, none⟩) = some ad := by
    by_cases h : cap = n
    · exact ⟨_, if_pos h⟩
    · exact ⟨_, if_neg h⟩
  have s1 := hide (src4 hvb)
  have HO := hide (show w.ownsRow B 100 4 (.slice (some ⟨r, 0, none⟩) n cap) n (cs L) from by rw [← hn]; rw [← hn] at ho; exact ho)
  have hcm : cap ≤ 9223372036854775807 := by unfold maxLen at hm; omega
  clear hvb ho
  go_enter Tryd.func52, Tryd.ntmps52
  go_wp2_with (first | (at_builtin; refine wpList_append_own_at _ rfl (.tmp 23) (.tmp 24) 76 rfl B 100 i0 _ 4 32 Tryd.underlying76 hi0 hz0 hz1 hz2 rfl (by decide) _ n (cs L) rfl (unhide HO) ⟨vb, 0, none⟩ 1 1 x.cs rfl rfl (unhide s1) (cs4_one x) (by unfold maxLen; omega) (by omega) hB ?_; intro v' w1 ho1 hg1 hn1 hat1))
  have H1 := hide ho1
  have H2 := hide hg1
  have H3 := hide hat1
  clear ho1 hg1 hn1 hat1
  go_wp2
  go_ret
  refine inserted_own ?_ (unhide H2) (unhide H3)
  have h := unhide H1
  show World.ownsRow _ _ _ _ _ _ _
  rw [List.length_append, hn, cs_append, cs_one]
  exact h
end Go.Proofs.YtljhgehlaehgnaaDoor
