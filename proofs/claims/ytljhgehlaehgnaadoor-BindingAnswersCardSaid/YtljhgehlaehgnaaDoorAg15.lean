/-
  The contract of slices.Insert of one part in the middle, where there is no room.
-/
import Derived.Test.YtljhgehlaehgnaaDoorAg14
namespace Go.Proofs.YtljhgehlaehgnaaDoor
open Go.RowKit

set_option maxHeartbeats 1000000 in
set_option maxRecDepth 100000 in
theorem ins_grow (B vb : Nat) (A D : List Ent) (r cap i n : Nat) (x : Ent) (R : List Value) (w : World) (hr : w.heap[r]? = some (.cells (cs (A ++ D) ++ R).toArray 100 (0, 0))) (hi : A.length = i) (hn : (A ++ D).length = n) (hin : i < n) (hc : n ≤ 4096)
    (hnc : n ≤ cap) (hcap : cap < n + 1) (hB : B ≤ w.heap.size)
    (hvb : w.heap[vb]? = some (.cells #[.int .u64 x.key, .int .u64 x.val, .int .i64 x.at_, .bool x.fix] 100 (0, 0))) :
    Calls Tryd.prog 52 #[.slice (some ⟨r, 0, none⟩) n cap, .int .i64 i, .slice (some ⟨vb, 0, none⟩) 1 1] w fun e w' => Inserted B (.slice (some ⟨r, 0, none⟩) n cap) (A ++ x :: D) w e w' := by
  obtain ⟨i0, hi0, hz0, hz1, hz2⟩ := info_parts Tryd.infoPart
  have hD : D.length = n - i := by rw [← hn]; simp; omega
  have hcs : (cs (A ++ D)).length = n * 4 := by rw [cs_length, hn]
  have hcA : (cs A).length = i * 4 := by rw [cs_length, hi]
  have hold : (Builtin.firstCells i0.size i (.slice (some ⟨r, 0, none⟩) i cap)).run Tryd.prog w.drew = .ok (cs A).toArray w.drew := by
    rw [hz1]
    exact run_firstCells_some w.drew 4 i ⟨r, 0, none⟩ i cap (cs A) hcA (fun j v hj => by
      rw [Addr.add_lit, Nat.zero_add]
      show w.cell? _ = _
      have ht : j < (cs A).length := (List.getElem?_eq_some_iff.1 hj).1
      rw [cell_of_row w r _ _ _ _ hr, List.getElem?_toArray, List.getElem?_append_left (by rw [hcs]; omega), cs_append, List.getElem?_append_left ht]
      exact hj)
  have hkk : (n : Int) + 1 - (i : Int) = ((n + 1 - i : Nat) : Int) := by omega
  have hik : i + (n + 1 - i) = n + 1 := by omega
  obtain ⟨G, hG⟩ : ∃ G, G = grownCap w (n + 1) cap 100 := ⟨_, rfl⟩
  obtain ⟨Z, hZ⟩ : ∃ Z : List Value, Z = (Builtin.zeroCells #[.int .u64 0, .int .u64 0, .int .i64 0, .bool false] (n + 1 - i)).toList ++ (Builtin.zeroCells #[.int .u64 0, .int .u64 0, .int .i64 0, .bool false] (G - (n + 1))).toList := ⟨_, rfl⟩
  have hrz : ∀ ty, (Builtin.append_ #[76, 3] ty #[.slice (some ⟨r, 0, none⟩) i cap, .int .i64 ((n : Int) + 1 - (i : Int))]).run Tryd.prog w = .ok (.slice (some ⟨w.heap.size, 0, none⟩) (n + 1) G) (w.drew.alloc (.cells (cs A ++ Z).toArray 100)) := fun ty => by
    have h := Lib.run_append_grow_zeros w 76 3 ty 100 i0 _ .i64 .i64 Tryd.underlying76 Tryd.underlying3 hi0 hz0 (some ⟨r, 0, none⟩) i cap (cs A) hold (n + 1 - i) (by omega) (by rw [hz1]; omega) (by omega) (by omega) (by rw [hz2]; omega) (by rw [hz2, hik]; exact growslice_fits hcap (by omega))
    rw [hik, ← hG] at h
    rw [hkk, h]
    congr 3
    rw [hZ]
    apply Array.ext'
    simp [Value.cells]
  have hGn : n + 1 ≤ G := by rw [hG]; exact grownCap_ge w _ _ _
  have hGm : G ≤ maxLen := by rw [hG]; exact grownCap_le_maxLen w (n + 1) cap 100 (by unfold maxLen; omega)
  have hG63 : G ≤ 9223372036854775807 := by unfold maxLen at hGm; omega
  have hZl : Z.length = (G - i) * 4 := by rw [hZ]; simp [size_zeroCells]; omega
  obtain ⟨W1, hW1⟩ : ∃ W1, W1 = w.drew.alloc (.cells (cs A ++ Z).toArray 100) := ⟨_, rfl⟩
  rw [← hW1] at hrz
  have hR1 : W1.heap[w.heap.size]? = some (.cells (cs A ++ Z).toArray 100 (0, 0)) := by rw [hW1]; exact heap_alloc_new w.drew _
  have hB1 : Below w.heap.size w W1 := by rw [hW1]; exact ((Below.refl w.heap.size w).drew).alloc (Nat.le_refl _) _
  have hv1 := src4 (Below.row hB1 hvb)
  have hv1' := hide hv1
  have hRr := hide (Below.row hB1 hr)
  have hWd : Hid (w.heap.size ≠ r) := hide (by have := lt_of_row hr; omega)
  have H1 := hide hR1
  have HB1 := hide hB1
  have S1 := hide (show 1 = Nat.min 1 (n + 1 - i) by simp only [Nat.min_def]; split <;> omega)
  have S2 := hide (show i * 4 + x.cs.length ≤ (cs A ++ Z).toArray.size by rw [List.size_toArray, List.length_append, hcA, hZl]; simp [Ent.cs]; omega)
  have F1 : Hid ((cs A ++ Z).take (i * 4) ++ x.cs ++ (cs A ++ Z).drop (i * 4 + x.cs.length) = cs (A ++ [x]) ++ Z.drop 4) := by
    show _ = _
    rw [← hcA, List.take_left, cs_append, cs_one, ← List.drop_drop, List.drop_left]; rfl
  have S3 := hide (show n - i = Nat.min (n - i) (n - i) by simp only [Nat.min_def]; split <;> omega)
  have S4 : Hid ((cs D).length = (n - i) * 4) := by show _ = _; rw [cs_length, hD]
  have S5 : Hid ((i + 1) * 4 + (cs D).length ≤ (cs (A ++ [x]) ++ Z.drop 4).toArray.size) := by
    show _ ≤ _
    rw [List.size_toArray, List.length_append, cs_length D, hD, cs_length, List.length_append, hi, List.length_drop, hZl]; simp; omega
  have F2 : Hid ((cs (A ++ [x]) ++ Z.drop 4).take ((i + 1) * 4) ++ cs D ++ (cs (A ++ [x]) ++ Z.drop 4).drop ((i + 1) * 4 + (cs D).length) = cs (A ++ x :: D) ++ (Z.drop 4).drop (cs D).length) := by
    show _ = _
    have hl : (cs (A ++ [x])).length = (i + 1) * 4 := by rw [cs_length]; simp [hi]
    rw [← hl, List.take_left, ← List.drop_drop, List.drop_left, ← cs_append, List.append_assoc A [x] D]; rfl
  have hsr : Hid (∀ W : World, W.heap[r]? = some (.cells (cs (A ++ D) ++ R).toArray 100 (0, 0)) → ∀ t u, (cs D)[t]? = some u → W.cell? ((⟨r, i * 4, none⟩ : Addr).add t) = some u) := by
    intro W hr t u hu
    rw [Addr.add_lit]
    have ht : t < (cs D).length := (List.getElem?_eq_some_iff.1 hu).1
    rw [cell_of_row W r _ _ _ _ hr, List.getElem?_toArray, List.getElem?_append_left (by rw [hcs]; rw [cs_length, hD] at ht; omega), cs_append, List.getElem?_append_right (by rw [cs_length, hi]; omega), cs_length, hi, Nat.add_sub_cancel_left]
    exact hu
  have hL : Hid ((A ++ x :: D).length = n + 1) := hide (by rw [← hn]; simp; omega)
  have hRl : Hid ((A ++ x :: D).length * 4 + ((Z.drop 4).drop (cs D).length).length = G * 4) := by
    show _ = _
    rw [unhide hL, List.length_drop, List.length_drop, hZl, cs_length, hD]; omega
  have e1 : ¬ (cap = i) := by omega
  have e2 : i ≤ cap := by omega
  have e3 : ¬ (G = i) := by omega
  have e4 : ¬ (G = i + 1) := by omega
  have e5 : i ≤ n + 1 := by omega
  have e6 : i + 1 ≤ n + 1 := by omega
  have e7 : i ≤ n := by omega
  have hw1 : IntKind.i64.wrap ((i : Int) + 1) = (i : Int) + 1 := by rw [IntKind.wrap_i64]; omega
  have hb1 : (0 : Int) ≤ (i : Int) + 1 := by omega
  have htn : ((i : Int) + 1).toNat = i + 1 := by omega
  have hb3 : (i : Int) ≤ (n : Int) + 1 := by omega
  clear hr hi hn hvb hD hcs hcA hold hkk hik hZ hR1 hB1 hW1 hv1 hZl hG
  go_enter Tryd.func52, Tryd.ntmps52
  go_wp2_with (first | (at_builtin; refine Lib.wpList_append_run _ rfl _ _ _ _ rfl _ _ rfl rfl _ _ (hrz _) ?_) | (refine wpList_copy_k rfl (.tmp 43) (.tmp 44) 76 76 rfl 100 4 Tryd.underlying76 Tryd.sizePart w.heap.size (i * 4) (n + 1 - i) (G - i) ⟨vb, 0, none⟩ 1 1 rfl rfl _ _ (unhide H1) 1 (unhide S1) x.cs rfl (unhide hv1') (unhide S2) (cs4_one x) ?_; intro w2 hr2 hg2))
  have hr3 : w2.drew.heap[w.heap.size]? = some (.cells (cs (A ++ [x]) ++ Z.drop 4).toArray 100 (0, 0)) := by
    have h := unhide hr2
    rw [unhide F1] at h
    exact h
  have hs2 := hide (unhide hsr w2.drew ((hg2.block r (lt_of_row (unhide hRr)) (by simpa using fun e => unhide hWd e.symm)).trans (unhide hRr)))
  have H2 := hide hr3
  have G2 := hide hg2
  clear hr2 hg2 hr3
  go_region_law (refine step_copy_k rfl (.tmp 50) (.tmp 53) 76 76 rfl 100 4 Tryd.underlying76 Tryd.sizePart w.heap.size ((i + 1) * 4) (n - i) (G - (i + 1)) ⟨r, i * 4, none⟩ (n - i) (cap - i) (by simp [Act.eval, Act.put]) (by simp [Act.eval, Act.put]) _ _ (unhide H2) (n - i) (unhide S3) (cs D) (unhide S4) (unhide hs2) (unhide S5) (cs_oneCell D) ?_; intro w3 hr3 hg3)
  have hr4 : w3.heap[w.heap.size]? = some (.cells (cs (A ++ x :: D) ++ (Z.drop 4).drop (cs D).length).toArray 100 (0, 0)) := by
    have h := unhide hr3
    rw [List.toList_toArray, unhide F2] at h
    exact h
  have H3 := hide hr4
  have G3 := hide hg3
  clear hr3 hg3 hr4
  go_wp2
  go_ret
  have g2 := unhide G2
  have g3 := unhide G3
  have b1 := unhide HB1
  refine ⟨some ⟨w.heap.size, 0, none⟩, n + 1, G, rfl, ?_, ?_, .inr fun k hk => ?_⟩
  · have := own_of (B := B) (cap := G) hB (unhide H3) (by rw [unhide hL]; omega) hGm (unhide hRl)
    rw [unhide hL] at this
    exact this
  · refine ⟨g3.os.trans (g2.os.trans b1.os), g3.tape.trans (g2.tape.trans b1.tape), g3.output.trans (g2.output.trans b1.output), Nat.le_trans b1.size (Nat.le_trans g2.size g3.size), fun k hk _ => ?_⟩
    have hkn : some k ≠ some w.heap.size := by simp; omega
    exact (g3.block k (Nat.lt_of_lt_of_le hk (Nat.le_trans b1.size g2.size)) hkn).trans ((g2.block k (Nat.lt_of_lt_of_le hk b1.size) hkn).trans (b1.block k hk))
  · simp [Value.ownBlock] at hk; omega
end Go.Proofs.YtljhgehlaehgnaaDoor
