/-
  The contract of slices.Delete over parts: one part is taken out.
-/
import Derived.Test.YtljhgehlaehgnaaDoorAg4
namespace Go.Proofs.YtljhgehlaehgnaaDoor
open Go.RowKit

theorem Tryd.infoPart : (Tryd.prog.info? 100).map (fun i => (i.zero, i.size, i.bytes)) = some (some (.agg #[.int .u64 0, .int .u64 0, .int .i64 0, .bool false]), 4, 32) := by kernel_rfl
set_option maxRecDepth 100000 in
theorem del_part (A D : List Ent) (x : Ent) (r cap i j n : Nat) (R : List Value) (w : World) (hr : w.heap[r]? = some (.cells (cs (A ++ x :: D) ++ R).toArray 100 (0, 0))) (hi : A.length = i) (hj : j = i + 1) (hn : (A ++ x :: D).length = n) (hc : n ≤ 4096)
    (hcap : n ≤ cap) (hm : cap ≤ maxLen) (hR : n * 4 + R.length = cap * 4) :
    Calls Tryd.prog 57 #[.slice (some ⟨r, 0, none⟩) n cap, .int .i64 i, .int .i64 j] w fun e w' => e = .returned (.slice (some ⟨r, 0, none⟩) (A ++ D).length cap) ∧ w.grownBy w' (some r) ∧
      ∃ R' : List Value, w'.heap[r]? = some (.cells (cs (A ++ D) ++ R').toArray 100 (0, 0)) ∧ R'.length = R.length + 4 := by
  have hin : i < n := by rw [← hn, ← hi]; simp
  have hij : ((i : Int) == (j : Int)) = false := beq_eq_false_iff_ne.2 (by omega)
  have hjn : j ≤ n := by omega
  have hD : D.length = n - j := by rw [← hn]; simp; omega
  have hcm : cap ≤ 9223372036854775807 := by unfold maxLen at hm; omega
  obtain ⟨i0, hi0, hz0, hz1, hz2⟩ := info_parts Tryd.infoPart
  have hcs : (cs (A ++ x :: D)).length = n * 4 := by rw [cs_length, hn]
  have hrd : Hid (w.drew.heap[r]? = some (.cells (cs (A ++ x :: D) ++ R).toArray 100 (0, 0))) := hr
  have s1 : Hid ((cs D).length = (n - j) * 4) := by show _ = _; rw [cs_length, hD]
  have s2 : Hid (∀ u ∈ cs D, u.oneCell' = true) := cs_oneCell D
  have s3 : Hid (i * 4 + (cs D).length ≤ (cs (A ++ x :: D) ++ R).toArray.size) := by
    show _ ≤ _
    rw [List.size_toArray, List.length_append, hcs, cs_length, hD]; omega
  obtain ⟨ad, hA, hsrc⟩ : ∃ ad : Addr, (if cap = j then some (⟨r, 0, none⟩ : Addr) else some ⟨r, j * 4, none⟩) = some ad ∧ Hid (∀ t u, (cs D)[t]? = some u → w.drew.cell? (ad.add t) = some u) := by
    by_cases h : cap = j
    · refine ⟨⟨r, 0, none⟩, by simp [h], fun t u hu => ?_⟩
      have h0 : D.length = 0 := by omega
      rw [List.length_eq_zero_iff.1 h0] at hu
      simp [cs] at hu
    · refine ⟨⟨r, j * 4, none⟩, by simp [h], fun t u hu => ?_⟩
      rw [Addr.add_lit]
      show w.cell? _ = _
      rw [cell_of_row w r _ _ _ _ hr, List.getElem?_toArray]
      have ht : t < (cs D).length := (List.getElem?_eq_some_iff.1 hu).1
      rw [List.getElem?_append_left (by rw [hcs]; rw [cs_length, hD] at ht; omega), cs_append, List.getElem?_append_right (by rw [cs_length, hi]; omega), cs_length, hi, cs_cons,
        List.getElem?_append_right (by simp [Ent.cs]; omega)]
      rw [show (j * 4 + t - i * 4 - x.cs.length) = t by simp [Ent.cs]; omega]
      exact hu
  have hfin : Hid ((cs (A ++ x :: D) ++ R).take (i * 4) ++ cs D ++ (cs (A ++ x :: D) ++ R).drop (i * 4 + (cs D).length) = cs (A ++ D) ++ (((cs (A ++ x :: D)).drop ((n - 1) * 4)) ++ R)) := by
    show _ = _
    rw [List.take_append_of_le_length (by rw [hcs]; omega), List.drop_append_of_le_length (by rw [hcs, cs_length, hD]; omega), cs_append A D, cs_length, hD, show i * 4 + (n - j) * 4 = (n - 1) * 4 by omega, ← hi, cs_take, List.take_left]
  have hle : i ≤ j := by omega
  have hic : i ≤ cap := by omega
  have hjc : j ≤ cap := by omega
  have hne : ¬ (cap = i + (n - j)) := by omega
  have hAD : Hid ((A ++ D).length = i + (n - j)) := by show _ = _; rw [List.length_append, hi, hD]
  have HJ := hide hj
  clear hj hr hi hn
  go_enter Tryd.func57, Tryd.ntmps57
  go_wp2_with fail
  go_region_law (refine step_append_row rfl (.tmp 22) (.tmp 25) 76 rfl 100 i0 4 Tryd.underlying76 hi0 hz1 r i cap (by simp [Act.eval, Act.put]) _ (unhide hrd) ad (n - j) (cap - j) (cs D) (by simp [Act.eval, Act.put]) (unhide s1) (unhide hsrc) (unhide s2) (by omega) (unhide s3) ?_; intro w1 hr1 hg1)
  have hr2 : w1.heap[r]? = some (.cells (cs (A ++ D) ++ (((cs (A ++ x :: D)).drop ((n - 1) * 4)) ++ R)).toArray 100 (0, 0)) := by
    have h := unhide hr1
    rw [List.toList_toArray, unhide hfin] at h
    exact h
  obtain ⟨Z, hZ⟩ : ∃ Z, (Builtin.zeroCells #[.int .u64 0, .int .u64 0, .int .i64 0, .bool false] (n - (i + (n - j)))).toList = Z := ⟨_, rfl⟩
  have hZl : Z.length = 4 := by
    rw [← hZ, Array.length_toList, size_zeroCells]
    have := unhide HJ
    rw [show n - (i + (n - j)) = 1 by omega]; rfl
  have hZo : ∀ u ∈ Z, u.oneCell' = true := by rw [← hZ]; exact zeros_oneCell _
  obtain ⟨Y, hY⟩ : ∃ Y, (cs (A ++ x :: D)).drop ((n - 1) * 4) ++ R = Y := ⟨_, rfl⟩
  have hYl : Y.length = R.length + 4 := by rw [← hY, List.length_append, List.length_drop, hcs]; omega
  rw [hY] at hr2
  have hK : (cs (A ++ D)).length = (i + (n - j)) * 4 := by rw [cs_length, unhide hAD]
  have hcl := fun ty c => run_clear_k (P := Tryd.prog) w1 76 100 ty _ Tryd.underlying76 Tryd.zeroValue100 r ((i + (n - j)) * 4) (n - (i + (n - j))) c (by have := unhide HJ; omega) _ _ hr2 Z hZ hZo (by rw [List.size_toArray, List.length_append, hK, hZl, hYl]; omega)
  have hr3 : (w1.setRow r ((cs (A ++ D) ++ Y).toArray.toList.take ((i + (n - j)) * 4) ++ Z ++ (cs (A ++ D) ++ Y).toArray.toList.drop ((i + (n - j)) * 4 + Z.length)).toArray).heap[r]? = some (.cells (cs (A ++ D) ++ (Z ++ Y.drop 4)).toArray 100 (0, 0)) := by
    rw [setRow_heap w1 r _ _ _ _ hr2]
    congr 2
    rw [List.toList_toArray, ← hK, List.take_left, List.drop_append, List.drop_eq_nil_of_le (by omega), hZl, List.append_assoc, List.nil_append, Nat.add_sub_cancel_left]
  have hg3 := hide (setRow_grown w1 r ((cs (A ++ D) ++ Y).toArray.toList.take ((i + (n - j)) * 4) ++ Z ++ (cs (A ++ D) ++ Y).toArray.toList.drop ((i + (n - j)) * 4 + Z.length)).toArray)
  have hr3' := hide hr3
  have hg1' := hide hg1
  clear hr2 hr3 hg1 hr1 hfin hsrc s1 s2 s3 hA hY hK
  generalize w1.setRow r _ = w2 at *
  go_wp2_with fail
  go_ret
  have g1 := unhide hg1'
  have g3 := unhide hg3
  refine ⟨by rw [unhide hAD]; rfl, ⟨g3.os.trans g1.os, g3.tape.trans g1.tape, g3.output.trans g1.output, Nat.le_trans g1.size g3.size, fun k hk hr => (g3.block k (Nat.lt_of_lt_of_le hk g1.size) hr).trans (g1.block k hk hr)⟩, _, unhide hr3', ?_⟩
  rw [List.length_append, List.length_drop, hZl, hYl]; omega
end Go.Proofs.YtljhgehlaehgnaaDoor
