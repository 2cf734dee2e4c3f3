/-
  The contract of slices.Insert of one part in the middle, where there is room.
-/
import Derived.Test.YtljhgehlaehgnaaDoorAg13
namespace Go.Proofs.YtljhgehlaehgnaaDoor
open Go.RowKit

theorem Tryd.sizePart : (Tryd.prog.info? 100).map (·.size) = some 4 := by kernel_rfl
set_option maxHeartbeats 1000000 in
set_option maxRecDepth 100000 in
theorem ins_room (B vb : Nat) (A D : List Ent) (r cap i n : Nat) (x : Ent) (R : List Value) (w : World) (hr : w.heap[r]? = some (.cells (cs (A ++ D) ++ R).toArray 100 (0, 0))) (hi : A.length = i) (hn : (A ++ D).length = n) (hin : i < n) (hc : n ≤ 4096)
    (hcap : n + 1 ≤ cap) (hm : cap ≤ maxLen) (hR : n * 4 + R.length = cap * 4) (hB : B ≤ r) (hvr : vb ≠ r)
    (hvb : w.heap[vb]? = some (.cells #[.int .u64 x.key, .int .u64 x.val, .int .i64 x.at_, .bool x.fix] 100 (0, 0))) :
    Calls Tryd.prog 52 #[.slice (some ⟨r, 0, none⟩) n cap, .int .i64 i, .slice (some ⟨vb, 0, none⟩) 1 1] w fun e w' => Inserted B (.slice (some ⟨r, 0, none⟩) n cap) (A ++ x :: D) w e w' := by
  have hcm : cap ≤ 9223372036854775807 := by unfold maxLen at hm; omega
  have hD : D.length = n - i := by rw [← hn]; simp; omega
  have hov : ∀ lb cb, (callFunc 58 #[.slice (some ⟨vb, 0, none⟩) 1 1, .slice (some ⟨r, (i + 1) * 4, none⟩) lb cb]).run Tryd.prog w = .ok (.value (.bool false)) w := fun lb cb => by
    rw [run_callFunc_extern Tryd.func58 (by kernel_rfl) (by kernel_rfl) (by kernel_rfl) (e := Extern.SlicesOverlaps.overlaps #[76, 76] #[4]) (by kernel_rfl),
      Lib.run_overlaps_apart w 76 4 100 Tryd.underlying76 4 Tryd.sizeOf100 ⟨vb, 0, none⟩ ⟨r, (i + 1) * 4, none⟩ 1 1 lb cb hvr 100 100 4 ((cs (A ++ D) ++ R).toArray.size) (by simp [World.shape?, hvb]) (by simp [World.shape?, hr])
        (by rw [List.size_toArray, List.length_append, cs_length, hn]; omega) (frozen_of_row w vb 0 _ _ hvb) (frozen_of_row w vb 4 _ _ hvb)]
    rfl
  have hcs : (cs (A ++ D)).length = n * 4 := by rw [cs_length, hn]
  have hrd : Hid (w.drew.heap[r]? = some (.cells (cs (A ++ D) ++ R).toArray 100 (0, 0))) := hr
  have s1 : Hid ((cs D).length = (n - i) * 4) := by show _ = _; rw [cs_length, hD]
  have s3 : Hid ((i + 1) * 4 + (cs D).length ≤ (cs (A ++ D) ++ R).toArray.size) := by
    show _ ≤ _
    rw [List.size_toArray, List.length_append, hcs, cs_length, hD]; omega
  have hsrc : Hid (∀ t u, (cs D)[t]? = some u → w.drew.cell? ((⟨r, i * 4, none⟩ : Addr).add t) = some u) := by
    intro t u hu
    rw [Addr.add_lit]
    show w.cell? _ = _
    have ht : t < (cs D).length := (List.getElem?_eq_some_iff.1 hu).1
    rw [cell_of_row w r _ _ _ _ hr, List.getElem?_toArray, List.getElem?_append_left (by rw [hcs]; rw [cs_length, hD] at ht; omega), cs_append, List.getElem?_append_right (by rw [cs_length, hi]; omega), cs_length, hi, Nat.add_sub_cancel_left]
    exact hu
  -- the row behind both copies
  have hfin : Hid (∀ cur1 : List Value, cur1 = (cs (A ++ D) ++ R).take ((i + 1) * 4) ++ cs D ++ (cs (A ++ D) ++ R).drop ((i + 1) * 4 + (cs D).length) →
      i * 4 + x.cs.length ≤ cur1.length ∧ cur1.take (i * 4) ++ x.cs ++ cur1.drop (i * 4 + x.cs.length) = cs (A ++ x :: D) ++ (cs (A ++ D) ++ R).drop ((i + 1) * 4 + (cs D).length)) := by
    intro cur1 h
    have hx4 : x.cs.length = 4 := rfl
    have hl : ((cs (A ++ D) ++ R).take ((i + 1) * 4)).length = (i + 1) * 4 := by rw [List.length_take, List.length_append, hcs]; omega
    have ht : cur1.take (i * 4) = cs A := by
      rw [h, List.append_assoc, List.take_append_of_le_length (by omega), List.take_take, show min (i * 4) ((i + 1) * 4) = i * 4 by omega, List.take_append_of_le_length (by rw [hcs]; omega), ← hi, cs_take, List.take_left]
    have hd : cur1.drop (i * 4 + x.cs.length) = cs D ++ (cs (A ++ D) ++ R).drop ((i + 1) * 4 + (cs D).length) := by
      rw [h, hx4, show i * 4 + 4 = (i + 1) * 4 by omega, List.append_assoc]
      exact List.drop_left' hl
    refine ⟨?_, ?_⟩
    · rw [h, List.length_append, List.length_append, hl, hx4, cs_length D, hD]; omega
    · rw [ht, hd, cs_append A (x :: D), cs_cons]; simp
  have hL0 : (A ++ x :: D).length = n + 1 := by rw [← hn]; simp; omega
  have hRl : Hid ((A ++ x :: D).length * 4 + ((cs (A ++ D) ++ R).drop ((i + 1) * 4 + (cs D).length)).length = cap * 4) := by
    show _ = _
    have e : (cs (A ++ D) ++ R).length = n * 4 + R.length := by rw [List.length_append, hcs]
    rw [List.length_drop, e, hL0, cs_length, hD]; omega
  have hL1 := hide hL0
  clear hL0
  have hvs := hide (src4 hvb)
  have HV := hide hvb
  have e1 : ¬ (cap = i) := by omega
  have e2 : ¬ (cap = i + 1) := by omega
  have e3 : i ≤ n + 1 := by omega
  have e6 : i ≤ n := by omega
  have e4 : i + 1 ≤ n + 1 := by omega
  have e5 : i ≤ cap := by omega
  have HVR := hide hvr
  have S1 := hide (show n - i = Nat.min (n + 1 - i) (n - i) by simp only [Nat.min_def]; split <;> omega)
  have hw1 : IntKind.i64.wrap ((i : Int) + 1) = (i : Int) + 1 := by rw [IntKind.wrap_i64]; omega
  have hb1 : (0 : Int) ≤ (i : Int) + 1 := by omega
  have htn : ((i : Int) + 1).toNat = i + 1 := by omega
  have hb3 : (i : Int) ≤ (n : Int) + 1 := by omega
  clear hr hi hn hvb hvr hD hcs
  go_enter Tryd.func52, Tryd.ntmps52
  go_wp2_with (simp only [hov])
  go_region_law (refine step_copy_k rfl (.tmp 73) (.tmp 76) 76 76 rfl 100 4 Tryd.underlying76 Tryd.sizePart r ((i + 1) * 4) (n - i) (cap - (i + 1)) ⟨r, i * 4, none⟩ (n + 1 - i) (cap - i) (by simp [Act.eval, Act.put]) (by simp [Act.eval, Act.put]) _ _ (unhide hrd) (n - i) (unhide S1) (cs D) (unhide s1) (unhide hsrc) (unhide s3) (cs_oneCell D) ?_; intro w1 hr1 hg1)
  obtain ⟨cur1, hc1⟩ : ∃ cur1 : List Value, cur1 = (cs (A ++ D) ++ R).take ((i + 1) * 4) ++ cs D ++ (cs (A ++ D) ++ R).drop ((i + 1) * 4 + (cs D).length) := ⟨_, rfl⟩
  have hr2 : w1.heap[r]? = some (.cells cur1.toArray 100 (0, 0)) := by
    have h := unhide hr1
    rw [List.toList_toArray, ← hc1] at h
    exact h
  have hf1 := unhide hfin cur1 hc1
  have S2 := hide (show i * 4 + x.cs.length ≤ cur1.toArray.size by simpa using hf1.1)
  have F2 := hide hf1.2
  have H1 := hide hr2
  have G1 := hide hg1
  have hv1 := src4 ((hg1.block vb (lt_of_row (unhide HV)) (by simpa using unhide HVR)).trans (unhide HV))
  have HV1 := hide hv1
  have S3 := hide (show 1 = Nat.min 1 (n + 1 - i) by simp only [Nat.min_def]; split <;> omega)
  clear hr1 hg1 hv1 hc1 hr2 hf1
  go_wp2_with (refine wpList_copy_k rfl (.tmp 80) (.tmp 81) 76 76 rfl 100 4 Tryd.underlying76 Tryd.sizePart r (i * 4) (n + 1 - i) (cap - i) ⟨vb, 0, none⟩ 1 1 rfl rfl _ _ (unhide H1) 1 (unhide S3) x.cs rfl (unhide HV1) (unhide S2) (cs4_one x) ?_; intro w2 hr2 hg2)
  have H2 := hide hr2
  have G2 := hide hg2
  clear hr2 hg2
  go_wp2
  go_ret
  refine ⟨some ⟨r, 0, none⟩, n + 1, cap, rfl, ?_, ?_, .inl rfl⟩
  · have h := unhide (unhide H2)
    rw [unhide F2] at h
    have := own_of (B := B) (cap := cap) hB h (by rw [unhide hL1]; omega) hm (unhide hRl)
    rw [unhide hL1] at this
    exact this
  · have g1 := unhide G1
    have g2 := unhide G2
    exact ⟨g2.os.trans g1.os, g2.tape.trans g1.tape, g2.output.trans g1.output, Nat.le_trans g1.size g2.size, fun k hk hr => (g2.block k (Nat.lt_of_lt_of_le hk g1.size) hr).trans (g1.block k hk hr)⟩
end Go.Proofs.YtljhgehlaehgnaaDoor
