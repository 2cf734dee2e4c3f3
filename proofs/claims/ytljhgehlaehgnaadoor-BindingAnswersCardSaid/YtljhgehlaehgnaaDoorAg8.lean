/-
  The contract of slices.DeleteFunc over parts: all that are not those are left, in their order.
-/
import Derived.Test.YtljhgehlaehgnaaDoorAg7
import Derived.Deep.Cut
import Derived.Deep.DeepCutAuto
namespace Go.Proofs.YtljhgehlaehgnaaDoor
open Go.RowKit Go.Sort

/-- what is left -/
def kept (p : Ent → Bool) (L : List Ent) : List Ent := L.filter fun e => !p e
theorem kept_take (p : Ent → Bool) (L : List Ent) (j : Nat) (h : j < L.length) : kept p (L.take (j + 1)) = kept p (L.take j) ++ if p L[j] then [] else [L[j]] := by
  unfold kept
  rw [List.take_succ_eq_append_getElem h, List.filter_append]
  congr 1
  cases hp : p L[j] <;> simp [hp]
theorem kept_none (p : Ent → Bool) (L : List Ent) (h : ∀ e ∈ L, p e = false) : kept p L = L := List.filter_eq_self.2 fun e he => by rw [h e he]; rfl
theorem kept_len (p : Ent → Bool) (L : List Ent) : (kept p L).length ≤ L.length := List.length_filter_le _ _
/-- four cells in the middle of a row -/
theorem mid4 {w : World} {r o : Nat} {t : TypeId} {X Z : List Value} {a b c d : Value} (hX : X.length = o) (h : w.heap[r]? = some (.cells (X ++ a :: b :: c :: d :: Z).toArray t (0, 0))) :
    w.cell? ⟨r, o, none⟩ = some a ∧ w.cell? ⟨r, o + 1, none⟩ = some b ∧ w.cell? ⟨r, o + 2, none⟩ = some c ∧ w.cell? ⟨r, o + 3, none⟩ = some d ∧
    w.frozen? ⟨r, o, none⟩ = false ∧ w.frozen? ⟨r, o + 1, none⟩ = false ∧ w.frozen? ⟨r, o + 2, none⟩ = false ∧ w.frozen? ⟨r, o + 3, none⟩ = false := by
  subst hX
  refine ⟨?_, ?_, ?_, ?_, frozen_of_row w r _ _ _ h, frozen_of_row w r _ _ _ h, frozen_of_row w r _ _ _ h, frozen_of_row w r _ _ _ h⟩ <;>
    (rw [cell_of_row w r _ _ _ _ h, List.getElem?_toArray]; simp)
theorem put4 {w : World} {r o : Nat} {t : TypeId} {X Z : List Value} {a b c d a' b' c' d' : Value} (hX : X.length = o) (h : w.heap[r]? = some (.cells (X ++ a :: b :: c :: d :: Z).toArray t (0, 0))) :
    ((((w.setCell ⟨r, o, none⟩ a').setCell ⟨r, o + 1, none⟩ b').setCell ⟨r, o + 2, none⟩ c').setCell ⟨r, o + 3, none⟩ d').heap[r]? = some (.cells (X ++ a' :: b' :: c' :: d' :: Z).toArray t (0, 0)) := by
  subst hX
  rw [heap_setCell_same _ r (X.length + 3) _ t d' (heap_setCell_same _ r (X.length + 2) _ t c' (heap_setCell_same _ r (X.length + 1) _ t b' (heap_setCell_same _ r X.length _ t a' h)))]
  congr 2
  simp
theorem put4_grown (w : World) (r o : Nat) (a b c d : Value) : w.grownBy ((((w.setCell ⟨r, o, none⟩ a).setCell ⟨r, o + 1, none⟩ b).setCell ⟨r, o + 2, none⟩ c).setCell ⟨r, o + 3, none⟩ d) (some r) := by
  refine ⟨rfl, rfl, rfl, by simp [World.setCell], fun k _ hk => ?_⟩
  have hk' : k ≠ r := fun e => hk (by rw [e])
  rw [heap_setCell_other _ ⟨r, o + 3, none⟩ k _ hk', heap_setCell_other _ ⟨r, o + 2, none⟩ k _ hk', heap_setCell_other _ ⟨r, o + 1, none⟩ k _ hk', heap_setCell_other _ ⟨r, o, none⟩ k _ hk']
theorem grown_row {w w' : World} {r k : Nat} {o : Obj} (g : w.grownBy w' (some r)) (hk : k ≠ r) (h : w.heap[k]? = some o) : w'.heap[k]? = some o := (g.block k (lt_of_row h) (by simpa using hk)).trans h
set_option maxHeartbeats 1000000 in
set_option maxRecDepth 100000 in
theorem delf_hit (L : List Ent) (r cap b q n : Nat) (R : List Value) (p : Ent → Bool) (w : World) (hr : w.heap[r]? = some (.cells (cs L ++ R).toArray 100 (0, 0))) (hok : Oks L) (hn : L.length = n) (hc : n ≤ 4096) (hcap : n ≤ cap) (hm : cap ≤ maxLen) (hR : n * 4 + R.length = cap * 4)
    (hp : AsksPart b p (some r) w) (hq : q < n) (h1 : ∀ j (h : j < L.length), j < q → p (L[j]) = false) (h2 : ∀ h : q < L.length, p (L[q]) = true) :
    Calls Tryd.prog 45 #[.slice (some ⟨r, 0, none⟩) n cap, .func (.func 46) #[] #[.pointer (some ⟨b, 0, none⟩)]] w fun e w' => e = .returned (.slice (some ⟨r, 0, none⟩) (kept p L).length cap) ∧ w.grownBy w' (some r) ∧
      ∃ R' : List Value, w'.heap[r]? = some (.cells (cs (kept p L) ++ R').toArray 100 (0, 0)) ∧ R'.length = (n - (kept p L).length) * 4 + R.length := by
  have IX := hide (ixf_at L r cap b q (q : Int) p (some r) w (prow_of hr) hok (by omega) hp (by omega) h1 h2 (by rw [if_pos (by omega)]))
  rw [hn] at IX
  have hcm : cap ≤ 9223372036854775807 := by unfold maxLen at hm; omega
  have hq1 : ((q : Int) == -1) = false := beq_eq_false_iff_ne.2 (by omega)
  have K0 : Hid (kept p (L.take q) = L.take q) := hide (kept_none p _ fun e he => by
    obtain ⟨j, hj, rfl⟩ := List.mem_iff_getElem.1 he
    rw [List.length_take] at hj
    rw [List.getElem_take]
    exact h1 j (by omega) (by omega))
  have K1 : Hid (kept p (L.take (q + 1)) = L.take q) := hide (by rw [kept_take p L q (by omega), h2 (by omega), unhide K0]; simp)
  have HR := hide hr
  have HP := hide hp
  have HK := hide hok
  have HN := hide hn
  have HRl := hide hR
  clear hr h1 h2 hp hok hn hR
  go_enter Tryd.func45, Tryd.ntmps45
  go_wp2_with fail
  refine (unhide IX).mono ?_
  rintro e w0 ⟨rfl, b0⟩
  clear IX
  go_wp2_with fail
  go_loopw [5, 6, 7] (fun a c _ wr => ∃ (i j : Nat) (Y : List Value), a = .int .i64 i ∧ c = .int .i64 j ∧ j ≤ n ∧ i < j ∧ Hid ((kept p (L.take j)).length = i) ∧ Hid (Y.length = (j - i) * 4) ∧ w.grownBy wr (some r) ∧
      wr.heap[r]? = some (.cells (cs (kept p (L.take j)) ++ (Y ++ (cs (L.drop j) ++ R))).toArray 100 (0, 0))) (fun _ c _ _ => n - (intOf c).toNat)
  case atStart =>
    have hr := unhide HR
    refine ⟨q, q + 1, (cs L).drop (q * 4) |>.take 4, rfl, by go_num, by omega, by omega, hide ?_, hide ?_, grown_of b0 _, ?_⟩
    · rw [unhide K1, List.length_take, unhide HN]; omega
    · rw [List.length_take, List.length_drop, cs_length, unhide HN]; omega
    · rw [Below.row b0 hr, unhide K1]
      congr 3
      rw [← List.append_assoc, ← List.append_assoc, ← cs_take, ← cs_drop]
      congr 1
      have e : (q + 1) * 4 = q * 4 + 4 := by omega
      rw [e, List.append_assoc, ← List.drop_drop, List.take_append_drop, List.take_append_drop]
  case round =>
    obtain ⟨i, j, Y, rfl, rfl, hjn, hij, hKl, hYl, hg, hrow⟩ := hrel
    have HG := hide hg
    clear hg
    by_cases hlt : j < n
    · have hjL : j < L.length := by rw [unhide HN]; exact hlt
      have hd : L.drop j = L[j] :: L.drop (j + 1) := (List.getElem_cons_drop hjL).symm
      have hkt := kept_take p L j hjL
      have C1 := hide (fun W (h : w.grownBy W (some r)) => (unhide HP) W (L[j]) ((unhide HK) _ (List.getElem_mem _)) h)
      rw [hd, cs_cons] at hrow
      generalize hE : L[j] = E at hrow hkt C1
      have hoff : (cs (kept p (L.take j)) ++ Y).length = j * 4 := by rw [List.length_append, cs_length, unhide hKl, unhide hYl]; omega
      have hm4 := mid4 (r := r) (o := j * 4) (t := 100) (X := cs (kept p (L.take j)) ++ Y) (Z := cs (L.drop (j + 1)) ++ R) (a := .int .u64 E.key) (b := .int .u64 E.val) (c := .int .i64 E.at_) (d := .bool E.fix) (w := wr) hoff
        (by rw [hrow]; simp [Ent.cs])
      have e0 := hm4.1
      have e1 := hm4.2.1
      have e2 := hm4.2.2.1
      have e3 := hm4.2.2.2.1
      have hjc : j < cap := by omega
      have HROW := hide hrow
      have HOFF := hide hoff
      have RV := hide (heap_alloc_new wr (.cells #[.int .u64 E.key, .int .u64 E.val, .int .i64 E.at_, .bool E.fix] 100))
      have BV := hide (alloc_below wr (.cells #[.int .u64 E.key, .int .u64 E.val, .int .i64 E.at_, .bool E.fix] 100))
      have C2 := hide (unhide C1 _ (grown_trans (unhide HG) (grown_of (unhide BV) _)))
      unfold Ent.part at C2
      clear hm4 hrow hoff hd hE C1
      by_cases hpE : p E = true
      · rw [hpE] at C2
        have HKT := hide (by rw [hkt, hpE]; simp : kept p (L.take (j + 1)) = kept p (L.take j))
        clear hkt hpE
        go_wp2_with fail
        refine (unhide C2).mono ?_
        rintro e w3 ⟨rfl, b3⟩
        have hb3 := bthen (unhide BV) b3
        have R3 := hide (Below.row hb3 (unhide HROW))
        have G3 := hide (grown_trans (unhide HG) (grown_of hb3 _))
        clear b3 hb3 e0 e1 e2 e3 C2 RV BV
        go_wp2_with fail
        go_roundw
        case rel =>
          refine ⟨i, j + 1, Y ++ E.cs, rfl, by go_num, by omega, by omega, hide (by rw [unhide HKT]; exact unhide hKl), hide (by rw [List.length_append, unhide hYl]; simp [Ent.cs]; omega), unhide G3, ?_⟩
          rw [unhide R3, unhide HKT]
          simp
        case measure => simp [intOf]; omega
      · have hpF : p E = false := by simpa using hpE
        rw [hpF] at C2
        have HKT := hide (by rw [hkt, hpF]; simp : kept p (L.take (j + 1)) = kept p (L.take j) ++ [E])
        clear hkt hpE hpF
        obtain ⟨y0, y1, y2, y3, Y', hY⟩ : ∃ y0 y1 y2 y3 Y', Y = y0 :: y1 :: y2 :: y3 :: Y' := by
          have := unhide hYl
          match Y, this with
          | [], h => simp at h; omega
          | [_], h => simp at h; omega
          | [_, _], h => simp at h; omega
          | [_, _, _], h => simp at h; omega
          | y0 :: y1 :: y2 :: y3 :: Y', _ => exact ⟨y0, y1, y2, y3, Y', rfl⟩
        have HY := hide hY
        clear hY
        go_wp2_with fail
        refine (unhide C2).mono ?_
        rintro e w3 ⟨rfl, b3⟩
        have hb3 := bthen (unhide BV) b3
        have r3 : w3.heap[r]? = some (.cells (cs (kept p (L.take j)) ++ y0 :: y1 :: y2 :: y3 :: (Y' ++ (E.cs ++ cs (L.drop (j + 1)) ++ R))).toArray 100 (0, 0)) := by
          rw [Below.row hb3 (unhide HROW), unhide HY]; simp
        have hX : (cs (kept p (L.take j))).length = i * 4 := by rw [cs_length, unhide hKl]
        have hm4 := mid4 hX r3
        have R3 := hide (put4 (a' := .int .u64 E.key) (b' := .int .u64 E.val) (c' := .int .i64 E.at_) (d' := .bool E.fix) hX r3)
        have G3 := hide (grown_trans (grown_trans (unhide HG) (grown_of hb3 _)) (put4_grown w3 r (i * 4) (.int .u64 E.key) (.int .u64 E.val) (.int .i64 E.at_) (.bool E.fix)))
        have rv := cells4 (Below.row b3 (unhide RV))
        have hic : i < n := by omega
        clear b3 hb3 e0 e1 e2 e3 C2 RV BV r3 hX
        go_wp2_with fail
        go_roundw
        case rel =>
          refine ⟨i + 1, j + 1, Y' ++ E.cs, by go_num, by go_num, by omega, by omega, hide (by rw [unhide HKT, List.length_append, unhide hKl]; rfl), hide ?_, unhide G3, ?_⟩
          · have := unhide hYl
            rw [unhide HY] at this
            simp [Ent.cs] at this ⊢
            omega
          · rw [unhide R3, unhide HKT, cs_append]
            simp [cs, Ent.cs]
        case measure => simp [intOf]; omega
    · obtain rfl : j = n := by omega
      have hnk : L.take j = L := List.take_of_length_le (by rw [unhide HN]; exact Nat.le_refl _)
      have hnd : L.drop j = [] := List.drop_eq_nil_of_le (by rw [unhide HN]; exact Nat.le_refl _)
      rw [hnk] at hKl
      rw [hnk, hnd] at hrow
      simp only [cs_nil, List.nil_append] at hrow
      obtain ⟨Z, hZ⟩ : ∃ Z, (Builtin.zeroCells #[.int .u64 0, .int .u64 0, .int .i64 0, .bool false] (j - i)).toList = Z := ⟨_, rfl⟩
      have hZl : Z.length = (j - i) * 4 := by rw [← hZ, Array.length_toList, size_zeroCells]; rfl
      have hZo : ∀ u ∈ Z, u.oneCell' = true := by rw [← hZ]; exact zeros_oneCell _
      have hX : (cs (kept p L)).length = i * 4 := by rw [cs_length, unhide hKl]
      have hcl := fun ty c => run_clear_k (P := Tryd.prog) wr 76 100 ty _ Tryd.underlying76 Tryd.zeroValue100 r (i * 4) (j - i) c (by omega) _ _ hrow Z hZ hZo (by rw [List.size_toArray, List.length_append, List.length_append, hX, hZl, unhide hYl]; omega)
      have hr3 : (wr.setRow r ((cs (kept p L) ++ (Y ++ R)).toArray.toList.take (i * 4) ++ Z ++ (cs (kept p L) ++ (Y ++ R)).toArray.toList.drop (i * 4 + Z.length)).toArray).heap[r]? = some (.cells (cs (kept p L) ++ (Z ++ R)).toArray 100 (0, 0)) := by
        rw [setRow_heap wr r _ _ _ _ hrow]
        congr 2
        rw [List.toList_toArray, ← hX, List.take_left, List.drop_append, List.drop_eq_nil_of_le (by omega), List.append_assoc, List.nil_append, Nat.add_sub_cancel_left, hZl, ← unhide hYl, List.drop_left]
      have hg3 := hide (grown_trans (unhide HG) (setRow_grown wr r ((cs (kept p L) ++ (Y ++ R)).toArray.toList.take (i * 4) ++ Z ++ (cs (kept p L) ++ (Y ++ R)).toArray.toList.drop (i * 4 + Z.length)).toArray))
      have hr3' := hide hr3
      have hic : ¬ (cap = i) := by omega
      have hic2 : i ≤ cap := by omega
      have hin : i ≤ j := by omega
      clear hrow hr3 hX
      generalize wr.setRow r _ = w2 at *
      go_wp2_with fail
      go_ret
      refine ⟨by rw [unhide hKl]; rfl, unhide hg3, _, unhide hr3', ?_⟩
      rw [List.length_append, hZl, unhide hKl]
end Go.Proofs.YtljhgehlaehgnaaDoor
