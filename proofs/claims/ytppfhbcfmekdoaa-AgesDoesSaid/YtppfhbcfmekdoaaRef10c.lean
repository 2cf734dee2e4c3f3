/-
  Lists that the document's calls make anew, entry by entry; the contracts of gangwayref10's without.
-/
import Derived.Test.YtppfhbcfmekdoaaRef10b
namespace Go.Proofs.Ytppfhbcfmekdoaa
open Go.RowKit Go.Sort

/-- a list made since w -/
def Acc (w W : World) (V : Value) (N : List Ent) : Prop := Tells w.heap.size W V N ∧ Below w.heap.size w W
theorem acc_new {w W : World} (b : Below w.heap.size w W) : Acc w (W.alloc (.cells #[] 41)) (.slice (some ⟨W.heap.size, 0, none⟩) 0 0) [] :=
  ⟨World.ownsRow_made W #[] 0 b.size (by unfold maxLen; omega) rfl, alloc_then b⟩
theorem Acc.below {w W W' : World} {V : Value} {N : List Ent} (h : Acc w W V N) (b : Below W.heap.size W W') : Acc w W' V N := ⟨owns_below h.1 b, bthen h.2 b⟩
theorem tells_shape {B n : Nat} {V : Value} {xs : List Value} {W : World} (h : W.ownsRow B 41 4 V n xs) (hn : ¬ V = .slice none 0 0) : ∃ r c, V = .slice (some ⟨r, 0, none⟩) n c := by
  obtain ⟨_, ⟨rfl, _⟩ | ⟨k, cap, cur, rfl, _⟩⟩ := h
  · exact absurd rfl hn
  · exact ⟨k, cap, rfl⟩
/-- an entry appended to such a list -/
theorem wp_app {ops : Array Oper} {rest : List Oper} {o : Oper} {a : Act} {Q : Exit → Act → World → Prop} (hgd : o.guard = none) (s x : Operand)
    (ho : o.op = .call { callee := .builtin .append, args := #[s, x], argTypes := #[37, 37] }) (w W : World) (v : Value) (n : Nat) (N : List Ent) (E : Ent) (hn : N.length = n) (hs : a.eval s = v) (hacc : Acc w W v N)
    (hx : a.eval x = .slice (some ⟨W.heap.size, 0, none⟩) 1 1) (hl : n ≤ 4096)
    (h : ∀ r c W', Hid (Acc w W' (.slice (some ⟨r, 0, none⟩) (n + 1) c) (N ++ [E])) → wpList Try.prog ops Q rest (a.put o.dst (.slice (some ⟨r, 0, none⟩) (n + 1) c)) W') :
    wpList Try.prog ops Q (o :: rest) a (W.alloc (.cells #[.int .u64 E.key, .int .u64 E.val, .int .i64 E.at_, .bool E.fix] 41)) := by
  obtain ⟨i0, hi0, hz0, hz1, hz2⟩ := info_parts Try.infoEntry
  subst hn
  have hb := alloc_below W (.cells #[.int .u64 E.key, .int .u64 E.val, .int .i64 E.at_, .bool E.fix] 41)
  have hacc' := hacc.below hb
  refine wpList_append_own_at _ hgd s x 37 ho w.heap.size 41 i0 _ 4 32 Try.underlying37 hi0 hz0 hz1 hz2 rfl (by decide) v N.length (cs N) hs hacc'.1 ⟨W.heap.size, 0, none⟩ 1 1 E.cs hx rfl (src4e W E) (cs4_one E) (by unfold maxLen; omega) (by omega) hacc'.2.size ?_
  intro v' w' ho' hg hnil _
  obtain ⟨r, c, rfl⟩ := tells_shape ho' (fun e => by have := (hnil.1 e).2; omega)
  refine h r c w' ⟨?_, ?_⟩
  · show World.ownsRow _ _ _ _ _ _ _
    rw [List.length_append, cs_append, cs_one]
    exact ho'
  · exact hacc'.2.grown hg hacc'.2.size (fun k hk => (World.ownsRow.lt hacc'.1 k hk).1)
theorem erase_out {A D : List Ent} {x : Ent} {k : Nat} (h : k < (A ++ x :: D).length) : ((A ++ x :: D).take (k + 1)).eraseIdx A.length = if k = A.length then ((A ++ x :: D).take k).eraseIdx A.length else ((A ++ x :: D).take k).eraseIdx A.length ++ [(A ++ x :: D)[k]] := by
  rw [List.take_succ_eq_append_getElem h]
  have hl : ((A ++ x :: D).take k).length = k := by rw [List.length_take]; omega
  split
  · next e =>
    subst e
    rw [List.eraseIdx_append_of_length_le (by omega), hl, Nat.sub_self, List.eraseIdx_of_length_le (l := List.take A.length (A ++ x :: D)) (by omega)]
    simp
  · next e =>
    rcases Nat.lt_or_ge k A.length with hk | hk
    · rw [List.eraseIdx_append_of_length_le (by omega), hl, List.eraseIdx_of_length_le (l := List.take k (A ++ x :: D)) (by omega), List.eraseIdx_of_length_le (by simp; omega)]
    · rw [List.eraseIdx_append_of_lt_length (by omega)]
theorem erase_all {A D : List Ent} {x : Ent} : (A ++ x :: D).eraseIdx A.length = A ++ D := by
  rw [List.eraseIdx_append_of_length_le (Nat.le_refl _)]; simp
theorem uniq_out {A D : List Ent} {x : Ent} (h : Uniq (A ++ x :: D)) : Uniq (A ++ D) := List.Pairwise.sublist (by simp) h
theorem oks_out {A D : List Ent} {x : Ent} (h : Oks (A ++ x :: D)) : Oks (A ++ D) := fun e he => h e (by simp at he ⊢; rcases he with h | h <;> simp [h])
set_option maxHeartbeats 1000000 in
set_option maxRecDepth 100000 in
theorem rwithout_any (B : Nat) (A D : List Ent) (x : Ent) (v : Value) (g : Nat) (room life : Int) (w : World) (T : RTab B w g room life v (A ++ x :: D)) :
    Calls Try.prog 51 #[.pointer (some ⟨g, 0, none⟩), .int .i64 (A.length : Int)] w fun e w' => e = .returned (.tuple #[]) ∧ RTurned B g room life v (A ++ D) w w' := by
  have fin := hide (fun W V (h : Acc w W V (A ++ D)) => rturned_new T h.2 h.1 (uniq_out T.uniq) (oks_out T.oks) (by have := T.fit; simp at this ⊢; omega))
  obtain ⟨ao, cap, rfl, hc, hrr⟩ := T.own.rrow
  have hgl := T.lt
  have hl := T.len
  have HR := hide hrr
  have hcx := hide T.cells.1
  have hfz := hide (fun W (b : Below w.heap.size w W) => (cells3 (Below.row b T.row)).2.2.2.1)
  have A0 := hide (acc_new (Below.refl w.heap.size w))
  have ER := hide (fun k h => erase_out (A := A) (D := D) (x := x) (k := k) h)
  have EA := hide (erase_all (A := A) (D := D) (x := x))
  have hal : A.length < (A ++ x :: D).length := by simp
  clear T hrr
  generalize hM : A ++ x :: D = M at *
  generalize hq : A.length = q at *
  generalize A ++ D = N at *
  clear hM hq
  go_enter Try.func51, Try.ntmps51
  go_wp2_with fail
  go_loopw [4, 5] (fun V a wr => ∃ (k r c m : Nat), a = .int .i64 k ∧ k ≤ M.length ∧ V = .slice (some ⟨r, 0, none⟩) m c ∧ Hid (((M.take k).eraseIdx q).length = m ∧ Acc w wr (.slice (some ⟨r, 0, none⟩) m c) ((M.take k).eraseIdx q))) (fun _ a _ => M.length - (intOf a).toNat)
  case atStart => exact ⟨0, _, 0, 0, rfl, Nat.zero_le _, rfl, hide ⟨by simp, by simpa using unhide A0⟩⟩
  case round =>
    obtain ⟨k, r, c, m, rfl, hkl, rfl, hacc⟩ := hrel
    have hb := (unhide hacc).2.2
    have hc0 := (hb.cell (p := ⟨g, 0, none⟩) hgl).trans (unhide hcx)
    by_cases hlt : k < M.length
    · obtain ⟨ra, rfl, hra, hp⟩ := ((unhide HR).below hb).2 (by omega)
      have e0 := hp.at0 k hlt
      have e1 := hp.at1 k hlt
      have e2 := hp.at2 k hlt
      have e3 := hp.at3 k hlt
      have HT := hide (unhide ER k hlt)
      clear hp hb A0
      generalize M[k] = E at e0 e1 e2 e3 HT
      by_cases hkq : k = q
      · have HT2 := hide ((unhide HT).trans (if_pos hkq))
        subst hkq
        clear HT e0 e1 e2 e3
        go_wp2_with fail
        go_roundw
        case rel => exact ⟨k + 1, r, c, m, by go_num, by omega, rfl, by rw [unhide HT2]; exact hacc⟩
        case measure => simp [intOf]; omega
      · have HT2 := hide ((unhide HT).trans (if_neg hkq))
        have hd : decide ((k : Int) = (q : Int)) = false := decide_eq_false (by omega)
        have hm : m ≤ 4096 := by
          have h1 := (unhide hacc).1
          have h2 := List.length_eraseIdx_le (l := M.take k) (i := q)
          have h3 : (M.take k).length = k := by rw [List.length_take]; omega
          omega
        clear HT
        go_wp2_with (at_builtin; refine wp_app rfl (.tmp 19) (.tmp 27) rfl w wr _ m _ E (unhide hacc).1 rfl (unhide hacc).2 rfl hm ?_; intro r3 c3 W3 H3)
        go_roundw
        case rel => exact ⟨k + 1, r3, c3, m + 1, by go_num, by omega, rfl, by rw [unhide HT2]; exact hide ⟨by rw [List.length_append, (unhide hacc).1]; rfl, unhide H3⟩⟩
        case measure => simp [intOf]; omega
    · obtain rfl : k = M.length := by omega
      have hf0 := unhide hfz wr hb
      have F := hide (unhide fin wr _ (by have h := (unhide hacc).2; rw [List.take_of_length_le (Nat.le_refl _), unhide EA] at h; exact h))
      clear A0 hb
      go_wp2_with fail
      go_end0
      exact ⟨rfl, unhide F⟩
end Go.Proofs.Ytppfhbcfmekdoaa
