/-
  What a table holds, and the contracts of ordered's find, get and size: a key's place, and what stands for it; nothing that was there has turned.
-/
import Derived.Test.YtljhgehlaehgnaaDoorAg2
namespace Go.Proofs.YtljhgehlaehgnaaDoor
open Go.RowKit Go.Sort

/-- where a key stands, or would -/
structure Spot (L : List Ent) (key : Int) (p : Nat) (is : Bool) : Prop where
  le : p ≤ L.length
  low : ∀ j (h : j < L.length), j < p → (L[j]).key < key
  high : ∀ j (h : j < L.length), p ≤ j → key ≤ (L[j]).key
  hit : is = true ↔ ∃ h : p < L.length, (L[p]).key = key
theorem spot_some {A B : List Ent} {e : Ent} {key : Int} (hk : e.key = key) (hA : ∀ x ∈ A, x.key < key) (hB : ∀ x ∈ B, key < x.key) : Spot (A ++ e :: B) key A.length true := by
  refine ⟨by simp, ?_, ?_, ?_⟩
  · intro j h hj
    rw [List.getElem_append_left hj]
    exact hA _ (List.getElem_mem _)
  · intro j h hj
    rw [List.getElem_append_right hj]
    rcases Nat.eq_or_lt_of_le hj with rfl | hj
    · simp [hk]
    · have : 0 < j - A.length := by omega
      obtain ⟨m, hm⟩ : ∃ m, j - A.length = m + 1 := ⟨j - A.length - 1, by omega⟩
      simp only [hm, List.getElem_cons_succ]
      exact Int.le_of_lt (hB _ (List.getElem_mem _))
  · simp [hk]
theorem spot_none {A B : List Ent} {key : Int} (hA : ∀ x ∈ A, x.key < key) (hB : ∀ x ∈ B, key < x.key) : Spot (A ++ B) key A.length false := by
  refine ⟨by simp, ?_, ?_, ?_⟩
  · intro j h hj
    rw [List.getElem_append_left hj]
    exact hA _ (List.getElem_mem _)
  · intro j h hj
    rw [List.getElem_append_right hj]
    exact Int.le_of_lt (hB _ (List.getElem_mem _))
  · constructor
    · intro h; cases h
    · rintro ⟨h, e⟩
      rw [List.getElem_append_right (Nat.le_refl _)] at e
      have := hB _ (List.getElem_mem (l := B) (n := A.length - A.length) (by rw [List.length_append] at h; omega))
      omega
/-- the parts that a slice owns, in memory from block B on -/
def Own (B : Nat) (w : World) (v : Value) (L : List Ent) : Prop := w.ownsRow B 100 4 v L.length (cs L)
theorem Own.parts {B : Nat} {w : World} {v : Value} {L : List Ent} (h : Own B w v L) :
    (v = .slice none 0 0 ∧ L = []) ∨ ∃ r cap R, v = .slice (some ⟨r, 0, none⟩) L.length cap ∧ B ≤ r ∧ w.heap[r]? = some (.cells (cs L ++ R).toArray 100 (0, 0)) ∧ L.length ≤ cap ∧ cap ≤ maxLen ∧ L.length * 4 + R.length = cap * 4 := by
  obtain ⟨hl, ⟨rfl, h0⟩ | ⟨r, cap, cur, rfl, hB, hr, h1, h2, h3, h4⟩⟩ := h
  · exact .inl ⟨rfl, List.length_eq_zero_iff.1 h0⟩
  · refine .inr ⟨r, cap, cur.toList.drop (L.length * 4), rfl, hB, ?_, h1, h2, ?_⟩
    · rw [hr]
      congr
      rw [← h4, List.take_append_drop]
    · have hc : cur.toList.length = cap * 4 := by simpa using h3
      rw [List.length_drop, hc]
      have := Nat.mul_le_mul_right 4 h1
      omega
theorem own_of {B : Nat} {w : World} {L : List Ent} {r cap : Nat} {R : List Value} (hB : B ≤ r) (hr : w.heap[r]? = some (.cells (cs L ++ R).toArray 100 (0, 0))) (h1 : L.length ≤ cap) (h2 : cap ≤ maxLen) (h3 : L.length * 4 + R.length = cap * 4) :
    Own B w (.slice (some ⟨r, 0, none⟩) L.length cap) L := by
  refine ⟨cs_length L, .inr ⟨r, cap, _, rfl, hB, hr, h1, h2, ?_, ?_⟩⟩
  · simp [cs_length]; omega
  · rw [List.take_append_of_le_length (by rw [cs_length]; exact Nat.le_refl _), List.take_of_length_le (by rw [cs_length]; exact Nat.le_refl _)]
theorem row_at {w : World} {r : Nat} {L : List Ent} {R : List Value} (hr : w.heap[r]? = some (.cells (cs L ++ R).toArray 100 (0, 0))) (j : Nat) (h : j < L.length) (t : Nat) (ht : t < 4) : w.cell? ⟨r, j * 4 + t, none⟩ = (L[j]).cs[t]? := by
  rw [cell_of_row w r (j * 4 + t) _ _ _ hr, List.getElem?_toArray, List.getElem?_append_left (by rw [cs_length]; omega), cs_get L j h t ht]
theorem prow_of {w : World} {r : Nat} {L : List Ent} {R : List Value} (hr : w.heap[r]? = some (.cells (cs L ++ R).toArray 100 (0, 0))) : Prow w r L :=
  ⟨fun j h => row_at hr j h 0 (by omega), fun j h => row_at hr j h 1 (by omega), fun j h => row_at hr j h 2 (by omega), fun j h => row_at hr j h 3 (by omega)⟩
theorem Own.below {B : Nat} {w w' : World} {v : Value} {L : List Ent} (h : Own B w v L) (b : Below w.heap.size w w') : Own B w' v L := by
  obtain ⟨hl, hx | ⟨k, cap, cur, rfl, h1, h2, h3, h4, h5, h6⟩⟩ := h
  · exact ⟨hl, .inl hx⟩
  · exact ⟨hl, .inr ⟨k, cap, cur, rfl, h1, Below.row b h2, h3, h4, h5, h6⟩⟩
theorem find_at (B : Nat) (L : List Ent) (v : Value) (g o p : Nat) (key : Int) (is : Bool) (w : World) (hv : w.cell? ⟨g, o, none⟩ = some v) (ho : Own B w v L) (hc : L.length ≤ 4096) (hp : Spot L key p is) :
    Calls Tryd.prog 34 #[.pointer (some ⟨g, o, none⟩), .int .u64 key] w fun e w' => e = .returned (.tuple #[.int .i64 (p : Int), .bool is]) ∧ Below w.heap.size w w' := by
  have C : Hid (Calls Tryd.prog 42 #[v, .int .u64 key, .func (.func 43) #[] #[]] w fun e w' => e = .returned (.tuple #[.int .i64 (p : Int), .bool is]) ∧ Below w.heap.size w w') := by
    rcases ho.parts with ⟨hn, rfl⟩ | ⟨r, cap, R, rfl, _, hr, _⟩
    · have e1 : p = 0 := by have := hp.le; simpa using this
      have e2 : is = false := by
        cases is
        · rfl
        · obtain ⟨h, _⟩ := hp.hit.1 rfl
          simp at h
      subst e1 e2
      exact bsf_nil v key w hn
    · exact bsf_at L r cap p key is w (prow_of hr) hc hp.le hp.low hp.high hp.hit
  clear ho hp
  go_enter Tryd.func34, Tryd.ntmps34
  go_wp2_with fail
  refine (unhide C).mono ?_
  rintro e w2 ⟨rfl, b2⟩
  go_wp2_with fail
  go_ret2
  exact ⟨rfl, b2⟩
/-- a state's value -/
def Ent.st (e : Ent) : Value := .agg #[.int .u64 e.val, .int .i64 e.at_, .bool e.fix]
theorem get_some (B : Nat) (L : List Ent) (v : Value) (g o : Nat) (key : Int) (x : Ent) (w : World) (hv : w.cell? ⟨g, o, none⟩ = some v) (ho : Own B w v L) (hc : L.length ≤ 4096) (hs : Srt L) (hx : look L key = some x) :
    Calls Tryd.prog 25 #[.pointer (some ⟨g, o, none⟩), .int .u64 key] w fun e w' => e = .returned (.tuple #[x.st, .bool true]) ∧ Below w.heap.size w w' := by
  obtain ⟨A, D, rfl, hk, hA, hD⟩ := look_some hs hx
  rcases ho.parts with ⟨_, h⟩ | ⟨r, cap, R, rfl, _, hr, hcap, _⟩
  · simp at h
  have hvg : g < w.heap.size := block_lt_of_cell hv
  have hrw := lt_of_row hr
  have P := hide (prow_of hr)
  have hl : A.length < (A ++ x :: D).length := by simp
  have hlc : (A.length : Int) < cap := by omega
  have hx : (A ++ x :: D)[A.length] = x := by simp
  have F := hide (fun W (h : Below w.heap.size w W) => find_at B _ _ g o A.length key true W ((h.cell (p := ⟨g, o, none⟩) hvg).trans hv) (ho.below h) hc (spot_some hk hA hD))
  have HV := hide hv
  clear hv ho hr hc hs
  unfold Ent.st
  generalize hLL : (A ++ x :: D) = L at *
  go_enter Tryd.func25, Tryd.ntmps25
  go_wp2_with fail
  refine (unhide F _ (alloc_below _ _)).mono ?_
  rintro e w2 ⟨rfl, b2⟩
  have hb2 := bthen (alloc_below _ _) b2
  have r2 := Below.row b2 (heap_alloc_new w (.cells #[.int .u64 0, .int .i64 0, .bool false] 86))
  have hv2 := (hb2.cell (p := ⟨g, o, none⟩) hvg).trans (unhide HV)
  have P2 := (unhide P).below hb2
  have e1 := P2.at1 A.length hl
  have e2 := P2.at2 A.length hl
  have e3 := P2.at3 A.length hl
  rw [hx] at e1 e2 e3
  have R2 := hide r2
  have hS := hide hb2
  have hf := cells3 r2
  clear P2 P HV F b2 hb2
  go_wp2_with fail
  refine bodyPost_ret (v := .tuple #[.agg #[.int .u64 x.val, .int .i64 x.at_, .bool x.fix], .bool true]) ?_ rfl ⟨rfl, below3 (unhide hS) (Nat.le_refl _)⟩
  exact results_row2 rfl _ _ w.heap.size 86 _ _ _ _ rfl rfl (set3 (unhide R2)) Tryd.underlying86 rfl (by kernel_rfl)
theorem get_none (B : Nat) (L : List Ent) (v : Value) (g o : Nat) (key : Int) (w : World) (hv : w.cell? ⟨g, o, none⟩ = some v) (ho : Own B w v L) (hc : L.length ≤ 4096) (hs : Srt L) (hx : look L key = none) :
    Calls Tryd.prog 25 #[.pointer (some ⟨g, o, none⟩), .int .u64 key] w fun e w' => e = .returned (.tuple #[.agg #[.int .u64 0, .int .i64 0, .bool false], .bool false]) ∧ Below w.heap.size w w' := by
  obtain ⟨A, D, rfl, hA, hD⟩ := look_none hs hx
  have hvg : g < w.heap.size := block_lt_of_cell hv
  have F := hide (fun W (h : Below w.heap.size w W) => find_at B _ _ g o A.length key false W ((h.cell (p := ⟨g, o, none⟩) hvg).trans hv) (ho.below h) hc (spot_none hA hD))
  clear hv ho hc hs
  go_enter Tryd.func25, Tryd.ntmps25
  go_wp2_with fail
  refine (unhide F _ (alloc_below _ _)).mono ?_
  rintro e w2 ⟨rfl, b2⟩
  have hb2 := bthen (alloc_below _ _) b2
  have r2 := Below.row b2 (heap_alloc_new w (.cells #[.int .u64 0, .int .i64 0, .bool false] 86))
  have hb3 := alloc_then (o := .cells #[.int .u64 0, .int .i64 0, .bool false] 86) hb2
  have r3 := Below.row (alloc_below w2 (.cells #[.int .u64 0, .int .i64 0, .bool false] 86)) r2
  have r4 := heap_alloc_new w2 (.cells #[.int .u64 0, .int .i64 0, .bool false] 86)
  have R3 := hide r3
  have hS := hide hb3
  have hf := cells3 r3
  have hf4 := cells3 r4
  clear F b2 hb2 hb3
  go_wp2_with fail
  refine bodyPost_ret (v := .tuple #[.agg #[.int .u64 0, .int .i64 0, .bool false], .bool false]) ?_ rfl ⟨rfl, below3 (unhide hS) (Nat.le_refl _)⟩
  exact results_row2 rfl _ _ w.heap.size 86 _ _ _ _ rfl rfl (set3 (unhide R3)) Tryd.underlying86 rfl (by kernel_rfl)
end Go.Proofs.YtljhgehlaehgnaaDoor
