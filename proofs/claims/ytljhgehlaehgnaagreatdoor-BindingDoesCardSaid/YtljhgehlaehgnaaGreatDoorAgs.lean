/-
  The contracts of cmp.Compare at keys, of the search's own comparison, of slices.BinarySearchFunc over parts by rising keys, and of ordered's find: where a key stands, and whether it does; nothing that was there has turned.
  The contract of slices.BinarySearchFunc over parts by rising keys: how many stand ahead of a key, and whether the next one is the key's.
  What a table holds, and the contracts of ordered's find, get and size: a key's place, and what stands for it; nothing that was there has turned.
  Laws of no program: copy and clear over elements of more cells than one, in a row that is known whole; an append where there is room, as a step of a region that draws. And the contract of slices.Delete over parts: one part is taken out.
  The contract of slices.Delete over parts: one part is taken out.
  What a table holds; what a call on it has turned; and the contract of ordered's drop: a key's part is taken out, if there is one.
  The contracts of dropAll's own closure (it asks the one that it has captured) and of slices.IndexFunc over parts with it: the first part whose state is one of those.
  The contract of slices.DeleteFunc over parts: all that are not those are left, in their order.
  The contracts of ages' small functions: is a number a time, is a state old, may it go, was it put ahead of another one, a state's entry; and of the closures of Expire and Clear.
  The contracts of ordered's dropAll, and of Table's Clear and Expire: all of those are taken out, and how many.
  The contracts of Table's Clear, Expire, Drop, Get and of New.
  The contract of Table's Get: a key's entry, unless it is old.
  Laws of no program: a copy over elements of more cells than one, as a step of a walk. And the contract of slices.Insert of one part: at the end, where there is room, and where there is none.
  The contract of slices.Insert of one part in the middle, where there is room.
  The contract of slices.Insert of one part in the middle, where there is no room.
  The contract of slices.Insert of one part, whatever the row; and of ordered's set: an entry stands for a key.
  The contracts of ordered's first (the entry that was put longest ago, of those that are not fixed) and size.
  The contracts of Table's makeRoom, note, Put and Fix.
  The contracts of Table's note, Put and Fix.
  The contracts of Table's Put and Fix.
  The contract of Table's Entries: all entries, by rising keys, in memory of the call's own.
  The contracts of slices.Clone of parts, ordered's copied and Table's Copy: another one in the same state, in memory of its own.
  More plain facts on entries: what stands for a key, what an insertion and a deletion leave, which one goes for another one. No program is named here.
  Which entry goes for another one: the one that was put longest ago, of several the one with the least key. No program is named here but in what it imports.
  A table that a call has made: what it holds now; what else stays. The contracts of Table's calls, said so.
-/
import Derived.Test.YtljhgehlaehgnaaGreatDoorAgPlain
import Derived.Test.YtljhgehlaehgnaaGreatDoorKit10
import Derived.Laws.CopyOwn
import Derived.Shelf.RegionOpenPlain
import Derived.Lib.SliceRun
import Derived.Shelf.Abstract
import Derived.Deep.Cut
import Derived.Deep.DeepCutAuto
import Derived.Lib.Overlaps
import Derived.Lib.AppendZerosOnto
import Derived.Maps.AppendAt
import Derived.Deep.RegionHeld3
namespace Go.Proofs.YtljhgehlaehgnaaGreatDoor
open Go.RowKit Go.Sort

theorem cmp_any (a b : Int) (w : World) : Calls Tryz.prog 58 #[.int .u64 a, .int .u64 b] w fun e w' => e = .returned (.int .i64 (cmpI a b)) ∧ w' = w := by
  unfold cmpI
  by_cases h1 : a < b
  · rw [if_pos h1]
    go_enter Tryz.func58, Tryz.ntmps58
    go_wp2
    go_ret
    exact ⟨rfl, rfl⟩
  · rw [if_neg h1]
    by_cases h2 : b < a
    · rw [if_pos h2]
      go_enter Tryz.func58, Tryz.ntmps58
      go_wp2
      go_ret
      exact ⟨rfl, rfl⟩
    · rw [if_neg h2]
      go_enter Tryz.func58, Tryz.ntmps58
      go_wp2
      go_ret
      exact ⟨rfl, rfl⟩
theorem fcl_any (k v t key : Int) (f : Bool) (w : World) : Calls Tryz.prog 57 #[.agg #[.int .u64 k, .int .u64 v, .int .i64 t, .bool f], .int .u64 key] w fun e w' => e = .returned (.int .i64 (cmpI k key)) ∧ Below w.heap.size w w' := by
  have C := hide (fun W => cmp_any k key W)
  generalize cmpI k key = c at C ⊢
  go_enter Tryz.func57, Tryz.ntmps57
  go_wp2_with fail
  refine (unhide C _).mono ?_
  rintro e w1 ⟨rfl, rfl⟩
  go_wp2_with fail
  go_ret
  exact ⟨rfl, alloc_below _ _⟩
end Go.Proofs.YtljhgehlaehgnaaGreatDoor
namespace Go.Proofs.YtljhgehlaehgnaaGreatDoor
open Go.RowKit Go.Sort

/-- parts in a row of their own, from a block's head on -/
structure Prow (w : World) (r : Nat) (L : List Ent) : Prop where
  at0 : ∀ j (h : j < L.length), w.cell? ⟨r, j * 4, none⟩ = some (.int .u64 (L[j]).key)
  at1 : ∀ j (h : j < L.length), w.cell? ⟨r, j * 4 + 1, none⟩ = some (.int .u64 (L[j]).val)
  at2 : ∀ j (h : j < L.length), w.cell? ⟨r, j * 4 + 2, none⟩ = some (.int .i64 (L[j]).at_)
  at3 : ∀ j (h : j < L.length), w.cell? ⟨r, j * 4 + 3, none⟩ = some (.bool (L[j]).fix)
theorem Prow.below {w w' : World} {r : Nat} {L : List Ent} (h : Prow w r L) (b : Below w.heap.size w w') : Prow w' r L := by
  by_cases h0 : 0 < L.length
  · have hr : r < w.heap.size := block_lt_of_cell (h.at0 0 h0)
    exact ⟨fun j hj => (b.cell (p := ⟨r, _, none⟩) hr).trans (h.at0 j hj), fun j hj => (b.cell (p := ⟨r, _, none⟩) hr).trans (h.at1 j hj), fun j hj => (b.cell (p := ⟨r, _, none⟩) hr).trans (h.at2 j hj), fun j hj => (b.cell (p := ⟨r, _, none⟩) hr).trans (h.at3 j hj)⟩
  · exact ⟨fun j hj => absurd hj (by omega), fun j hj => absurd hj (by omega), fun j hj => absurd hj (by omega), fun j hj => absurd hj (by omega)⟩
theorem bsf_at (L : List Ent) (r c p : Nat) (key : Int) (is : Bool) (w : World) (hr : Prow w r L) (hc : L.length ≤ 4096) (hp : p ≤ L.length)
    (h1 : ∀ j (h : j < L.length), j < p → (L[j]).key < key) (h2 : ∀ j (h : j < L.length), p ≤ j → key ≤ (L[j]).key) (h3 : is = true ↔ ∃ h : p < L.length, (L[p]).key = key) :
    Calls Tryz.prog 56 #[.slice (some ⟨r, 0, none⟩) L.length c, .int .u64 key, .func (.func 57) #[] #[]] w fun e w' => e = .returned (.tuple #[.int .i64 (p : Int), .bool is]) ∧ Below w.heap.size w w' := by
  have HR := hide hr
  have H1 := hide h1
  have H2 := hide h2
  have H3 := hide h3
  clear hr h1 h2 h3
  have C := hide (fun k v t f W => fcl_any k v t key f W)
  go_enter Tryz.func56, Tryz.ntmps56
  go_wp2_with fail
  go_loopw [9, 10] (fun a b wr => ∃ i j : Nat, a = .int .i64 i ∧ b = .int .i64 j ∧ i ≤ p ∧ p ≤ j ∧ j ≤ L.length ∧ Below w.heap.size w wr) (fun a b _ => (intOf b - intOf a).toNat)
  case atStart => exact ⟨0, L.length, rfl, rfl, Nat.zero_le _, hp, Nat.le_refl _, Below.refl _ _⟩
  case round =>
    obtain ⟨i, j, rfl, rfl, hi, hj, hjl, hb⟩ := hrel
    have HB := hide hb
    have hr1 := (unhide HR).below hb
    clear hb
    by_cases hlt : i < j
    · obtain ⟨h, hx⟩ : ∃ h, (i + j) / 2 = h := ⟨_, rfl⟩
      have hhl : h < L.length := by omega
      have hy : ((i : Int) + (j : Int)) / 2 = (h : Int) := by omega
      have e0 := hr1.at0 h hhl
      have e1 := hr1.at1 h hhl
      have e2 := hr1.at2 h hhl
      have e3 := hr1.at3 h hhl
      have q1 := fun x => unhide H1 h hhl x
      have q2 := fun x => unhide H2 h hhl x
      have C1 := hide ((unhide C) (L[h]).key (L[h]).val (L[h]).at_ (L[h]).fix)
      have hne : i ≤ h := by omega
      have hnf : h < j := by omega
      clear hr1
      generalize L[h] = E at e0 e1 e2 e3 q1 q2 C1
      by_cases hhp : h < p
      · have hc : cmpI E.key key = -1 := by rw [cmpI, if_pos (q1 hhp)]
        rw [hc] at C1
        clear q1 q2 hc
        go_wp2_with fail
        refine (unhide C1 _).mono ?_
        rintro e w2 ⟨rfl, b2⟩
        have hb2 := bthen (unhide HB) b2
        clear b2 e0 e1 e2 e3
        go_wp2_with fail
        go_roundw
        case rel => exact ⟨h + 1, j, by go_num, rfl, by omega, hj, hjl, hb2⟩
        case measure => simp [intOf]; omega
      · obtain ⟨c0, hc, hc0⟩ : ∃ c0 : Int, cmpI E.key key = c0 ∧ ¬ c0 < 0 := by
          have := q2 (by omega)
          refine ⟨_, rfl, ?_⟩
          unfold cmpI
          split
          · omega
          · split <;> omega
        rw [hc] at C1
        clear q1 q2 hc
        go_wp2_with fail
        refine (unhide C1 _).mono ?_
        rintro e w2 ⟨rfl, b2⟩
        have hb2 := bthen (unhide HB) b2
        clear b2 e0 e1 e2 e3
        go_wp2_with fail
        go_roundw
        case rel => exact ⟨i, h, rfl, by go_num, hi, by omega, by omega, hb2⟩
        case measure => simp [intOf]; omega
    · obtain rfl : i = p := by omega
      obtain rfl : i = j := by omega
      by_cases hpl : i < L.length
      · have e0 := hr1.at0 i hpl
        have e1 := hr1.at1 i hpl
        have e2 := hr1.at2 i hpl
        have e3 := hr1.at3 i hpl
        have q2 := unhide H2 i hpl (Nat.le_refl _)
        have q3 := unhide H3
        have C1 := hide ((unhide C) (L[i]).key (L[i]).val (L[i]).at_ (L[i]).fix)
        clear hr1
        obtain ⟨c0, hc, hc0⟩ : ∃ c0 : Int, cmpI (L[i]).key key = c0 ∧ (c0 == 0) = is := by
          refine ⟨_, rfl, ?_⟩
          have q4 : is = true ↔ (L[i]).key = key := q3.trans ⟨fun ⟨_, e⟩ => e, fun e => ⟨hpl, e⟩⟩
          unfold cmpI
          cases is
          · have : ¬ (L[i]).key = key := fun e => by simpa using q4.2 e
            rw [if_neg (by omega), if_pos (by omega)]; rfl
          · have := q4.1 rfl
            rw [if_neg (by omega), if_neg (by omega)]; rfl
        rw [hc] at C1
        clear q2 q3 hc
        generalize L[i] = E at e0 e1 e2 e3 C1
        go_wp2_with fail
        refine (unhide C1 _).mono ?_
        rintro e w2 ⟨rfl, b2⟩
        have hb2 := bthen (unhide HB) b2
        clear b2 e0 e1 e2 e3
        go_wp2_with fail
        go_ret2
        exact ⟨rfl, hb2⟩
      · have hi0 : is = false := by
          cases is
          · rfl
          · obtain ⟨h, _⟩ := (unhide H3).1 rfl
            exact absurd h hpl
        subst hi0
        clear hr1
        go_wp2_with fail
        go_ret2
        exact ⟨rfl, unhide HB⟩
/-- no parts -/
theorem bsf_nil (v : Value) (key : Int) (w : World) (hv : v = .slice none 0 0) :
    Calls Tryz.prog 56 #[v, .int .u64 key, .func (.func 57) #[] #[]] w fun e w' => e = .returned (.tuple #[.int .i64 0, .bool false]) ∧ Below w.heap.size w w' := by
  subst hv
  go_enter Tryz.func56, Tryz.ntmps56
  go_wp2
  refine wp_loop_rounds 1 ?_
  rw [rounds_succ]
  go_wp2
  go_ret2
  exact ⟨rfl, Below.refl _ _⟩
end Go.Proofs.YtljhgehlaehgnaaGreatDoor
namespace Go.Proofs.YtljhgehlaehgnaaGreatDoor
open Go.RowKit Go.Sort

/-- where a key stands, or would -/
structure Spot (L : List Ent) (key : Int) (p : Nat) (is : Bool) : Prop where
  le : p ≤ L.length
  low : ∀ j (h : j < L.length), j < p → (L[j]).key < key
  high : ∀ j (h : j < L.length), p ≤ j → key ≤ (L[j]).key
  hit : is = true ↔ ∃ h : p < L.length, (L[p]).key = key
theorem spot_some {A B : List Ent} {e : Ent} {key : Int} (hk : e.key = key) (hA : ∀ x ∈ A, x.key < key) (hB : ∀ x ∈ B, key < x.key) : Spot (A ++ e :: B) key A.length true := by
  refine ⟨by simp, ?_, ?_, ?_⟩
  · intro j h hj
    rw [List.getElem_append_left hj]
    exact hA _ (List.getElem_mem _)
  · intro j h hj
    rw [List.getElem_append_right hj]
    rcases Nat.eq_or_lt_of_le hj with rfl | hj
    · simp [hk]
    · have : 0 < j - A.length := by omega
      obtain ⟨m, hm⟩ : ∃ m, j - A.length = m + 1 := ⟨j - A.length - 1, by omega⟩
      simp only [hm, List.getElem_cons_succ]
      exact Int.le_of_lt (hB _ (List.getElem_mem _))
  · simp [hk]
theorem spot_none {A B : List Ent} {key : Int} (hA : ∀ x ∈ A, x.key < key) (hB : ∀ x ∈ B, key < x.key) : Spot (A ++ B) key A.length false := by
  refine ⟨by simp, ?_, ?_, ?_⟩
  · intro j h hj
    rw [List.getElem_append_left hj]
    exact hA _ (List.getElem_mem _)
  · intro j h hj
    rw [List.getElem_append_right hj]
    exact Int.le_of_lt (hB _ (List.getElem_mem _))
  · constructor
    · intro h; cases h
    · rintro ⟨h, e⟩
      rw [List.getElem_append_right (Nat.le_refl _)] at e
      have := hB _ (List.getElem_mem (l := B) (n := A.length - A.length) (by rw [List.length_append] at h; omega))
      omega
/-- the parts that a slice owns, in memory from block B on -/
def Own (B : Nat) (w : World) (v : Value) (L : List Ent) : Prop := w.ownsRow B 101 4 v L.length (cs L)
theorem Own.parts {B : Nat} {w : World} {v : Value} {L : List Ent} (h : Own B w v L) :
    (v = .slice none 0 0 ∧ L = []) ∨ ∃ r cap R, v = .slice (some ⟨r, 0, none⟩) L.length cap ∧ B ≤ r ∧ w.heap[r]? = some (.cells (cs L ++ R).toArray 101 (0, 0)) ∧ L.length ≤ cap ∧ cap ≤ maxLen ∧ L.length * 4 + R.length = cap * 4 := by
  obtain ⟨hl, ⟨rfl, h0⟩ | ⟨r, cap, cur, rfl, hB, hr, h1, h2, h3, h4⟩⟩ := h
  · exact .inl ⟨rfl, List.length_eq_zero_iff.1 h0⟩
  · refine .inr ⟨r, cap, cur.toList.drop (L.length * 4), rfl, hB, ?_, h1, h2, ?_⟩
    · rw [hr]
      congr
      rw [← h4, List.take_append_drop]
    · have hc : cur.toList.length = cap * 4 := by simpa using h3
      rw [List.length_drop, hc]
      have := Nat.mul_le_mul_right 4 h1
      omega
theorem own_of {B : Nat} {w : World} {L : List Ent} {r cap : Nat} {R : List Value} (hB : B ≤ r) (hr : w.heap[r]? = some (.cells (cs L ++ R).toArray 101 (0, 0))) (h1 : L.length ≤ cap) (h2 : cap ≤ maxLen) (h3 : L.length * 4 + R.length = cap * 4) :
    Own B w (.slice (some ⟨r, 0, none⟩) L.length cap) L := by
  refine ⟨cs_length L, .inr ⟨r, cap, _, rfl, hB, hr, h1, h2, ?_, ?_⟩⟩
  · simp [cs_length]; omega
  · rw [List.take_append_of_le_length (by rw [cs_length]; exact Nat.le_refl _), List.take_of_length_le (by rw [cs_length]; exact Nat.le_refl _)]
theorem row_at {w : World} {r : Nat} {L : List Ent} {R : List Value} (hr : w.heap[r]? = some (.cells (cs L ++ R).toArray 101 (0, 0))) (j : Nat) (h : j < L.length) (t : Nat) (ht : t < 4) : w.cell? ⟨r, j * 4 + t, none⟩ = (L[j]).cs[t]? := by
  rw [cell_of_row w r (j * 4 + t) _ _ _ hr, List.getElem?_toArray, List.getElem?_append_left (by rw [cs_length]; omega), cs_get L j h t ht]
theorem prow_of {w : World} {r : Nat} {L : List Ent} {R : List Value} (hr : w.heap[r]? = some (.cells (cs L ++ R).toArray 101 (0, 0))) : Prow w r L :=
  ⟨fun j h => row_at hr j h 0 (by omega), fun j h => row_at hr j h 1 (by omega), fun j h => row_at hr j h 2 (by omega), fun j h => row_at hr j h 3 (by omega)⟩
theorem Own.below {B : Nat} {w w' : World} {v : Value} {L : List Ent} (h : Own B w v L) (b : Below w.heap.size w w') : Own B w' v L := by
  obtain ⟨hl, hx | ⟨k, cap, cur, rfl, h1, h2, h3, h4, h5, h6⟩⟩ := h
  · exact ⟨hl, .inl hx⟩
  · exact ⟨hl, .inr ⟨k, cap, cur, rfl, h1, Below.row b h2, h3, h4, h5, h6⟩⟩
theorem find_at (B : Nat) (L : List Ent) (v : Value) (g o p : Nat) (key : Int) (is : Bool) (w : World) (hv : w.cell? ⟨g, o, none⟩ = some v) (ho : Own B w v L) (hc : L.length ≤ 4096) (hp : Spot L key p is) :
    Calls Tryz.prog 43 #[.pointer (some ⟨g, o, none⟩), .int .u64 key] w fun e w' => e = .returned (.tuple #[.int .i64 (p : Int), .bool is]) ∧ Below w.heap.size w w' := by
  have C : Hid (Calls Tryz.prog 56 #[v, .int .u64 key, .func (.func 57) #[] #[]] w fun e w' => e = .returned (.tuple #[.int .i64 (p : Int), .bool is]) ∧ Below w.heap.size w w') := by
    rcases ho.parts with ⟨hn, rfl⟩ | ⟨r, cap, R, rfl, _, hr, _⟩
    · have e1 : p = 0 := by have := hp.le; simpa using this
      have e2 : is = false := by
        cases is
        · rfl
        · obtain ⟨h, _⟩ := hp.hit.1 rfl
          simp at h
      subst e1 e2
      exact bsf_nil v key w hn
    · exact bsf_at L r cap p key is w (prow_of hr) hc hp.le hp.low hp.high hp.hit
  clear ho hp
  go_enter Tryz.func43, Tryz.ntmps43
  go_wp2_with fail
  refine (unhide C).mono ?_
  rintro e w2 ⟨rfl, b2⟩
  go_wp2_with fail
  go_ret2
  exact ⟨rfl, b2⟩
/-- a state's value -/
def Ent.st (e : Ent) : Value := .agg #[.int .u64 e.val, .int .i64 e.at_, .bool e.fix]
theorem get_some (B : Nat) (L : List Ent) (v : Value) (g o : Nat) (key : Int) (x : Ent) (w : World) (hv : w.cell? ⟨g, o, none⟩ = some v) (ho : Own B w v L) (hc : L.length ≤ 4096) (hs : Srt L) (hx : look L key = some x) :
    Calls Tryz.prog 31 #[.pointer (some ⟨g, o, none⟩), .int .u64 key] w fun e w' => e = .returned (.tuple #[x.st, .bool true]) ∧ Below w.heap.size w w' := by
  obtain ⟨A, D, rfl, hk, hA, hD⟩ := look_some hs hx
  rcases ho.parts with ⟨_, h⟩ | ⟨r, cap, R, rfl, _, hr, hcap, _⟩
  · simp at h
  have hvg : g < w.heap.size := block_lt_of_cell hv
  have hrw := lt_of_row hr
  have P := hide (prow_of hr)
  have hl : A.length < (A ++ x :: D).length := by simp
  have hlc : (A.length : Int) < cap := by omega
  have hx : (A ++ x :: D)[A.length] = x := by simp
  have F := hide (fun W (h : Below w.heap.size w W) => find_at B _ _ g o A.length key true W ((h.cell (p := ⟨g, o, none⟩) hvg).trans hv) (ho.below h) hc (spot_some hk hA hD))
  have HV := hide hv
  clear hv ho hr hc hs
  unfold Ent.st
  generalize hLL : (A ++ x :: D) = L at *
  go_enter Tryz.func31, Tryz.ntmps31
  go_wp2_with fail
  refine (unhide F _ (alloc_below _ _)).mono ?_
  rintro e w2 ⟨rfl, b2⟩
  have hb2 := bthen (alloc_below _ _) b2
  have r2 := Below.row b2 (heap_alloc_new w (.cells #[.int .u64 0, .int .i64 0, .bool false] 85))
  have hv2 := (hb2.cell (p := ⟨g, o, none⟩) hvg).trans (unhide HV)
  have P2 := (unhide P).below hb2
  have e1 := P2.at1 A.length hl
  have e2 := P2.at2 A.length hl
  have e3 := P2.at3 A.length hl
  rw [hx] at e1 e2 e3
  have R2 := hide r2
  have hS := hide hb2
  have hf := cells3 r2
  clear P2 P HV F b2 hb2
  go_wp2_with fail
  refine bodyPost_ret (v := .tuple #[.agg #[.int .u64 x.val, .int .i64 x.at_, .bool x.fix], .bool true]) ?_ rfl ⟨rfl, below3 (unhide hS) (Nat.le_refl _)⟩
  exact results_row2 rfl _ _ w.heap.size 85 _ _ _ _ rfl rfl (set3 (unhide R2)) Tryz.underlying85 rfl (by kernel_rfl)
theorem get_none (B : Nat) (L : List Ent) (v : Value) (g o : Nat) (key : Int) (w : World) (hv : w.cell? ⟨g, o, none⟩ = some v) (ho : Own B w v L) (hc : L.length ≤ 4096) (hs : Srt L) (hx : look L key = none) :
    Calls Tryz.prog 31 #[.pointer (some ⟨g, o, none⟩), .int .u64 key] w fun e w' => e = .returned (.tuple #[.agg #[.int .u64 0, .int .i64 0, .bool false], .bool false]) ∧ Below w.heap.size w w' := by
  obtain ⟨A, D, rfl, hA, hD⟩ := look_none hs hx
  have hvg : g < w.heap.size := block_lt_of_cell hv
  have F := hide (fun W (h : Below w.heap.size w W) => find_at B _ _ g o A.length key false W ((h.cell (p := ⟨g, o, none⟩) hvg).trans hv) (ho.below h) hc (spot_none hA hD))
  clear hv ho hc hs
  go_enter Tryz.func31, Tryz.ntmps31
  go_wp2_with fail
  refine (unhide F _ (alloc_below _ _)).mono ?_
  rintro e w2 ⟨rfl, b2⟩
  have hb2 := bthen (alloc_below _ _) b2
  have r2 := Below.row b2 (heap_alloc_new w (.cells #[.int .u64 0, .int .i64 0, .bool false] 85))
  have hb3 := alloc_then (o := .cells #[.int .u64 0, .int .i64 0, .bool false] 85) hb2
  have r3 := Below.row (alloc_below w2 (.cells #[.int .u64 0, .int .i64 0, .bool false] 85)) r2
  have r4 := heap_alloc_new w2 (.cells #[.int .u64 0, .int .i64 0, .bool false] 85)
  have R3 := hide r3
  have hS := hide hb3
  have hf := cells3 r3
  have hf4 := cells3 r4
  clear F b2 hb2 hb3
  go_wp2_with fail
  refine bodyPost_ret (v := .tuple #[.agg #[.int .u64 0, .int .i64 0, .bool false], .bool false]) ?_ rfl ⟨rfl, below3 (unhide hS) (Nat.le_refl _)⟩
  exact results_row2 rfl _ _ w.heap.size 85 _ _ _ _ rfl rfl (set3 (unhide R3)) Tryz.underlying85 rfl (by kernel_rfl)
end Go.Proofs.YtljhgehlaehgnaaGreatDoor
namespace Go.Proofs.YtljhgehlaehgnaaGreatDoor
open Go.RowKit Go.Sort Go.Lib

theorem run_copy_k {P : Program} (w : World) (dT sT ty elem : TypeId) (size g o dLen dCap : Nat) (a : Addr) (sLen sCap m : Nat) (cur : Array Value) (t : TypeId) (cs : List Value)
    (hu : P.underlying dT = some (.slice elem)) (hs : (P.info? elem).map (·.size) = some size)
    (hg : w.heap[g]? = some (.cells cur t (0, 0))) (hm : m = Nat.min sLen dLen) (hn : cs.length = m * size)
    (hsrc : ∀ j v, cs[j]? = some v → w.cell? (a.add j) = some v) (hfit : o + cs.length ≤ cur.size) (h1 : ∀ v ∈ cs, v.oneCell' = true) :
    (Builtin.copy_ #[dT, sT] ty #[.slice (some ⟨g, o, none⟩) dLen dCap, .slice (some a) sLen sCap]).run P w =
      .ok (goInt m) (w.setRow g (cur.toList.take o ++ cs ++ cur.toList.drop (o + cs.length)).toArray) := by
  have hf := run_firstCells_some (P := P) w size m a sLen sCap cs hn hsrc
  have hst := run_storeCells_at P g o t cs 0 cur w hg (by simpa using hfit) h1
  cases hq : P.info? elem with
  | none => simp [hq] at hs
  | some i =>
    have hi : i.size = size := by simpa [hq] using hs
    simp [Builtin.copy_, run_underlying hu, Builtin.lenOf, sizeOf, typeInfo, hq, hi, ← hm, hf, hst]
theorem run_clear_k {P : Program} (w : World) (t e ty : TypeId) (z : Value) (ht : P.underlying t = some (.slice e)) (hv : ∀ w, (zeroValue e).run P w = .ok z w) (g o n c : Nat) (hn : 0 < n) (cur : Array Value) (et : TypeId)
    (hg : w.heap[g]? = some (.cells cur et (0, 0))) (zs : List Value) (hz : (Builtin.zeroCells z.cells n).toList = zs) (h1 : ∀ v ∈ zs, v.oneCell' = true) (hfit : o + zs.length ≤ cur.size) :
    (Builtin.clear_ #[t] ty #[.slice (some ⟨g, o, none⟩) n c]).run P w = .ok (.tuple #[]) (w.setRow g (cur.toList.take o ++ zs ++ cur.toList.drop (o + zs.length)).toArray) := by
  have hst := run_storeCells_at P g o et zs 0 cur w hg (by simpa using hfit) h1
  simp only [Nat.add_zero] at hst
  obtain ⟨m, rfl⟩ : ∃ m, n = m + 1 := ⟨n - 1, by omega⟩
  simp [Builtin.clear_, run_underlying ht, hv, hz, hst]
theorem zeros_oneCell (n : Nat) : ∀ v ∈ (Builtin.zeroCells #[.int .u64 0, .int .u64 0, .int .i64 0, .bool false] n).toList, v.oneCell' = true := by
  intro v hv
  simp only [Builtin.zeroCells] at hv
  simp at hv
  obtain ⟨k, _, rfl⟩ := hv
  have h4 : k % 4 < 4 := Nat.mod_lt _ (by omega)
  generalize k % 4 = j at h4
  match j, h4 with
  | 0, _ => rfl
  | 1, _ => rfl
  | 2, _ => rfl
  | 3, _ => rfl
theorem setRow_grown (w : World) (g : Nat) (c : Array Value) : w.grownBy (w.setRow g c) (some g) :=
  ⟨rfl, rfl, rfl, by simp [World.setRow], fun k _ hk => setRow_other w g k c (fun e => hk (by simp [e]))⟩
theorem step_append_row {P : Program} {ops : Array Oper} {o : Oper} {a : Act} {w : World} {K : Act → World → Prop} {Q : Exit → Act → World → Prop} {E : Prop}
    (hgd : o.guard = none) (s x : Operand) (t : TypeId) (hop : o.op = Op.call { callee := Callee.builtin Builtin.append, args := #[s, x], argTypes := #[t, t] })
    (e : TypeId) (i : TypeInfo) (size : Nat) (h1 : P.underlying t = some (.slice e)) (h2 : P.info? e = some i) (h4 : i.size = size)
    (g n cap : Nat) (hs : a.eval s = .slice (some ⟨g, 0, none⟩) n cap) (cur : Array Value) (hg : w.heap[g]? = some (.cells cur e (0, 0)))
    (ad : Addr) (m c : Nat) (news : List Value) (hx : a.eval x = .slice (some ad) m c) (hn : news.length = m * size) (hc : ∀ j u, news[j]? = some u → w.cell? (ad.add j) = some u) (h1c : ∀ u ∈ news, u.oneCell' = true)
    (hroom : n + m ≤ cap) (hfit : n * size + news.length ≤ cur.size)
    (hK : ∀ w', Hid (w'.heap[g]? = some (.cells (cur.toList.take (n * size) ++ news ++ cur.toList.drop (n * size + news.length)).toArray e (0, 0))) → w.grownBy w' (some g) → K (a.put o.dst (.slice (some ⟨g, 0, none⟩) (n + m) cap)) w') :
    if Region.wanted o (yielded ops a.tmps) = true then Oper.wp P o a w K Q else E := by
  have hw : Region.wanted o (yielded ops a.tmps) = true := by simp [Region.wanted, hgd]
  rw [if_pos hw]
  subst h4
  have hrun := run_append_room (P := P) w t o.type e i h1 h2 g n cap cur hg ad m c news hn hc h1c hroom hfit
  unfold Oper.wp
  simp [execOp, hop, resolve, invoke, builtin, hs, hx, hrun, Result.andThen]
  refine hK _ ?_ (setRow_grown w g _)
  have := setRow_heap w g cur (cur.toList.take (n * i.size) ++ news ++ cur.toList.drop (n * i.size + news.length)).toArray e (0, 0) hg
  simpa [List.append_assoc] using hide this
end Go.Proofs.YtljhgehlaehgnaaGreatDoor
namespace Go.Proofs.YtljhgehlaehgnaaGreatDoor
open Go.RowKit

theorem Tryz.infoPart : (Tryz.prog.info? 101).map (fun i => (i.zero, i.size, i.bytes)) = some (some (.agg #[.int .u64 0, .int .u64 0, .int .i64 0, .bool false]), 4, 32) := by kernel_rfl
set_option maxRecDepth 100000 in
theorem del_part (A D : List Ent) (x : Ent) (r cap i j n : Nat) (R : List Value) (w : World) (hr : w.heap[r]? = some (.cells (cs (A ++ x :: D) ++ R).toArray 101 (0, 0))) (hi : A.length = i) (hj : j = i + 1) (hn : (A ++ x :: D).length = n) (hc : n ≤ 4096)
    (hcap : n ≤ cap) (hm : cap ≤ maxLen) (hR : n * 4 + R.length = cap * 4) :
    Calls Tryz.prog 74 #[.slice (some ⟨r, 0, none⟩) n cap, .int .i64 i, .int .i64 j] w fun e w' => e = .returned (.slice (some ⟨r, 0, none⟩) (A ++ D).length cap) ∧ w.grownBy w' (some r) ∧
      ∃ R' : List Value, w'.heap[r]? = some (.cells (cs (A ++ D) ++ R').toArray 101 (0, 0)) ∧ R'.length = R.length + 4 := by
  have hin : i < n := by rw [← hn, ← hi]; simp
  have hij : ((i : Int) == (j : Int)) = false := beq_eq_false_iff_ne.2 (by omega)
  have hjn : j ≤ n := by omega
  have hD : D.length = n - j := by rw [← hn]; simp; omega
  have hcm : cap ≤ 9223372036854775807 := by unfold maxLen at hm; omega
  obtain ⟨i0, hi0, hz0, hz1, hz2⟩ := info_parts Tryz.infoPart
  have hcs : (cs (A ++ x :: D)).length = n * 4 := by rw [cs_length, hn]
  have hrd : Hid (w.drew.heap[r]? = some (.cells (cs (A ++ x :: D) ++ R).toArray 101 (0, 0))) := hr
  have s1 : Hid ((cs D).length = (n - j) * 4) := by show _ = _; rw [cs_length, hD]
  have s2 : Hid (∀ u ∈ cs D, u.oneCell' = true) := cs_oneCell D
  have s3 : Hid (i * 4 + (cs D).length ≤ (cs (A ++ x :: D) ++ R).toArray.size) := by
    show _ ≤ _
    rw [List.size_toArray, List.length_append, hcs, cs_length, hD]; omega
  obtain ⟨ad, hA, hsrc⟩ : ∃ ad : Addr, (if cap = j then some (⟨r, 0, none⟩ : Addr) else some ⟨r, j * 4, none⟩) = some ad ∧ Hid (∀ t u, (cs D)[t]? = some u → w.drew.cell? (ad.add t) = some u) := by
    by_cases h : cap = j
    · refine ⟨⟨r, 0, none⟩, by simp [h], fun t u hu => ?_⟩
      have h0 : D.length = 0 := by omega
      rw [List.length_eq_zero_iff.1 h0] at hu
      simp [cs] at hu
    · refine ⟨⟨r, j * 4, none⟩, by simp [h], fun t u hu => ?_⟩
      rw [Addr.add_lit]
      show w.cell? _ = _
      rw [cell_of_row w r _ _ _ _ hr, List.getElem?_toArray]
      have ht : t < (cs D).length := (List.getElem?_eq_some_iff.1 hu).1
      rw [List.getElem?_append_left (by rw [hcs]; rw [cs_length, hD] at ht; omega), cs_append, List.getElem?_append_right (by rw [cs_length, hi]; omega), cs_length, hi, cs_cons,
        List.getElem?_append_right (by simp [Ent.cs]; omega)]
      rw [show (j * 4 + t - i * 4 - x.cs.length) = t by simp [Ent.cs]; omega]
      exact hu
  have hfin : Hid ((cs (A ++ x :: D) ++ R).take (i * 4) ++ cs D ++ (cs (A ++ x :: D) ++ R).drop (i * 4 + (cs D).length) = cs (A ++ D) ++ (((cs (A ++ x :: D)).drop ((n - 1) * 4)) ++ R)) := by
    show _ = _
    rw [List.take_append_of_le_length (by rw [hcs]; omega), List.drop_append_of_le_length (by rw [hcs, cs_length, hD]; omega), cs_append A D, cs_length, hD, show i * 4 + (n - j) * 4 = (n - 1) * 4 by omega, ← hi, cs_take, List.take_left]
  have hle : i ≤ j := by omega
  have hic : i ≤ cap := by omega
  have hjc : j ≤ cap := by omega
  have hne : ¬ (cap = i + (n - j)) := by omega
  have hAD : Hid ((A ++ D).length = i + (n - j)) := by show _ = _; rw [List.length_append, hi, hD]
  have HJ := hide hj
  clear hj hr hi hn
  go_enter Tryz.func74, Tryz.ntmps74
  go_wp2_with fail
  go_region_law (refine step_append_row rfl (.tmp 22) (.tmp 25) 78 rfl 101 i0 4 Tryz.underlying78 hi0 hz1 r i cap (by simp [Act.eval, Act.put]) _ (unhide hrd) ad (n - j) (cap - j) (cs D) (by simp [Act.eval, Act.put]) (unhide s1) (unhide hsrc) (unhide s2) (by omega) (unhide s3) ?_; intro w1 hr1 hg1)
  have hr2 : w1.heap[r]? = some (.cells (cs (A ++ D) ++ (((cs (A ++ x :: D)).drop ((n - 1) * 4)) ++ R)).toArray 101 (0, 0)) := by
    have h := unhide hr1
    rw [List.toList_toArray, unhide hfin] at h
    exact h
  obtain ⟨Z, hZ⟩ : ∃ Z, (Builtin.zeroCells #[.int .u64 0, .int .u64 0, .int .i64 0, .bool false] (n - (i + (n - j)))).toList = Z := ⟨_, rfl⟩
  have hZl : Z.length = 4 := by
    rw [← hZ, Array.length_toList, size_zeroCells]
    have := unhide HJ
    rw [show n - (i + (n - j)) = 1 by omega]; rfl
  have hZo : ∀ u ∈ Z, u.oneCell' = true := by rw [← hZ]; exact zeros_oneCell _
  obtain ⟨Y, hY⟩ : ∃ Y, (cs (A ++ x :: D)).drop ((n - 1) * 4) ++ R = Y := ⟨_, rfl⟩
  have hYl : Y.length = R.length + 4 := by rw [← hY, List.length_append, List.length_drop, hcs]; omega
  rw [hY] at hr2
  have hK : (cs (A ++ D)).length = (i + (n - j)) * 4 := by rw [cs_length, unhide hAD]
  have hcl := fun ty c => run_clear_k (P := Tryz.prog) w1 78 101 ty _ Tryz.underlying78 Tryz.zeroValue101 r ((i + (n - j)) * 4) (n - (i + (n - j))) c (by have := unhide HJ; omega) _ _ hr2 Z hZ hZo (by rw [List.size_toArray, List.length_append, hK, hZl, hYl]; omega)
  have hr3 : (w1.setRow r ((cs (A ++ D) ++ Y).toArray.toList.take ((i + (n - j)) * 4) ++ Z ++ (cs (A ++ D) ++ Y).toArray.toList.drop ((i + (n - j)) * 4 + Z.length)).toArray).heap[r]? = some (.cells (cs (A ++ D) ++ (Z ++ Y.drop 4)).toArray 101 (0, 0)) := by
    rw [setRow_heap w1 r _ _ _ _ hr2]
    congr 2
    rw [List.toList_toArray, ← hK, List.take_left, List.drop_append, List.drop_eq_nil_of_le (by omega), hZl, List.append_assoc, List.nil_append, Nat.add_sub_cancel_left]
  have hg3 := hide (setRow_grown w1 r ((cs (A ++ D) ++ Y).toArray.toList.take ((i + (n - j)) * 4) ++ Z ++ (cs (A ++ D) ++ Y).toArray.toList.drop ((i + (n - j)) * 4 + Z.length)).toArray)
  have hr3' := hide hr3
  have hg1' := hide hg1
  clear hr2 hr3 hg1 hr1 hfin hsrc s1 s2 s3 hA hY hK
  generalize w1.setRow r _ = w2 at *
  go_wp2_with fail
  go_ret
  have g1 := unhide hg1'
  have g3 := unhide hg3
  refine ⟨by rw [unhide hAD]; rfl, ⟨g3.os.trans g1.os, g3.tape.trans g1.tape, g3.output.trans g1.output, Nat.le_trans g1.size g3.size, fun k hk hr => (g3.block k (Nat.lt_of_lt_of_le hk g1.size) hr).trans (g1.block k hk hr)⟩, _, unhide hr3', ?_⟩
  rw [List.length_append, List.length_drop, hZl, hYl]; omega
end Go.Proofs.YtljhgehlaehgnaaGreatDoor
namespace Go.Proofs.YtljhgehlaehgnaaGreatDoor
open Go.RowKit Go.Sort

/-- a table in a block of its own: room, life, and a row of parts, in memory from block B on -/
structure Tab (B : Nat) (w : World) (g : Nat) (room life : Int) (v : Value) (L : List Ent) : Prop where
  row : w.heap[g]? = some (.cells #[.int .i64 room, .int .i64 life, v] 82 (0, 0))
  own : Own B w v L
  low : B ≤ g
  apart : v.ownBlock ≠ some g
  srt : Srt L
  oks : Oks L
  fit : (L.length : Int) ≤ room
  room1 : 1 ≤ room
  room2 : room ≤ 4096
  life1 : 1 ≤ life
  life2 : life ≤ 1099511627776
theorem Tab.len {B : Nat} {w : World} {g : Nat} {room life : Int} {v : Value} {L : List Ent} (h : Tab B w g room life v L) : L.length ≤ 4096 := by
  have := h.fit; have := h.room2; omega
theorem Tab.lt {B : Nat} {w : World} {g : Nat} {room life : Int} {v : Value} {L : List Ent} (h : Tab B w g room life v L) : g < w.heap.size := lt_of_row h.row
theorem Tab.vlt {B : Nat} {w : World} {g : Nat} {room life : Int} {v : Value} {L : List Ent} (h : Tab B w g room life v L) : ∀ k, v.ownBlock = some k → B ≤ k ∧ k < w.heap.size := World.ownsRow.lt h.own
theorem Tab.below {B : Nat} {w w' : World} {g : Nat} {room life : Int} {v : Value} {L : List Ent} (h : Tab B w g room life v L) (b : Below w.heap.size w w') : Tab B w' g room life v L :=
  ⟨Below.row b h.row, h.own.below b, h.low, h.apart, h.srt, h.oks, h.fit, h.room1, h.room2, h.life1, h.life2⟩
theorem Tab.cell {B : Nat} {w : World} {g : Nat} {room life : Int} {v : Value} {L : List Ent} (h : Tab B w g room life v L) : w.cell? ⟨g, 2, none⟩ = some v := (cells3 h.row).2.2.1
/-- behind a call: the table holds these parts now; nothing else has turned but its block and the row that it owned -/
def Turned (B g : Nat) (room life : Int) (v : Value) (L' : List Ent) (w w' : World) : Prop :=
  ∃ v', Tab B w' g room life v' L' ∧ But2 g v.ownBlock w w' ∧ Nb w v.ownBlock v'.ownBlock
theorem turned_same {B : Nat} {w w' : World} {g : Nat} {room life : Int} {v : Value} {L : List Ent} (h : Tab B w g room life v L) (b : Below w.heap.size w w') : Turned B g room life v L w w' :=
  ⟨v, h.below b, But2.of b, Nb.refl _ _⟩
theorem Turned.trans {B : Nat} {w w1 w2 : World} {g : Nat} {room life : Int} {v : Value} {L1 L2 : List Ent} (h1 : Turned B g room life v L1 w w1)
    (h2 : ∀ v1, Tab B w1 g room life v1 L1 → Turned B g room life v1 L2 w1 w2) : Turned B g room life v L2 w w2 := by
  obtain ⟨v1, t1, b1, n1⟩ := h1
  obtain ⟨v2, t2, b2, n2⟩ := h2 v1 t1
  exact ⟨v2, t2, b1.trans n1 b2, n1.trans b1.size n2⟩
theorem Turned.then {B : Nat} {w w1 w2 : World} {g : Nat} {room life : Int} {v : Value} {L1 : List Ent} (h1 : Turned B g room life v L1 w w1) (b : Below w1.heap.size w1 w2) : Turned B g room life v L1 w w2 :=
  h1.trans fun _ t => turned_same t b
theorem tab_set {w : World} {g : Nat} {t : TypeId} {a b c u : Value} (h : w.heap[g]? = some (.cells #[a, b, c] t (0, 0))) : (w.setCell ⟨g, 2, none⟩ u).heap[g]? = some (.cells #[a, b, u] t (0, 0)) := by
  have := heap_setCell_same _ g 2 _ t u h
  simpa using this
theorem Own.setCell {B : Nat} {w : World} {v : Value} {L : List Ent} (h : Own B w v L) {g o : Nat} (hg : v.ownBlock ≠ some g) (u : Value) : Own B (w.setCell ⟨g, o, none⟩ u) v L := ownsRow_setCell_other h hg u
/-- a table whose row is another one now -/
theorem turned_of {B : Nat} {w w1 w2 : World} {g : Nat} {room life : Int} {v v' : Value} {L L' : List Ent} {row : Option Nat} (T : Tab B w g room life v L) (b : Below w.heap.size w w1) (hg : w1.grownBy w2 row) (hr : row = v.ownBlock ∨ row = none)
    (ho : Own B w2 v' L') (hn : Nb w v.ownBlock v'.ownBlock) (hs : Srt L') (hk : Oks L') (hf : (L'.length : Int) ≤ room) : Turned B g room life v L' w (w2.setCell ⟨g, 2, none⟩ v') := by
  have hgl := T.lt
  have hap : v'.ownBlock ≠ some g := by
    rcases hn with hn | hn
    · rw [hn]; exact T.apart
    · intro e; have := hn g e; omega
  have hrow : some g ≠ row := by
    rcases hr with rfl | rfl
    · exact fun e => T.apart e.symm
    · simp
  have r1 := Below.row b T.row
  have r2 : w2.heap[g]? = _ := (hg.block g (lt_of_row r1) hrow).trans r1
  refine ⟨v', ⟨tab_set r2, ho.setCell hap v', T.low, hap, hs, hk, hf, T.room1, T.room2, T.life1, T.life2⟩, ?_, hn⟩
  refine But2.setCell ?_ v'
  refine ⟨hg.os.trans b.os, hg.tape.trans b.tape, hg.output.trans b.output, Nat.le_trans b.size hg.size, fun k hk _ hkr => ?_⟩
  refine (hg.block k (Nat.lt_of_lt_of_le hk b.size) ?_).trans (b.block k hk)
  rcases hr with rfl | rfl
  · exact hkr
  · simp
theorem nb_of {w : World} {a : Option Nat} {r : Nat} (h : a = some r) : Nb w a (some r) := .inl h.symm

set_option maxRecDepth 100000 in
theorem drop_some (B : Nat) (L : List Ent) (v : Value) (g : Nat) (room life key : Int) (x : Ent) (w : World) (T : Tab B w g room life v L) (hx : look L key = some x) :
    Calls Tryz.prog 65 #[.pointer (some ⟨g, 2, none⟩), .int .u64 key] w fun e w' => e = .returned (.bool true) ∧ Turned B g room life v (del L key) w w' := by
  obtain ⟨A, D, rfl, hk, hA, hD⟩ := look_some T.srt hx
  rw [del_at hk hA hD]
  rcases T.own.parts with ⟨_, h⟩ | ⟨r, cap, R, rfl, hB, hr, hcap, hm, hR⟩
  · simp at h
  have hvg := T.lt
  have hc := T.len
  have F := hide (find_at B _ _ g 2 A.length key true w T.cell T.own hc (spot_some hk hA hD))
  have hil : A.length < 4096 := by simp at hc; omega
  have HT := hide T
  have hcx := T.cell
  have hgr : g ≠ r := fun e => T.apart (by rw [e]; rfl)
  have hnb : Value.ownBlock (.slice (some ⟨r, 0, none⟩) (A ++ x :: D).length cap) = some r := rfl
  have fin : Hid (∀ w1 w2, Below w.heap.size w w1 → w1.grownBy w2 (some r) → (∃ R' : List Value, w2.heap[r]? = some (.cells (cs (A ++ D) ++ R').toArray 101 (0, 0)) ∧ R'.length = R.length + 4) →
      Turned B g room life (.slice (some ⟨r, 0, none⟩) (A ++ x :: D).length cap) (A ++ D) w (w2.setCell ⟨g, 2, none⟩ (.slice (some ⟨r, 0, none⟩) (A ++ D).length cap))) := by
    intro w1 w2 b1 g2 ⟨R', r2, hR'⟩
    have hL : (A ++ D).length ≤ (A ++ x :: D).length := by simp
    exact turned_of T b1 g2 (.inl rfl) (own_of (cap := cap) hB r2 (Nat.le_trans hL hcap) hm (by rw [hR']; simp at hR ⊢; omega)) (nb_of rfl) (T.srt.sublist (by simp)) (fun e he => T.oks e (by simp at he ⊢; rcases he with h | h <;> simp [h])) (by have := T.fit; omega)
  have G := hide (fun i j n hi hj hn hc hcap hR W (h : Below w.heap.size w W) => del_part A D x r cap i j n R W (Below.row h hr) hi hj hn hc hcap hm hR)
  replace G := hide (unhide G _ _ _ rfl rfl rfl hc hcap hR)
  rw [show ((A.length + 1 : Nat) : Int) = (A.length : Int) + 1 by omega] at G
  clear T hr hx hR hc hcap
  generalize (A ++ x :: D).length = n at *
  generalize (A ++ D).length = m at *
  generalize hal : A.length = i at *
  clear hal hk hA hD hnb hB hm
  go_enter Tryz.func65, Tryz.ntmps65
  go_wp2_with fail
  refine (unhide F).mono ?_
  rintro e w1 ⟨rfl, b1⟩
  have hc1 := (b1.cell (p := ⟨g, 2, none⟩) hvg).trans hcx
  go_wp2_with fail
  refine (unhide G w1 b1).mono ?_
  rintro e w2 ⟨rfl, g2, R', r2, hR'⟩
  have T1 := (unhide HT).below b1
  have r3 := (g2.block g (lt_of_row T1.row) (by simpa using hgr)).trans T1.row
  have hfx2 := (cells3 r3).2.2.2.2.2
  have hfc2 := (cells3 r3).2.2.1
  have fin2 := hide (unhide fin w1 w2 b1 g2 ⟨R', r2, hR'⟩)
  clear r3 T1 g2 r2 G F fin HT
  go_wp2_with fail
  go_ret
  exact ⟨rfl, unhide fin2⟩
theorem drop_none (B : Nat) (L : List Ent) (v : Value) (g : Nat) (room life key : Int) (w : World) (T : Tab B w g room life v L) (hx : look L key = none) :
    Calls Tryz.prog 65 #[.pointer (some ⟨g, 2, none⟩), .int .u64 key] w fun e w' => e = .returned (.bool false) ∧ Turned B g room life v (del L key) w w' := by
  rw [del_none hx]
  have HT := hide T
  obtain ⟨A, D, rfl, hA, hD⟩ := look_none T.srt hx
  have F := hide (find_at B _ _ g 2 A.length key false w T.cell T.own T.len (spot_none hA hD))
  clear T hx
  go_enter Tryz.func65, Tryz.ntmps65
  go_wp2_with fail
  refine (unhide F).mono ?_
  rintro e w1 ⟨rfl, b1⟩
  go_wp2_with fail
  go_ret
  exact ⟨rfl, turned_same (unhide HT) b1⟩
theorem drop_any (B : Nat) (L : List Ent) (v : Value) (g : Nat) (room life key : Int) (w : World) (T : Tab B w g room life v L) :
    Calls Tryz.prog 65 #[.pointer (some ⟨g, 2, none⟩), .int .u64 key] w fun e w' => e = .returned (.bool (look L key).isSome) ∧ Turned B g room life v (del L key) w w' := by
  cases hx : look L key with
  | none => exact drop_none B L v g room life key w T hx
  | some x => exact drop_some B L v g room life key x w T hx
end Go.Proofs.YtljhgehlaehgnaaGreatDoor
namespace Go.Proofs.YtljhgehlaehgnaaGreatDoor
open Go.RowKit Go.Sort

/-- a part, as a value -/
def Ent.part (e : Ent) : Value := .agg #[.int .u64 e.key, .int .u64 e.val, .int .i64 e.at_, .bool e.fix]
/-- a closure's answer to states, as long as what was there stays but for one row -/
def Asks (f : FuncId) (lb : Array Value) (p : Ent → Bool) (row : Option Nat) (w : World) : Prop :=
  ∀ W (e : Ent), e.ok → w.grownBy W row → Calls Tryz.prog f (#[e.st] ++ lb) W fun x w' => x = .returned (.bool (p e)) ∧ Below W.heap.size W w'
/-- the same of parts, of dropAll's closure -/
def AsksPart (b : Nat) (p : Ent → Bool) (row : Option Nat) (w : World) : Prop :=
  ∀ W (e : Ent), e.ok → w.grownBy W row → Calls Tryz.prog 60 #[e.part, .pointer (some ⟨b, 0, none⟩)] W fun x w' => x = .returned (.bool (p e)) ∧ Below W.heap.size W w'
theorem grown_of {w W : World} (h : Below w.heap.size w W) (row : Option Nat) : w.grownBy W row := ⟨h.os, h.tape, h.output, h.size, fun k hk _ => h.block k hk⟩
theorem grown_trans {a b c : World} {row : Option Nat} (h : a.grownBy b row) (k : b.grownBy c row) : a.grownBy c row :=
  ⟨k.os.trans h.os, k.tape.trans h.tape, k.output.trans h.output, Nat.le_trans h.size k.size, fun i hi hr => (k.block i (Nat.lt_of_lt_of_le hi h.size) hr).trans (h.block i hi hr)⟩
theorem asks_grown {f : FuncId} {lb : Array Value} {p : Ent → Bool} {row : Option Nat} {w W : World} (h : Asks f lb p row w) (g : w.grownBy W row) : Asks f lb p row W := fun W' e he hg => h W' e he (grown_trans g hg)
theorem asksPart_grown {b : Nat} {p : Ent → Bool} {row : Option Nat} {w W : World} (h : AsksPart b p row w) (g : w.grownBy W row) : AsksPart b p row W := fun W' e he hg => h W' e he (grown_trans g hg)
set_option maxRecDepth 100000 in
theorem dcl_any (f : FuncId) (lb : Array Value) (eg : ∀ args w, (callFunc f args).run Tryz.prog w = .ok (.enter f args) w) (p : Ent → Bool) (row : Option Nat) (b : Nat) (w : World)
    (hb : w.heap[b]? = some (.cells #[.func (.func f) #[] lb] 106 (0, 0))) (hrow : some b ≠ row) (hp : Asks f lb p row w) : AsksPart b p row w := by
  intro W e he hg
  have hbW : W.cell? ⟨b, 0, none⟩ = some (.func (.func f) #[] lb) := cell_of_one ((hg.block b (lt_of_row hb) hrow).trans hb)
  have hbl := block_lt_of_cell hbW
  have C := hide (fun W' (h : Below W.heap.size W W') => hp W' e he (grown_trans hg (grown_of h row)))
  clear hp hb hg
  unfold Ent.part
  unfold Ent.st at C
  generalize p e = q at C ⊢
  go_enter Tryz.func60, Tryz.ntmps60
  go_wp2_with (go_at_fn f; refine (unhide C _ (alloc_below _ _)).mono ?_; rintro e' w2 ⟨rfl, b2⟩)
  go_ret
  exact ⟨rfl, bthen (alloc_below _ _) b2⟩
theorem ixf_at (L : List Ent) (r c b q : Nat) (z : Int) (p : Ent → Bool) (row : Option Nat) (w : World) (hr : Prow w r L) (hok : Oks L) (hc : L.length ≤ 4096) (hp : AsksPart b p row w) (hq : q ≤ L.length)
    (h1 : ∀ j (h : j < L.length), j < q → p (L[j]) = false) (h2 : ∀ h : q < L.length, p (L[q]) = true) (hz : z = if q < L.length then (q : Int) else -1) :
    Calls Tryz.prog 73 #[.slice (some ⟨r, 0, none⟩) L.length c, .func (.func 60) #[] #[.pointer (some ⟨b, 0, none⟩)]] w fun e w' => e = .returned (.int .i64 z) ∧ Below w.heap.size w w' := by
  have HR := hide hr
  have HP := hide hp
  have HK := hide hok
  have H1 := hide h1
  have H2 := hide h2
  have HZ := hide hz
  clear hr h1 h2 hz hp hok
  go_enter Tryz.func73, Tryz.ntmps73
  go_wp2_with fail
  go_loopw [8] (fun a wr => ∃ k : Nat, a = .int .i64 k ∧ k ≤ q ∧ k ≤ L.length ∧ Below w.heap.size w wr) (fun a _ => L.length - (intOf a).toNat)
  case atStart => exact ⟨0, rfl, Nat.zero_le _, Nat.zero_le _, Below.refl _ _⟩
  case round =>
    obtain ⟨k, rfl, hkq, hkl, hb⟩ := hrel
    have HB := hide hb
    have hr1 := (unhide HR).below hb
    clear hb
    by_cases hlt : k < L.length
    · have e0 := hr1.at0 k hlt
      have e1 := hr1.at1 k hlt
      have e2 := hr1.at2 k hlt
      have e3 := hr1.at3 k hlt
      have q1 := hide (fun x => unhide H1 k hlt x)
      have q2 := hide (fun (x : k = q) => by subst x; exact unhide H2 hlt : k = q → p (L[k]) = true)
      have C1 := hide ((unhide HP) wr (L[k]) ((unhide HK) _ (List.getElem_mem _)) (grown_of (unhide HB) row))
      unfold Ent.part at C1
      clear hr1
      generalize L[k] = E at e0 e1 e2 e3 q1 q2 C1
      by_cases hkk : k = q
      · rw [unhide q2 hkk] at C1
        have hz : z = (k : Int) := by rw [unhide HZ, if_pos (by omega), hkk]
        subst hz
        clear q1 q2 hkk
        go_wp2_with fail
        refine (unhide C1).mono ?_
        rintro e w2 ⟨rfl, b2⟩
        have hb2 := bthen (unhide HB) b2
        clear b2 e0 e1 e2 e3
        go_wp2_with fail
        go_ret
        exact ⟨rfl, hb2⟩
      · rw [unhide q1 (by omega)] at C1
        clear q1 q2
        go_wp2_with fail
        refine (unhide C1).mono ?_
        rintro e w2 ⟨rfl, b2⟩
        have hb2 := bthen (unhide HB) b2
        clear b2 e0 e1 e2 e3
        go_wp2_with fail
        go_roundw
        case rel => exact ⟨k + 1, by go_num, by omega, by omega, hb2⟩
        case measure => simp [intOf]; omega
    · have hz : z = -1 := by rw [unhide HZ, if_neg (by omega)]
      subst hz
      clear hr1
      go_wp2_with fail
      go_ret
      exact ⟨rfl, unhide HB⟩
theorem ixf_nil (b : Nat) (v : Value) (w : World) (hv : v = .slice none 0 0) :
    Calls Tryz.prog 73 #[v, .func (.func 60) #[] #[.pointer (some ⟨b, 0, none⟩)]] w fun e w' => e = .returned (.int .i64 (-1)) ∧ Below w.heap.size w w' := by
  subst hv
  go_enter Tryz.func73, Tryz.ntmps73
  go_wp2
  refine wp_loop_rounds 1 ?_
  rw [rounds_succ]
  go_wp2
  go_ret
  exact ⟨rfl, Below.refl _ _⟩
end Go.Proofs.YtljhgehlaehgnaaGreatDoor
namespace Go.Proofs.YtljhgehlaehgnaaGreatDoor
open Go.RowKit Go.Sort

/-- what is left -/
def kept (p : Ent → Bool) (L : List Ent) : List Ent := L.filter fun e => !p e
theorem kept_take (p : Ent → Bool) (L : List Ent) (j : Nat) (h : j < L.length) : kept p (L.take (j + 1)) = kept p (L.take j) ++ if p L[j] then [] else [L[j]] := by
  unfold kept
  rw [List.take_succ_eq_append_getElem h, List.filter_append]
  congr 1
  cases hp : p L[j] <;> simp [hp]
theorem kept_none (p : Ent → Bool) (L : List Ent) (h : ∀ e ∈ L, p e = false) : kept p L = L := List.filter_eq_self.2 fun e he => by rw [h e he]; rfl
theorem kept_len (p : Ent → Bool) (L : List Ent) : (kept p L).length ≤ L.length := List.length_filter_le _ _
/-- four cells in the middle of a row -/
theorem mid4 {w : World} {r o : Nat} {t : TypeId} {X Z : List Value} {a b c d : Value} (hX : X.length = o) (h : w.heap[r]? = some (.cells (X ++ a :: b :: c :: d :: Z).toArray t (0, 0))) :
    w.cell? ⟨r, o, none⟩ = some a ∧ w.cell? ⟨r, o + 1, none⟩ = some b ∧ w.cell? ⟨r, o + 2, none⟩ = some c ∧ w.cell? ⟨r, o + 3, none⟩ = some d ∧
    w.frozen? ⟨r, o, none⟩ = false ∧ w.frozen? ⟨r, o + 1, none⟩ = false ∧ w.frozen? ⟨r, o + 2, none⟩ = false ∧ w.frozen? ⟨r, o + 3, none⟩ = false := by
  subst hX
  refine ⟨?_, ?_, ?_, ?_, frozen_of_row w r _ _ _ h, frozen_of_row w r _ _ _ h, frozen_of_row w r _ _ _ h, frozen_of_row w r _ _ _ h⟩ <;>
    (rw [cell_of_row w r _ _ _ _ h, List.getElem?_toArray]; simp)
theorem put4 {w : World} {r o : Nat} {t : TypeId} {X Z : List Value} {a b c d a' b' c' d' : Value} (hX : X.length = o) (h : w.heap[r]? = some (.cells (X ++ a :: b :: c :: d :: Z).toArray t (0, 0))) :
    ((((w.setCell ⟨r, o, none⟩ a').setCell ⟨r, o + 1, none⟩ b').setCell ⟨r, o + 2, none⟩ c').setCell ⟨r, o + 3, none⟩ d').heap[r]? = some (.cells (X ++ a' :: b' :: c' :: d' :: Z).toArray t (0, 0)) := by
  subst hX
  rw [heap_setCell_same _ r (X.length + 3) _ t d' (heap_setCell_same _ r (X.length + 2) _ t c' (heap_setCell_same _ r (X.length + 1) _ t b' (heap_setCell_same _ r X.length _ t a' h)))]
  congr 2
  simp
theorem put4_grown (w : World) (r o : Nat) (a b c d : Value) : w.grownBy ((((w.setCell ⟨r, o, none⟩ a).setCell ⟨r, o + 1, none⟩ b).setCell ⟨r, o + 2, none⟩ c).setCell ⟨r, o + 3, none⟩ d) (some r) := by
  refine ⟨rfl, rfl, rfl, by simp [World.setCell], fun k _ hk => ?_⟩
  have hk' : k ≠ r := fun e => hk (by rw [e])
  rw [heap_setCell_other _ ⟨r, o + 3, none⟩ k _ hk', heap_setCell_other _ ⟨r, o + 2, none⟩ k _ hk', heap_setCell_other _ ⟨r, o + 1, none⟩ k _ hk', heap_setCell_other _ ⟨r, o, none⟩ k _ hk']
theorem grown_row {w w' : World} {r k : Nat} {o : Obj} (g : w.grownBy w' (some r)) (hk : k ≠ r) (h : w.heap[k]? = some o) : w'.heap[k]? = some o := (g.block k (lt_of_row h) (by simpa using hk)).trans h
set_option maxHeartbeats 1000000 in
set_option maxRecDepth 100000 in
theorem delf_hit (L : List Ent) (r cap b q n : Nat) (R : List Value) (p : Ent → Bool) (w : World) (hr : w.heap[r]? = some (.cells (cs L ++ R).toArray 101 (0, 0))) (hok : Oks L) (hn : L.length = n) (hc : n ≤ 4096) (hcap : n ≤ cap) (hm : cap ≤ maxLen) (hR : n * 4 + R.length = cap * 4)
    (hp : AsksPart b p (some r) w) (hq : q < n) (h1 : ∀ j (h : j < L.length), j < q → p (L[j]) = false) (h2 : ∀ h : q < L.length, p (L[q]) = true) :
    Calls Tryz.prog 59 #[.slice (some ⟨r, 0, none⟩) n cap, .func (.func 60) #[] #[.pointer (some ⟨b, 0, none⟩)]] w fun e w' => e = .returned (.slice (some ⟨r, 0, none⟩) (kept p L).length cap) ∧ w.grownBy w' (some r) ∧
      ∃ R' : List Value, w'.heap[r]? = some (.cells (cs (kept p L) ++ R').toArray 101 (0, 0)) ∧ R'.length = (n - (kept p L).length) * 4 + R.length := by
  have IX := hide (ixf_at L r cap b q (q : Int) p (some r) w (prow_of hr) hok (by omega) hp (by omega) h1 h2 (by rw [if_pos (by omega)]))
  rw [hn] at IX
  have hcm : cap ≤ 9223372036854775807 := by unfold maxLen at hm; omega
  have hq1 : ((q : Int) == -1) = false := beq_eq_false_iff_ne.2 (by omega)
  have K0 : Hid (kept p (L.take q) = L.take q) := hide (kept_none p _ fun e he => by
    obtain ⟨j, hj, rfl⟩ := List.mem_iff_getElem.1 he
    rw [List.length_take] at hj
    rw [List.getElem_take]
    exact h1 j (by omega) (by omega))
  have K1 : Hid (kept p (L.take (q + 1)) = L.take q) := hide (by rw [kept_take p L q (by omega), h2 (by omega), unhide K0]; simp)
  have HR := hide hr
  have HP := hide hp
  have HK := hide hok
  have HN := hide hn
  have HRl := hide hR
  clear hr h1 h2 hp hok hn hR
  go_enter Tryz.func59, Tryz.ntmps59
  go_wp2_with fail
  refine (unhide IX).mono ?_
  rintro e w0 ⟨rfl, b0⟩
  clear IX
  go_wp2_with fail
  go_loopw [5, 6, 7] (fun a c _ wr => ∃ (i j : Nat) (Y : List Value), a = .int .i64 i ∧ c = .int .i64 j ∧ j ≤ n ∧ i < j ∧ Hid ((kept p (L.take j)).length = i) ∧ Hid (Y.length = (j - i) * 4) ∧ w.grownBy wr (some r) ∧
      wr.heap[r]? = some (.cells (cs (kept p (L.take j)) ++ (Y ++ (cs (L.drop j) ++ R))).toArray 101 (0, 0))) (fun _ c _ _ => n - (intOf c).toNat)
  case atStart =>
    have hr := unhide HR
    refine ⟨q, q + 1, (cs L).drop (q * 4) |>.take 4, rfl, by go_num, by omega, by omega, hide ?_, hide ?_, grown_of b0 _, ?_⟩
    · rw [unhide K1, List.length_take, unhide HN]; omega
    · rw [List.length_take, List.length_drop, cs_length, unhide HN]; omega
    · rw [Below.row b0 hr, unhide K1]
      congr 3
      rw [← List.append_assoc, ← List.append_assoc, ← cs_take, ← cs_drop]
      congr 1
      have e : (q + 1) * 4 = q * 4 + 4 := by omega
      rw [e, List.append_assoc, ← List.drop_drop, List.take_append_drop, List.take_append_drop]
  case round =>
    obtain ⟨i, j, Y, rfl, rfl, hjn, hij, hKl, hYl, hg, hrow⟩ := hrel
    have HG := hide hg
    clear hg
    by_cases hlt : j < n
    · have hjL : j < L.length := by rw [unhide HN]; exact hlt
      have hd : L.drop j = L[j] :: L.drop (j + 1) := (List.getElem_cons_drop hjL).symm
      have hkt := kept_take p L j hjL
      have C1 := hide (fun W (h : w.grownBy W (some r)) => (unhide HP) W (L[j]) ((unhide HK) _ (List.getElem_mem _)) h)
      rw [hd, cs_cons] at hrow
      generalize hE : L[j] = E at hrow hkt C1
      have hoff : (cs (kept p (L.take j)) ++ Y).length = j * 4 := by rw [List.length_append, cs_length, unhide hKl, unhide hYl]; omega
      have hm4 := mid4 (r := r) (o := j * 4) (t := 101) (X := cs (kept p (L.take j)) ++ Y) (Z := cs (L.drop (j + 1)) ++ R) (a := .int .u64 E.key) (b := .int .u64 E.val) (c := .int .i64 E.at_) (d := .bool E.fix) (w := wr) hoff
        (by rw [hrow]; simp [Ent.cs])
      have e0 := hm4.1
      have e1 := hm4.2.1
      have e2 := hm4.2.2.1
      have e3 := hm4.2.2.2.1
      have hjc : j < cap := by omega
      have HROW := hide hrow
      have HOFF := hide hoff
      have RV := hide (heap_alloc_new wr (.cells #[.int .u64 E.key, .int .u64 E.val, .int .i64 E.at_, .bool E.fix] 101))
      have BV := hide (alloc_below wr (.cells #[.int .u64 E.key, .int .u64 E.val, .int .i64 E.at_, .bool E.fix] 101))
      have C2 := hide (unhide C1 _ (grown_trans (unhide HG) (grown_of (unhide BV) _)))
      unfold Ent.part at C2
      clear hm4 hrow hoff hd hE C1
      by_cases hpE : p E = true
      · rw [hpE] at C2
        have HKT := hide (by rw [hkt, hpE]; simp : kept p (L.take (j + 1)) = kept p (L.take j))
        clear hkt hpE
        go_wp2_with fail
        refine (unhide C2).mono ?_
        rintro e w3 ⟨rfl, b3⟩
        have hb3 := bthen (unhide BV) b3
        have R3 := hide (Below.row hb3 (unhide HROW))
        have G3 := hide (grown_trans (unhide HG) (grown_of hb3 _))
        clear b3 hb3 e0 e1 e2 e3 C2 RV BV
        go_wp2_with fail
        go_roundw
        case rel =>
          refine ⟨i, j + 1, Y ++ E.cs, rfl, by go_num, by omega, by omega, hide (by rw [unhide HKT]; exact unhide hKl), hide (by rw [List.length_append, unhide hYl]; simp [Ent.cs]; omega), unhide G3, ?_⟩
          rw [unhide R3, unhide HKT]
          simp
        case measure => simp [intOf]; omega
      · have hpF : p E = false := by simpa using hpE
        rw [hpF] at C2
        have HKT := hide (by rw [hkt, hpF]; simp : kept p (L.take (j + 1)) = kept p (L.take j) ++ [E])
        clear hkt hpE hpF
        obtain ⟨y0, y1, y2, y3, Y', hY⟩ : ∃ y0 y1 y2 y3 Y', Y = y0 :: y1 :: y2 :: y3 :: Y' := by
          have := unhide hYl
          match Y, this with
          | [], h => simp at h; omega
          | [_], h => simp at h; omega
          | [_, _], h => simp at h; omega
          | [_, _, _], h => simp at h; omega
          | y0 :: y1 :: y2 :: y3 :: Y', _ => exact ⟨y0, y1, y2, y3, Y', rfl⟩
        have HY := hide hY
        clear hY
        go_wp2_with fail
        refine (unhide C2).mono ?_
        rintro e w3 ⟨rfl, b3⟩
        have hb3 := bthen (unhide BV) b3
        have r3 : w3.heap[r]? = some (.cells (cs (kept p (L.take j)) ++ y0 :: y1 :: y2 :: y3 :: (Y' ++ (E.cs ++ cs (L.drop (j + 1)) ++ R))).toArray 101 (0, 0)) := by
          rw [Below.row hb3 (unhide HROW), unhide HY]; simp
        have hX : (cs (kept p (L.take j))).length = i * 4 := by rw [cs_length, unhide hKl]
        have hm4 := mid4 hX r3
        have R3 := hide (put4 (a' := .int .u64 E.key) (b' := .int .u64 E.val) (c' := .int .i64 E.at_) (d' := .bool E.fix) hX r3)
        have G3 := hide (grown_trans (grown_trans (unhide HG) (grown_of hb3 _)) (put4_grown w3 r (i * 4) (.int .u64 E.key) (.int .u64 E.val) (.int .i64 E.at_) (.bool E.fix)))
        have rv := cells4 (Below.row b3 (unhide RV))
        have hic : i < n := by omega
        clear b3 hb3 e0 e1 e2 e3 C2 RV BV r3 hX
        go_wp2_with fail
        go_roundw
        case rel =>
          refine ⟨i + 1, j + 1, Y' ++ E.cs, by go_num, by go_num, by omega, by omega, hide (by rw [unhide HKT, List.length_append, unhide hKl]; rfl), hide ?_, unhide G3, ?_⟩
          · have := unhide hYl
            rw [unhide HY] at this
            simp [Ent.cs] at this ⊢
            omega
          · rw [unhide R3, unhide HKT, cs_append]
            simp [cs, Ent.cs]
        case measure => simp [intOf]; omega
    · obtain rfl : j = n := by omega
      have hnk : L.take j = L := List.take_of_length_le (by rw [unhide HN]; exact Nat.le_refl _)
      have hnd : L.drop j = [] := List.drop_eq_nil_of_le (by rw [unhide HN]; exact Nat.le_refl _)
      rw [hnk] at hKl
      rw [hnk, hnd] at hrow
      simp only [cs_nil, List.nil_append] at hrow
      obtain ⟨Z, hZ⟩ : ∃ Z, (Builtin.zeroCells #[.int .u64 0, .int .u64 0, .int .i64 0, .bool false] (j - i)).toList = Z := ⟨_, rfl⟩
      have hZl : Z.length = (j - i) * 4 := by rw [← hZ, Array.length_toList, size_zeroCells]; rfl
      have hZo : ∀ u ∈ Z, u.oneCell' = true := by rw [← hZ]; exact zeros_oneCell _
      have hX : (cs (kept p L)).length = i * 4 := by rw [cs_length, unhide hKl]
      have hcl := fun ty c => run_clear_k (P := Tryz.prog) wr 78 101 ty _ Tryz.underlying78 Tryz.zeroValue101 r (i * 4) (j - i) c (by omega) _ _ hrow Z hZ hZo (by rw [List.size_toArray, List.length_append, List.length_append, hX, hZl, unhide hYl]; omega)
      have hr3 : (wr.setRow r ((cs (kept p L) ++ (Y ++ R)).toArray.toList.take (i * 4) ++ Z ++ (cs (kept p L) ++ (Y ++ R)).toArray.toList.drop (i * 4 + Z.length)).toArray).heap[r]? = some (.cells (cs (kept p L) ++ (Z ++ R)).toArray 101 (0, 0)) := by
        rw [setRow_heap wr r _ _ _ _ hrow]
        congr 2
        rw [List.toList_toArray, ← hX, List.take_left, List.drop_append, List.drop_eq_nil_of_le (by omega), List.append_assoc, List.nil_append, Nat.add_sub_cancel_left, hZl, ← unhide hYl, List.drop_left]
      have hg3 := hide (grown_trans (unhide HG) (setRow_grown wr r ((cs (kept p L) ++ (Y ++ R)).toArray.toList.take (i * 4) ++ Z ++ (cs (kept p L) ++ (Y ++ R)).toArray.toList.drop (i * 4 + Z.length)).toArray))
      have hr3' := hide hr3
      have hic : ¬ (cap = i) := by omega
      have hic2 : i ≤ cap := by omega
      have hin : i ≤ j := by omega
      clear hrow hr3 hX
      generalize wr.setRow r _ = w2 at *
      go_wp2_with fail
      go_ret
      refine ⟨by rw [unhide hKl]; rfl, unhide hg3, _, unhide hr3', ?_⟩
      rw [List.length_append, hZl, unhide hKl]
end Go.Proofs.YtljhgehlaehgnaaGreatDoor
namespace Go.Proofs.YtljhgehlaehgnaaGreatDoor
open Go.RowKit Go.Sort

theorem drewN_below {B : Nat} {a W : World} (h : Below B a W) (n : Nat) : Below B a (W.drewN n) := ⟨h.os, h.tape, h.output, h.size, h.block⟩
/-- is a number a time -/
def timeB (n : Int) : Bool := decide (0 ≤ n) && decide (n ≤ 1099511627776)
theorem isTime_any (n : Int) (w : World) : Calls Tryz.prog 30 #[.int .i64 n] w fun e w' => e = .returned (.bool (timeB n)) ∧ w' = w := by
  unfold timeB
  by_cases h1 : 0 ≤ n
  · by_cases h2 : n ≤ 1099511627776
    · rw [decide_eq_true h1, decide_eq_true h2]
      go_enter Tryz.func30, Tryz.ntmps30
      go_wp2
      go_ret
      exact ⟨rfl, rfl⟩
    · rw [decide_eq_true h1, decide_eq_false h2]
      go_enter Tryz.func30, Tryz.ntmps30
      go_wp2
      go_ret
      exact ⟨rfl, rfl⟩
  · rw [decide_eq_false h1]
    go_enter Tryz.func30, Tryz.ntmps30
    go_wp2
    go_ret
    exact ⟨rfl, rfl⟩
/-- is an entry old -/
def oldE (life now : Int) (e : Ent) : Bool := !e.fix && decide (e.at_ + life ≤ now)
set_option maxRecDepth 100000 in
theorem old_any (g : Nat) (life now : Int) (e : Ent) (w : World) (hg : w.cell? ⟨g, 1, none⟩ = some (.int .i64 life)) (he : e.ok) (h1 : 1 ≤ life) (h2 : life ≤ 1099511627776) :
    Calls Tryz.prog 46 #[.pointer (some ⟨g, 0, none⟩), e.st, .int .i64 now] w fun x w' => x = .returned (.bool (oldE life now e)) ∧ Below w.heap.size w w' := by
  obtain ⟨key, val, at_, fix⟩ := e
  have h3 := he.2.2.2.2.1
  have h4 := he.2.2.2.2.2.1
  clear he
  unfold Ent.st oldE
  simp only at h3 h4 ⊢
  have hgl := block_lt_of_cell hg
  have hg' := ((alloc_below w (.cells #[.int .u64 val, .int .i64 at_, .bool fix] 85)).cell (p := ⟨g, 1, none⟩) hgl).trans hg
  have hB := hide (alloc_below w (.cells #[.int .u64 val, .int .i64 at_, .bool fix] 85))
  clear hg
  cases fix with
  | true =>
    go_enter Tryz.func46, Tryz.ntmps46
    go_wp2_with fail
    go_quiet (fail)
    go_wp2_with fail
    go_ret
    exact ⟨rfl, drewN_below (unhide hB) _⟩
  | false =>
    have hw : IntKind.i64.wrap (at_ + life) = at_ + life := by rw [IntKind.wrap_i64]; omega
    by_cases h : at_ + life ≤ now
    · have hd : decide (at_ + life ≤ now) = true := decide_eq_true h
      rw [hd]
      go_enter Tryz.func46, Tryz.ntmps46
      go_wp2_with fail
      go_quiet (fail)
      go_wp2_with fail
      go_ret
      exact ⟨rfl, drewN_below (unhide hB) _⟩
    · have hd : decide (at_ + life ≤ now) = false := decide_eq_false h
      rw [hd]
      go_enter Tryz.func46, Tryz.ntmps46
      go_wp2_with fail
      go_quiet (fail)
      go_wp2_with fail
      go_ret
      exact ⟨rfl, drewN_below (unhide hB) _⟩
theorem loose_any (e : Ent) (w : World) : Calls Tryz.prog 63 #[e.st] w fun x w' => x = .returned (.bool (!e.fix)) ∧ Below w.heap.size w w' := by
  unfold Ent.st
  go_enter Tryz.func63, Tryz.ntmps63
  go_wp2
  go_ret
  exact ⟨rfl, alloc_below _ _⟩
theorem earlier_any (e d : Ent) (w : World) : Calls Tryz.prog 64 #[e.st, d.st] w fun x w' => x = .returned (.bool (decide (e.at_ < d.at_))) ∧ Below w.heap.size w w' := by
  unfold Ent.st
  have hB := hide (alloc_then (o := .cells #[.int .u64 d.val, .int .i64 d.at_, .bool d.fix] 85) (alloc_below w (.cells #[.int .u64 e.val, .int .i64 e.at_, .bool e.fix] 85)))
  obtain ⟨q, hq⟩ : ∃ q, decide (e.at_ < d.at_) = q := ⟨_, rfl⟩
  rw [hq]
  go_enter Tryz.func64, Tryz.ntmps64
  go_wp2
  go_ret
  exact ⟨rfl, unhide hB⟩
theorem entry_any (k : Int) (e : Ent) (w : World) : Calls Tryz.prog 51 #[.int .u64 k, e.st] w fun x w' => x = .returned (.agg #[.int .u64 k, .int .u64 e.val, .int .i64 e.at_, .bool e.fix]) ∧ Below w.heap.size w w' := by
  unfold Ent.st
  go_enter Tryz.func51, Tryz.ntmps51
  go_wp2_with fail
  refine bodyPost_ret (v := .agg #[.int .u64 k, .int .u64 e.val, .int .i64 e.at_, .bool e.fix]) ?_ rfl ⟨rfl, alloc_then (alloc_below _ _)⟩
  exact results_cell_row rfl _ _ (w.heap.size + 1) 73 _ _ _ rfl (heap_alloc2_new w _ _) Tryz.underlying73 rfl (by kernel_rfl)
set_option maxRecDepth 100000 in
theorem exc_any (b1 b2 g : Nat) (life now : Int) (row : Option Nat) (w : World) (hb1 : w.heap[b1]? = some (.cells #[.pointer (some ⟨g, 0, none⟩)] 47 (0, 0))) (hb2 : w.heap[b2]? = some (.cells #[.int .i64 now] 3 (0, 0)))
    (hg1 : w.cell? ⟨g, 1, none⟩ = some (.int .i64 life)) (hr1 : some b1 ≠ row) (hr2 : some b2 ≠ row) (hr3 : some g ≠ row) (h1 : 1 ≤ life) (h2 : life ≤ 1099511627776) :
    Asks 45 #[.pointer (some ⟨b1, 0, none⟩), .pointer (some ⟨b2, 0, none⟩)] (oldE life now) row w := by
  intro W e he hg
  have c1 : W.cell? ⟨b1, 0, none⟩ = some (.pointer (some ⟨g, 0, none⟩)) := cell_of_one ((hg.block b1 (lt_of_row hb1) hr1).trans hb1)
  have c2 : W.cell? ⟨b2, 0, none⟩ = some (.int .i64 now) := cell_of_one ((hg.block b2 (lt_of_row hb2) hr2).trans hb2)
  have c3 : W.cell? ⟨g, 1, none⟩ = some (.int .i64 life) := hg.cell hg1 hr3
  have b1l := block_lt_of_cell c1
  have b2l := block_lt_of_cell c2
  have b3l := block_lt_of_cell c3
  have hB := alloc_below W (.cells #[.int .u64 e.val, .int .i64 e.at_, .bool e.fix] 85)
  have c1' := (hB.cell (p := ⟨b1, 0, none⟩) b1l).trans c1
  have c2' := (hB.cell (p := ⟨b2, 0, none⟩) b2l).trans c2
  have C := hide (old_any g life now e (W.alloc (.cells #[.int .u64 e.val, .int .i64 e.at_, .bool e.fix] 85)) ((hB.cell (p := ⟨g, 1, none⟩) b3l).trans c3) he h1 h2)
  have HB := hide hB
  clear hB c1 c2 c3 hb1 hb2 hg1 hg
  generalize oldE life now e = q at C ⊢
  simp only [Ent.st] at C ⊢
  go_enter Tryz.func45, Tryz.ntmps45
  go_wp2_with fail
  refine (unhide C).mono ?_
  rintro x w2 ⟨rfl, b2⟩
  have HB2 := hide (bthen (unhide HB) b2)
  clear b2
  go_wp2_with fail
  go_ret
  exact ⟨rfl, unhide HB2⟩
end Go.Proofs.YtljhgehlaehgnaaGreatDoor
namespace Go.Proofs.YtljhgehlaehgnaaGreatDoor
open Go.RowKit Go.Sort

/-- what a deletion leaves: a slice of the same row, owned -/
theorem delf_any (B : Nat) (L : List Ent) (v : Value) (b : Nat) (p : Ent → Bool) (w : World) (ho : Own B w v L) (hok : Oks L) (hc : L.length ≤ 4096) (hp : AsksPart b p v.ownBlock w) :
    ∃ (a : Option Addr) (c m : Nat), m = (kept p L).length ∧ (Value.slice a m c).ownBlock = v.ownBlock ∧ Calls Tryz.prog 59 #[v, .func (.func 60) #[] #[.pointer (some ⟨b, 0, none⟩)]] w fun e w' => e = .returned (.slice a m c) ∧ w.grownBy w' v.ownBlock ∧ Own B w' (.slice a m c) (kept p L) := by
  rcases ho.parts with ⟨rfl, rfl⟩ | ⟨r, cap, R, rfl, hB, hr, hcap, hm, hR⟩
  · refine ⟨none, 0, 0, rfl, rfl, ?_⟩
    have IX := hide (ixf_nil b (.slice none 0 0) w rfl)
    clear ho hok hp
    go_enter Tryz.func59, Tryz.ntmps59
    go_wp2_with fail
    refine (unhide IX).mono ?_
    rintro e w2 ⟨rfl, b2⟩
    go_wp2_with fail
    go_ret
    exact ⟨rfl, grown_of b2 _, World.ownsRow_nil _ _ _ _⟩
  · by_cases hh : ∃ q, ∃ h : q < L.length, p L[q] = true ∧ ∀ j (h : j < L.length), j < q → p L[j] = false
    · obtain ⟨q, hq, h2, h1⟩ := hh
      refine ⟨some ⟨r, 0, none⟩, cap, (kept p L).length, rfl, rfl, ?_⟩
      refine (delf_hit L r cap b q L.length R p w hr hok rfl hc hcap hm hR hp hq h1 (fun _ => h2)).mono ?_
      rintro e w' ⟨rfl, g, R', r', hR'⟩
      have := kept_len p L
      exact ⟨rfl, g, own_of hB r' (by omega) hm (by rw [hR']; omega)⟩
    · have hn : ∀ e ∈ L, p e = false := by
        intro e he
        obtain ⟨j, hj, rfl⟩ := List.mem_iff_getElem.1 he
        induction j using Nat.strongRecOn with
        | ind j ih =>
          cases hpj : p L[j] with
          | false => rfl
          | true => exact absurd ⟨j, hj, hpj, fun i hi hlt => ih i hlt hi (List.getElem_mem _)⟩ hh
      rw [kept_none p L hn]
      refine ⟨some ⟨r, 0, none⟩, cap, L.length, rfl, rfl, ?_⟩
      have IX := hide (ixf_at L r cap b L.length (-1) p (some r) w (prow_of hr) hok hc hp (Nat.le_refl _) (fun j h _ => hn _ (List.getElem_mem _)) (fun h => absurd h (by omega)) (by rw [if_neg (by omega)]))
      have HO := hide ho
      clear hr hok hp hh hn ho
      go_enter Tryz.func59, Tryz.ntmps59
      go_wp2_with fail
      refine (unhide IX).mono ?_
      rintro e w2 ⟨rfl, b2⟩
      go_wp2_with fail
      go_ret
      exact ⟨rfl, grown_of b2 _, (unhide HO).below b2⟩
theorem kept_oks {p : Ent → Bool} {L : List Ent} (h : Oks L) : Oks (kept p L) := h.filter _
theorem kept_srt {p : Ent → Bool} {L : List Ent} (h : Srt L) : Srt (kept p L) := h.filter _
set_option maxRecDepth 100000 in
theorem dropAll_any (B : Nat) (L : List Ent) (v : Value) (g : Nat) (room life : Int) (f : FuncId) (lb : Array Value) (eg : ∀ args w, (callFunc f args).run Tryz.prog w = .ok (.enter f args) w) (p : Ent → Bool) (d : Int) (w : World) (T : Tab B w g room life v L) (hp : Asks f lb p v.ownBlock w)
    (hd : d = (L.length : Int) - ((kept p L).length : Int)) :
    Calls Tryz.prog 44 #[.pointer (some ⟨g, 2, none⟩), .func (.func f) #[] lb] w fun e w' => e = .returned (.int .i64 d) ∧ Turned B g room life v (kept p L) w w' := by
  have hgl := T.lt
  have hB := alloc_below w (.cells #[.func (.func f) #[] lb] 106)
  have hbr : some w.heap.size ≠ v.ownBlock := fun e => by have := (T.vlt _ e.symm).2; omega
  have hrow := heap_alloc_new w (.cells #[.func (.func f) #[] lb] 106)
  have hq := dcl_any f lb eg p v.ownBlock w.heap.size (w.alloc (.cells #[.func (.func f) #[] lb] 106)) hrow hbr (asks_grown hp (grown_of hB _))
  have T1 := T.below hB
  obtain ⟨a, c, m, hm, hob, D⟩ := delf_any B L v w.heap.size p _ T1.own T.oks T.len hq
  have hcx := T1.cell
  have D := hide D
  have hml : (m : Int) ≤ (L.length : Int) := by rw [hm]; have := kept_len p L; omega
  have fin : Hid (∀ w2, (w.alloc (.cells #[.func (.func f) #[] lb] 106)).grownBy w2 v.ownBlock → Own B w2 (.slice a m c) (kept p L) → Turned B g room life v (kept p L) w (w2.setCell ⟨g, 2, none⟩ (.slice a m c))) := by
    intro w2 g2 o2
    exact turned_of T hB g2 (.inl rfl) o2 (.inl hob) (kept_srt T.srt) (kept_oks T.oks) (by have := T.fit; rw [← hm]; omega)
  have hgv : some g ≠ v.ownBlock := fun e => T.apart e.symm
  have hgrow := hide T1.row
  have hlen : L.length ≤ 4096 := T.len
  rw [← hm] at hd
  obtain ⟨av, cv, hv⟩ : ∃ av cv, v = .slice av L.length cv := by
    rcases T.own.parts with ⟨h, rfl⟩ | ⟨r, cap, R, h, _⟩
    · exact ⟨none, 0, h⟩
    · exact ⟨some ⟨r, 0, none⟩, cap, h⟩
  clear hm hob hq hrow T1 T hp hB
  subst hv
  generalize L.length = n at *
  go_enter Tryz.func44, Tryz.ntmps44
  go_wp2_with fail
  refine (unhide D).mono ?_
  rintro e w2 ⟨rfl, g2, o2⟩
  have r2 := (g2.block g (lt_of_row (unhide hgrow)) hgv).trans (unhide hgrow)
  have hc2 := (cells3 r2).2.2.1
  have hf2 := (cells3 r2).2.2.2.2.2
  have fin2 := hide (unhide fin w2 g2 o2)
  clear D fin r2 g2 o2 hgrow
  go_wp2_with fail
  go_ret
  exact ⟨by rw [hd]; rfl, unhide fin2⟩
end Go.Proofs.YtljhgehlaehgnaaGreatDoor
namespace Go.Proofs.YtljhgehlaehgnaaGreatDoor
open Go.RowKit Go.Sort

theorem enters_exc : ∀ args w, (callFunc 45 args).run Tryz.prog w = .ok (.enter 45 args) w := enters_of Tryz.func45 (by kernel_rfl) rfl
/-- has a value, and is not fixed -/
def hasVal (val : Int) (e : Ent) : Bool := !e.fix && e.val == val
theorem expire_no (B : Nat) (L : List Ent) (v : Value) (g : Nat) (room life now : Int) (w : World) (T : Tab B w g room life v L) (h : timeB now = false) :
    Calls Tryz.prog 32 #[.pointer (some ⟨g, 0, none⟩), .int .i64 now] w fun e w' => e = .returned (.int .i64 0) ∧ Turned B g room life v L w w' := by
  have C := hide (fun W => isTime_any now W)
  rw [h] at C
  have HT := hide T
  clear T h
  go_enter Tryz.func32, Tryz.ntmps32
  go_wp2_with fail
  refine (unhide C _).mono ?_
  rintro e w2 ⟨rfl, rfl⟩
  go_wp2_with fail
  go_ret
  exact ⟨rfl, turned_same (unhide HT) (alloc_then (alloc_below _ _))⟩
theorem turned_from {B : Nat} {w w1 w2 : World} {g : Nat} {room life : Int} {v : Value} {L : List Ent} (b : Below w.heap.size w w1) (t : Turned B g room life v L w1 w2) : Turned B g room life v L w w2 := by
  obtain ⟨v', a, c, d⟩ := t
  exact ⟨v', a, (But2.of b).trans (Nb.refl _ _) c, d.elim .inl fun d => .inr fun k hk => Nat.le_trans b.size (d k hk)⟩
set_option maxRecDepth 100000 in
theorem expire_yes (B : Nat) (L : List Ent) (v : Value) (g : Nat) (room life now d : Int) (w : World) (T : Tab B w g room life v L) (h : timeB now = true) (hd : d = (L.length : Int) - ((kept (oldE life now) L).length : Int)) :
    Calls Tryz.prog 32 #[.pointer (some ⟨g, 0, none⟩), .int .i64 now] w fun e w' => e = .returned (.int .i64 d) ∧ Turned B g room life v (kept (oldE life now) L) w w' := by
  have C := hide (fun W => isTime_any now W)
  rw [h] at C
  have hgl := T.lt
  have hB1 := alloc_below w (.cells #[.pointer (some ⟨g, 0, none⟩)] 47)
  have hB2 := alloc_then (o := .cells #[.int .i64 now] 3) hB1
  have hs : (w.alloc (.cells #[.pointer (some ⟨g, 0, none⟩)] 47)).heap.size = w.heap.size + 1 := by simp
  have r2 := heap_alloc_new (w.alloc (.cells #[.pointer (some ⟨g, 0, none⟩)] 47)) (.cells #[.int .i64 now] 3)
  rw [hs] at r2
  have r1 := Below.row (alloc_below (w.alloc (.cells #[.pointer (some ⟨g, 0, none⟩)] 47)) (.cells #[.int .i64 now] 3)) (heap_alloc_new w (.cells #[.pointer (some ⟨g, 0, none⟩)] 47))
  have T2 := T.below hB2
  have n1 : some w.heap.size ≠ v.ownBlock := fun e => by have := (T.vlt _ e.symm).2; omega
  have n2 : some (w.heap.size + 1) ≠ v.ownBlock := fun e => by have := (T.vlt _ e.symm).2; omega
  have A := exc_any w.heap.size (w.heap.size + 1) g life now v.ownBlock _ r1 r2 (cells3 T2.row).2.1 n1 n2 (fun e => T.apart e.symm) T.life1 T.life2
  have D := hide (dropAll_any B L v g room life 45 #[.pointer (some ⟨w.heap.size, 0, none⟩), .pointer (some ⟨w.heap.size + 1, 0, none⟩)] enters_exc (oldE life now) d _ T2 A hd)
  have HB := hide hB2
  clear A hd T hB1 hB2 T2 r1 r2 h n1 n2
  go_enter Tryz.func32, Tryz.ntmps32
  go_wp2_with fail
  refine (unhide C _).mono ?_
  rintro e w2 ⟨rfl, rfl⟩
  go_wp2_with fail
  refine (unhide D).mono ?_
  rintro e w2 ⟨rfl, t2⟩
  have t3 := hide (turned_from (unhide HB) t2)
  clear t2
  go_wp2_with fail
  go_ret
  exact ⟨rfl, unhide t3⟩
/-- may a room, and a life, be -/
def newOk (room life : Int) : Prop := 1 ≤ room ∧ room ≤ 4096 ∧ 1 ≤ life ∧ life ≤ 1099511627776
theorem new_ok (B : Nat) (room life : Int) (w : World) (h : newOk room life) (hB : B ≤ w.heap.size) :
    Calls Tryz.prog 13 #[.int .i64 room, .int .i64 life] w fun e w' => e = .returned (.tuple #[.pointer (some ⟨w.heap.size, 0, none⟩), .int .i64 0]) ∧ Below w.heap.size w w' ∧ Tab B w' w.heap.size room life (.slice none 0 0) [] := by
  obtain ⟨h1, h2, h3, h4⟩ := h
  have n1 : ¬ room < 1 := by omega
  have n2 : ¬ 4096 < room := by omega
  have n3 : ¬ life < 1 := by omega
  have n4 : ¬ 1099511627776 < life := by omega
  have HT : Hid (Tab B (w.alloc (.cells #[.int .i64 room, .int .i64 life, .slice none 0 0] 82)) w.heap.size room life (.slice none 0 0) []) :=
    ⟨heap_alloc_new _ _, World.ownsRow_nil _ _ _ _, hB, by simp [Value.ownBlock], List.Pairwise.nil, fun _ h => (by cases h), by simp; omega, h1, h2, h3, h4⟩
  go_enter Tryz.func13, Tryz.ntmps13
  go_wp2
  go_ret2
  exact ⟨rfl, alloc_below _ _, unhide HT⟩
theorem new_no (room life : Int) (w : World) (h : ¬ newOk room life) :
    Calls Tryz.prog 13 #[.int .i64 room, .int .i64 life] w fun e w' => e = .returned (.tuple #[.pointer none, .int .i64 1]) ∧ w' = w := by
  by_cases h1 : room < 1
  · go_enter Tryz.func13, Tryz.ntmps13
    go_wp2
    go_ret2
    exact ⟨rfl, rfl⟩
  · by_cases h2 : 4096 < room
    · go_enter Tryz.func13, Tryz.ntmps13
      go_wp2
      go_ret2
      exact ⟨rfl, rfl⟩
    · by_cases h3 : life < 1
      · go_enter Tryz.func13, Tryz.ntmps13
        go_wp2
        go_ret2
        exact ⟨rfl, rfl⟩
      · have h4 : 1099511627776 < life := by
          unfold newOk at h; omega
        clear h
        go_enter Tryz.func13, Tryz.ntmps13
        go_wp2
        go_ret2
        exact ⟨rfl, rfl⟩
end Go.Proofs.YtljhgehlaehgnaaGreatDoor
namespace Go.Proofs.YtljhgehlaehgnaaGreatDoor
open Go.RowKit Go.Sort

/-- an entry, as it is told -/
def Ent.ent (e : Ent) : Value := .agg #[.int .u64 e.key, .int .u64 e.val, .int .i64 e.at_, .bool e.fix]
/-- no entry -/
def noEnt : Value := .agg #[.int .u64 0, .int .u64 0, .int .i64 0, .bool false]
/-- what is told of a key -/
def told (life now : Int) (o : Option Ent) : Option Ent := o.filter fun e => timeB now && !oldE life now e
/-- an entry that is told, or none -/
def entO : Option Ent → Value
  | some e => .tuple #[e.ent, .bool true]
  | none => .tuple #[noEnt, .bool false]
theorem look_key {L : List Ent} {k : Int} {e : Ent} (h : look L k = some e) : e.key = k := by simpa using List.find?_some h
theorem look_mem {L : List Ent} {k : Int} {e : Ent} (h : look L k = some e) : e ∈ L := List.mem_of_find?_eq_some h
set_option maxRecDepth 100000 in
theorem tget_none (B : Nat) (L : List Ent) (v : Value) (g : Nat) (room life key now : Int) (w : World) (T : Tab B w g room life v L) (h : look L key = none) :
    Calls Tryz.prog 37 #[.pointer (some ⟨g, 0, none⟩), .int .u64 key, .int .i64 now] w fun e w' => e = .returned (.tuple #[noEnt, .bool false]) ∧ Below w.heap.size w w' := by
  have b0 := alloc_below w (.cells #[.int .u64 0, .int .u64 0, .int .i64 0, .bool false] 73)
  have T0 := T.below b0
  have C := hide (get_none B L v g 2 key _ T0.cell T0.own T0.len T0.srt h)
  have r0 := hide (heap_alloc_new w (.cells #[.int .u64 0, .int .u64 0, .int .i64 0, .bool false] 73))
  have B0 := hide b0
  clear T T0 h b0
  unfold noEnt
  go_enter Tryz.func37, Tryz.ntmps37
  go_wp2_with fail
  refine (unhide C).mono ?_
  rintro e w1 ⟨rfl, b1⟩
  have b2 := alloc_then (o := .cells #[.int .u64 0, .int .i64 0, .bool false] 85) (bthen (unhide B0) b1)
  have r2 := Below.row (alloc_below w1 (.cells #[.int .u64 0, .int .i64 0, .bool false] 85)) (Below.row b1 (unhide r0))
  have B2 := hide b2
  have R2 := hide r2
  have hf := cells4 r2
  clear b1 b2 B0 r0 C r2
  go_wp2_with fail
  refine bodyPost_ret (v := .tuple #[.agg #[.int .u64 0, .int .u64 0, .int .i64 0, .bool false], .bool false]) ?_ rfl ⟨rfl, below4 (unhide B2) (Nat.le_refl _)⟩
  exact results_row2 rfl _ _ w.heap.size 73 _ _ _ _ rfl rfl (set4 (unhide R2)) Tryz.underlying73 rfl (by kernel_rfl)
set_option maxRecDepth 100000 in
theorem tget_gone (B : Nat) (L : List Ent) (v : Value) (g : Nat) (room life key now : Int) (x : Ent) (w : World) (T : Tab B w g room life v L) (h : look L key = some x) (ht : timeB now = false ∨ oldE life now x = true) :
    Calls Tryz.prog 37 #[.pointer (some ⟨g, 0, none⟩), .int .u64 key, .int .i64 now] w fun e w' => e = .returned (.tuple #[noEnt, .bool false]) ∧ Below w.heap.size w w' := by
  have hgl := T.lt
  have b0 := alloc_below w (.cells #[.int .u64 0, .int .u64 0, .int .i64 0, .bool false] 73)
  have T0 := T.below b0
  have C := hide (get_some B L v g 2 key x _ T0.cell T0.own T0.len T0.srt h)
  have r0 := hide (heap_alloc_new w (.cells #[.int .u64 0, .int .u64 0, .int .i64 0, .bool false] 73))
  have B0 := hide b0
  have hx := hide (T.oks x (look_mem h))
  have HT := hide T
  have I := hide (fun W => isTime_any now W)
  clear T T0 h b0
  unfold noEnt
  unfold Ent.st at C
  go_enter Tryz.func37, Tryz.ntmps37
  go_wp2_with fail
  refine (unhide C).mono ?_
  rintro e w1 ⟨rfl, b1⟩
  have b2 := alloc_then (o := .cells #[.int .u64 x.val, .int .i64 x.at_, .bool x.fix] 85) (bthen (unhide B0) b1)
  have r2 := Below.row (alloc_below w1 (.cells #[.int .u64 x.val, .int .i64 x.at_, .bool x.fix] 85)) (Below.row b1 (unhide r0))
  have O := hide (old_any g life now x (w1.alloc (.cells #[.int .u64 x.val, .int .i64 x.at_, .bool x.fix] 85)) (cells3 (((unhide HT).below b2).row)).2.1 (unhide hx) (unhide HT).life1 (unhide HT).life2)
  unfold Ent.st at O
  have B2 := hide b2
  have R2 := hide r2
  have hf := cells4 r2
  clear b1 b2 B0 r0 C r2 HT hx
  cases htm : timeB now with
  | false =>
    rw [htm] at I
    clear htm ht O
    go_wp2_with fail
    refine (unhide I _).mono ?_
    rintro e w2 ⟨rfl, rfl⟩
    go_wp2_with fail
    refine bodyPost_ret (v := .tuple #[.agg #[.int .u64 0, .int .u64 0, .int .i64 0, .bool false], .bool false]) ?_ rfl ⟨rfl, below4 (unhide B2) (Nat.le_refl _)⟩
    exact results_row2 rfl _ _ w.heap.size 73 _ _ _ _ rfl rfl (set4 (unhide R2)) Tryz.underlying73 rfl (by kernel_rfl)
  | true =>
    rw [htm] at I
    have ho : oldE life now x = true := by simpa [htm] using ht
    rw [ho] at O
    clear htm ht ho hf
    go_wp2_with fail
    refine (unhide I _).mono ?_
    rintro e w2 ⟨rfl, rfl⟩
    go_wp2_with fail
    refine (unhide O).mono ?_
    rintro e w3 ⟨rfl, b3⟩
    have B3 := hide (bthen (unhide B2) b3)
    have r3 := Below.row b3 (unhide R2)
    have R3 := hide r3
    have hf := cells4 r3
    clear b3 r3 R2 B2
    go_wp2_with fail
    refine bodyPost_ret (v := .tuple #[.agg #[.int .u64 0, .int .u64 0, .int .i64 0, .bool false], .bool false]) ?_ rfl ⟨rfl, below4 (unhide B3) (Nat.le_refl _)⟩
    exact results_row2 rfl _ _ w.heap.size 73 _ _ _ _ rfl rfl (set4 (unhide R3)) Tryz.underlying73 rfl (by kernel_rfl)
set_option maxRecDepth 100000 in
theorem tget_some (B : Nat) (L : List Ent) (v : Value) (g : Nat) (room life key now : Int) (x : Ent) (w : World) (T : Tab B w g room life v L) (h : look L key = some x) (ht : timeB now = true) (ho : oldE life now x = false) :
    Calls Tryz.prog 37 #[.pointer (some ⟨g, 0, none⟩), .int .u64 key, .int .i64 now] w fun e w' => e = .returned (.tuple #[x.ent, .bool true]) ∧ Below w.heap.size w w' := by
  have hgl := T.lt
  have b0 := alloc_below w (.cells #[.int .u64 0, .int .u64 0, .int .i64 0, .bool false] 73)
  have T0 := T.below b0
  have C := hide (get_some B L v g 2 key x _ T0.cell T0.own T0.len T0.srt h)
  have r0 := hide (heap_alloc_new w (.cells #[.int .u64 0, .int .u64 0, .int .i64 0, .bool false] 73))
  have B0 := hide b0
  have hx := hide (T.oks x (look_mem h))
  have HT := hide T
  have I := hide (fun W => isTime_any now W)
  rw [ht] at I
  have E := hide (fun W => entry_any key x W)
  have hk := look_key h
  clear T T0 h b0 ht
  unfold Ent.ent
  rw [hk]
  clear hk
  unfold Ent.st at C E
  go_enter Tryz.func37, Tryz.ntmps37
  go_wp2_with fail
  refine (unhide C).mono ?_
  rintro e w1 ⟨rfl, b1⟩
  have b2 := alloc_then (o := .cells #[.int .u64 x.val, .int .i64 x.at_, .bool x.fix] 85) (bthen (unhide B0) b1)
  have r2 := Below.row (alloc_below w1 (.cells #[.int .u64 x.val, .int .i64 x.at_, .bool x.fix] 85)) (Below.row b1 (unhide r0))
  have s2 := hide (heap_alloc_new w1 (.cells #[.int .u64 x.val, .int .i64 x.at_, .bool x.fix] 85))
  have O := hide (old_any g life now x (w1.alloc (.cells #[.int .u64 x.val, .int .i64 x.at_, .bool x.fix] 85)) (cells3 (((unhide HT).below b2).row)).2.1 (unhide hx) (unhide HT).life1 (unhide HT).life2)
  unfold Ent.st at O
  rw [ho] at O
  have B2 := hide b2
  have R2 := hide r2
  clear b1 b2 B0 r0 C r2 HT hx ho
  go_wp2_with fail
  refine (unhide I _).mono ?_
  rintro e w2 ⟨rfl, rfl⟩
  go_wp2_with fail
  refine (unhide O).mono ?_
  rintro e w3 ⟨rfl, b3⟩
  have hs := cells3 (Below.row b3 (unhide s2))
  have B3 := hide (bthen (unhide B2) b3)
  have R3 := hide (Below.row b3 (unhide R2))
  clear b3 R2 B2 s2 O I
  go_wp2_with fail
  refine (unhide E _).mono ?_
  rintro e w4 ⟨rfl, b4⟩
  have B4 := hide (bthen (unhide B3) b4)
  have r4 := Below.row b4 (unhide R3)
  have R4 := hide r4
  have hf := cells4 r4
  clear b4 r4 R3 B3 E hs
  go_wp2_with fail
  refine bodyPost_ret (v := .tuple #[.agg #[.int .u64 key, .int .u64 x.val, .int .i64 x.at_, .bool x.fix], .bool true]) ?_ rfl ⟨rfl, below4 (unhide B4) (Nat.le_refl _)⟩
  exact results_row2 rfl _ _ w.heap.size 73 _ _ _ _ rfl rfl (set4 (unhide R4)) Tryz.underlying73 rfl (by kernel_rfl)
theorem tget_any (B : Nat) (L : List Ent) (v : Value) (g : Nat) (room life key now : Int) (w : World) (T : Tab B w g room life v L) :
    Calls Tryz.prog 37 #[.pointer (some ⟨g, 0, none⟩), .int .u64 key, .int .i64 now] w fun e w' => e = .returned (entO (told life now (look L key))) ∧ Below w.heap.size w w' := by
  cases h : look L key with
  | none => exact tget_none B L v g room life key now w T h
  | some x =>
    cases ht : timeB now with
    | false =>
      rw [show told life now (some x) = none by simp [told, ht]]
      exact tget_gone B L v g room life key now x w T h (.inl ht)
    | true =>
      cases ho : oldE life now x with
      | true =>
        rw [show told life now (some x) = none by simp [told, ho]]
        exact tget_gone B L v g room life key now x w T h (.inr ho)
      | false =>
        rw [show told life now (some x) = some x by simp [told, ht, ho]]
        exact tget_some B L v g room life key now x w T h ht ho
end Go.Proofs.YtljhgehlaehgnaaGreatDoor
namespace Go.Proofs.YtljhgehlaehgnaaGreatDoor
open Go.RowKit Go.Sort

theorem wpList_copy_k {P : Program} {w : World} {ops : Array Oper} {rest : List Oper} {o : Oper} {a : Act} {Q : Exit → Act → World → Prop} (hgd : o.guard = none) (d s : Operand) (dT sT : TypeId)
    (ho : o.op = .call { callee := .builtin .copy, args := #[d, s], argTypes := #[dT, sT] }) (elem : TypeId) (size : Nat) (hu : P.underlying dT = some (.slice elem)) (hsz : (P.info? elem).map (·.size) = some size)
    (g off dLen dCap : Nat) (ad : Addr) (sLen sCap : Nat) (hd : a.eval d = .slice (some ⟨g, off, none⟩) dLen dCap) (hs : a.eval s = .slice (some ad) sLen sCap)
    (cur : Array Value) (t : TypeId) (hg : w.heap[g]? = some (.cells cur t (0, 0))) (m : Nat) (hm : m = Nat.min sLen dLen) (cs : List Value) (hn : cs.length = m * size)
    (hsrc : ∀ j v, cs[j]? = some v → w.cell? (ad.add j) = some v) (hfit : off + cs.length ≤ cur.size) (h1 : ∀ v ∈ cs, v.oneCell' = true)
    (h : ∀ w', Hid (w'.heap[g]? = some (.cells (cur.toList.take off ++ cs ++ cur.toList.drop (off + cs.length)).toArray t (0, 0))) → w.grownBy w' (some g) → wpList P ops Q rest (a.put o.dst (goInt m)) w') : wpList P ops Q (o :: rest) a w := by
  refine wpList_plain hgd fun K hK => ?_
  have hrun := run_copy_k (P := P) w dT sT o.type elem size g off dLen dCap ad sLen sCap m cur t cs hu hsz hg hm hn hsrc hfit h1
  unfold Oper.wp
  simp only [execOp, ho, resolve, invoke, builtin, Sem.run_bind, Sem.run_pure, Result.andThen_ok, List.map_toArray, List.map_cons, List.map_nil, hd, hs, hrun]
  exact hK _ _ (h _ (setRow_heap w g cur _ t (0, 0) hg) (setRow_grown w g _))
theorem step_copy_k {P : Program} {w : World} {ops : Array Oper} {o : Oper} {a : Act} {K : Act → World → Prop} {Q : Exit → Act → World → Prop} {E : Prop} (hgd : o.guard = none) (d s : Operand) (dT sT : TypeId)
    (ho : o.op = .call { callee := .builtin .copy, args := #[d, s], argTypes := #[dT, sT] }) (elem : TypeId) (size : Nat) (hu : P.underlying dT = some (.slice elem)) (hsz : (P.info? elem).map (·.size) = some size)
    (g off dLen dCap : Nat) (ad : Addr) (sLen sCap : Nat) (hd : a.eval d = .slice (some ⟨g, off, none⟩) dLen dCap) (hs : a.eval s = .slice (some ad) sLen sCap)
    (cur : Array Value) (t : TypeId) (hg : w.heap[g]? = some (.cells cur t (0, 0))) (m : Nat) (hm : m = Nat.min sLen dLen) (cs : List Value) (hn : cs.length = m * size)
    (hsrc : ∀ j v, cs[j]? = some v → w.cell? (ad.add j) = some v) (hfit : off + cs.length ≤ cur.size) (h1 : ∀ v ∈ cs, v.oneCell' = true)
    (h : ∀ w', Hid (w'.heap[g]? = some (.cells (cur.toList.take off ++ cs ++ cur.toList.drop (off + cs.length)).toArray t (0, 0))) → w.grownBy w' (some g) → K (a.put o.dst (goInt m)) w') :
    if Region.wanted o (yielded ops a.tmps) = true then Oper.wp P o a w K Q else E := by
  have hw : Region.wanted o (yielded ops a.tmps) = true := by simp [Region.wanted, hgd]
  rw [if_pos hw]
  have hrun := run_copy_k (P := P) w dT sT o.type elem size g off dLen dCap ad sLen sCap m cur t cs hu hsz hg hm hn hsrc hfit h1
  unfold Oper.wp
  simp only [execOp, ho, resolve, invoke, builtin, Sem.run_bind, Sem.run_pure, Result.andThen_ok, List.map_toArray, List.map_cons, List.map_nil, hd, hs, hrun]
  exact h _ (setRow_heap w g cur _ t (0, 0) hg) (setRow_grown w g _)

/-- what an insertion leaves -/
def Inserted (B : Nat) (v : Value) (L' : List Ent) (w : World) (e : Ending) (w' : World) : Prop :=
  ∃ (a : Option Addr) (m c : Nat), e = .returned (.slice a m c) ∧ Own B w' (.slice a m c) L' ∧ w.grownBy w' v.ownBlock ∧ Nb w v.ownBlock (Value.slice a m c).ownBlock
theorem src4 {w : World} {vb : Nat} {x : Ent} (h : w.heap[vb]? = some (.cells #[.int .u64 x.key, .int .u64 x.val, .int .i64 x.at_, .bool x.fix] 101 (0, 0))) : ∀ j u, x.cs[j]? = some u → w.cell? ((⟨vb, 0, none⟩ : Addr).add j) = some u := by
  intro j u hu
  rw [Addr.add_lit, Nat.zero_add, cell_of_row w vb j _ _ _ h]
  simpa [Ent.cs] using hu
theorem cs4_one (x : Ent) : ∀ u ∈ x.cs, u.oneCell' = true := by
  have := cs_oneCell [x]
  rw [cs_one] at this
  exact this
theorem inserted_own {B : Nat} {v v' : Value} {L : List Ent} {x : Ent} {w w' : World} (h : Own B w' v' (L ++ [x])) (hg : w.grownBy w' v.ownBlock) (hat : v'.ownBlock = v.ownBlock ∨ v'.ownBlock = some w.heap.size) : Inserted B v (L ++ [x]) w (.returned v') w' := by
  rcases h.parts with ⟨_, h0⟩ | ⟨r, cap, R, hv, _⟩
  · simp at h0
  · subst hv
    refine ⟨_, _, _, rfl, h, hg, ?_⟩
    rcases hat with h | h
    · exact .inl h
    · exact .inr fun k hk => by rw [h] at hk; simp at hk; omega
set_option maxRecDepth 100000 in
theorem ins_nil (B vb : Nat) (x : Ent) (w : World) (hB : B ≤ w.heap.size) (hvb : w.heap[vb]? = some (.cells #[.int .u64 x.key, .int .u64 x.val, .int .i64 x.at_, .bool x.fix] 101 (0, 0))) :
    Calls Tryz.prog 66 #[.slice none 0 0, .int .i64 0, .slice (some ⟨vb, 0, none⟩) 1 1] w fun e w' => Inserted B (.slice none 0 0) [x] w e w' := by
  obtain ⟨i0, hi0, hz0, hz1, hz2⟩ := info_parts Tryz.infoPart
  have s1 := hide (src4 hvb)
  clear hvb
  go_enter Tryz.func66, Tryz.ntmps66
  go_wp2_with (first | (at_builtin; refine wpList_append_own_at _ rfl (.tmp 23) (.tmp 24) 78 rfl B 101 i0 _ 4 32 Tryz.underlying78 hi0 hz0 hz1 hz2 rfl (by decide) _ 0 [] rfl (World.ownsRow_nil _ _ _ _) ⟨vb, 0, none⟩ 1 1 x.cs rfl rfl (unhide s1) (cs4_one x) (by unfold maxLen; omega) (by omega) hB ?_; intro v' w1 ho1 hg1 hn1 hat1))
  have H1 := hide ho1
  have H2 := hide hg1
  have H3 := hide hat1
  clear ho1 hg1 hn1 hat1
  go_wp2
  go_ret
  exact inserted_own (L := []) (unhide H1) (unhide H2) (unhide H3)
set_option maxRecDepth 100000 in
theorem ins_end (B vb : Nat) (L : List Ent) (r cap n : Nat) (x : Ent) (w : World) (ho : Own B w (.slice (some ⟨r, 0, none⟩) n cap) L) (hn : L.length = n) (hc : n ≤ 4096) (hm : cap ≤ maxLen) (hB : B ≤ w.heap.size)
    (hvb : w.heap[vb]? = some (.cells #[.int .u64 x.key, .int .u64 x.val, .int .i64 x.at_, .bool x.fix] 101 (0, 0))) :
    Calls Tryz.prog 66 #[.slice (some ⟨r, 0, none⟩) n cap, .int .i64 n, .slice (some ⟨vb, 0, none⟩) 1 1] w fun e w' => Inserted B (.slice (some ⟨r, 0, none⟩) n cap) (L ++ [x]) w e w' := by
  obtain ⟨i0, hi0, hz0, hz1, hz2⟩ := info_parts Tryz.infoPart
  obtain ⟨ad, hA⟩ : ∃ ad : Addr, (if cap = n then some (⟨r, 0, none⟩ : Addr) else some ⟨r, n * 4, none⟩) = some ad := by
    by_cases h : cap = n
    · exact ⟨_, if_pos h⟩
    · exact ⟨_, if_neg h⟩
  have s1 := hide (src4 hvb)
  have HO := hide (show w.ownsRow B 101 4 (.slice (some ⟨r, 0, none⟩) n cap) n (cs L) from by rw [← hn]; rw [← hn] at ho; exact ho)
  have hcm : cap ≤ 9223372036854775807 := by unfold maxLen at hm; omega
  clear hvb ho
  go_enter Tryz.func66, Tryz.ntmps66
  go_wp2_with (first | (at_builtin; refine wpList_append_own_at _ rfl (.tmp 23) (.tmp 24) 78 rfl B 101 i0 _ 4 32 Tryz.underlying78 hi0 hz0 hz1 hz2 rfl (by decide) _ n (cs L) rfl (unhide HO) ⟨vb, 0, none⟩ 1 1 x.cs rfl rfl (unhide s1) (cs4_one x) (by unfold maxLen; omega) (by omega) hB ?_; intro v' w1 ho1 hg1 hn1 hat1))
  have H1 := hide ho1
  have H2 := hide hg1
  have H3 := hide hat1
  clear ho1 hg1 hn1 hat1
  go_wp2
  go_ret
  refine inserted_own ?_ (unhide H2) (unhide H3)
  have h := unhide H1
  show World.ownsRow _ _ _ _ _ _ _
  rw [List.length_append, hn, cs_append, cs_one]
  exact h
end Go.Proofs.YtljhgehlaehgnaaGreatDoor
namespace Go.Proofs.YtljhgehlaehgnaaGreatDoor
open Go.RowKit

theorem Tryz.sizePart : (Tryz.prog.info? 101).map (·.size) = some 4 := by kernel_rfl
set_option maxHeartbeats 1000000 in
set_option maxRecDepth 100000 in
theorem ins_room (B vb : Nat) (A D : List Ent) (r cap i n : Nat) (x : Ent) (R : List Value) (w : World) (hr : w.heap[r]? = some (.cells (cs (A ++ D) ++ R).toArray 101 (0, 0))) (hi : A.length = i) (hn : (A ++ D).length = n) (hin : i < n) (hc : n ≤ 4096)
    (hcap : n + 1 ≤ cap) (hm : cap ≤ maxLen) (hR : n * 4 + R.length = cap * 4) (hB : B ≤ r) (hvr : vb ≠ r)
    (hvb : w.heap[vb]? = some (.cells #[.int .u64 x.key, .int .u64 x.val, .int .i64 x.at_, .bool x.fix] 101 (0, 0))) :
    Calls Tryz.prog 66 #[.slice (some ⟨r, 0, none⟩) n cap, .int .i64 i, .slice (some ⟨vb, 0, none⟩) 1 1] w fun e w' => Inserted B (.slice (some ⟨r, 0, none⟩) n cap) (A ++ x :: D) w e w' := by
  have hcm : cap ≤ 9223372036854775807 := by unfold maxLen at hm; omega
  have hD : D.length = n - i := by rw [← hn]; simp; omega
  have hov : ∀ lb cb, (callFunc 75 #[.slice (some ⟨vb, 0, none⟩) 1 1, .slice (some ⟨r, (i + 1) * 4, none⟩) lb cb]).run Tryz.prog w = .ok (.value (.bool false)) w := fun lb cb => by
    rw [run_callFunc_extern Tryz.func75 (by kernel_rfl) (by kernel_rfl) (by kernel_rfl) (e := Extern.SlicesOverlaps.overlaps #[78, 78] #[4]) (by kernel_rfl),
      Lib.run_overlaps_apart w 78 4 101 Tryz.underlying78 4 Tryz.sizeOf101 ⟨vb, 0, none⟩ ⟨r, (i + 1) * 4, none⟩ 1 1 lb cb hvr 101 101 4 ((cs (A ++ D) ++ R).toArray.size) (by simp [World.shape?, hvb]) (by simp [World.shape?, hr])
        (by rw [List.size_toArray, List.length_append, cs_length, hn]; omega) (frozen_of_row w vb 0 _ _ hvb) (frozen_of_row w vb 4 _ _ hvb)]
    rfl
  have hcs : (cs (A ++ D)).length = n * 4 := by rw [cs_length, hn]
  have hrd : Hid (w.drew.heap[r]? = some (.cells (cs (A ++ D) ++ R).toArray 101 (0, 0))) := hr
  have s1 : Hid ((cs D).length = (n - i) * 4) := by show _ = _; rw [cs_length, hD]
  have s3 : Hid ((i + 1) * 4 + (cs D).length ≤ (cs (A ++ D) ++ R).toArray.size) := by
    show _ ≤ _
    rw [List.size_toArray, List.length_append, hcs, cs_length, hD]; omega
  have hsrc : Hid (∀ t u, (cs D)[t]? = some u → w.drew.cell? ((⟨r, i * 4, none⟩ : Addr).add t) = some u) := by
    intro t u hu
    rw [Addr.add_lit]
    show w.cell? _ = _
    have ht : t < (cs D).length := (List.getElem?_eq_some_iff.1 hu).1
    rw [cell_of_row w r _ _ _ _ hr, List.getElem?_toArray, List.getElem?_append_left (by rw [hcs]; rw [cs_length, hD] at ht; omega), cs_append, List.getElem?_append_right (by rw [cs_length, hi]; omega), cs_length, hi, Nat.add_sub_cancel_left]
    exact hu
  -- the row behind both copies
  have hfin : Hid (∀ cur1 : List Value, cur1 = (cs (A ++ D) ++ R).take ((i + 1) * 4) ++ cs D ++ (cs (A ++ D) ++ R).drop ((i + 1) * 4 + (cs D).length) →
      i * 4 + x.cs.length ≤ cur1.length ∧ cur1.take (i * 4) ++ x.cs ++ cur1.drop (i * 4 + x.cs.length) = cs (A ++ x :: D) ++ (cs (A ++ D) ++ R).drop ((i + 1) * 4 + (cs D).length)) := by
    intro cur1 h
    have hx4 : x.cs.length = 4 := rfl
    have hl : ((cs (A ++ D) ++ R).take ((i + 1) * 4)).length = (i + 1) * 4 := by rw [List.length_take, List.length_append, hcs]; omega
    have ht : cur1.take (i * 4) = cs A := by
      rw [h, List.append_assoc, List.take_append_of_le_length (by omega), List.take_take, show min (i * 4) ((i + 1) * 4) = i * 4 by omega, List.take_append_of_le_length (by rw [hcs]; omega), ← hi, cs_take, List.take_left]
    have hd : cur1.drop (i * 4 + x.cs.length) = cs D ++ (cs (A ++ D) ++ R).drop ((i + 1) * 4 + (cs D).length) := by
      rw [h, hx4, show i * 4 + 4 = (i + 1) * 4 by omega, List.append_assoc]
      exact List.drop_left' hl
    refine ⟨?_, ?_⟩
    · rw [h, List.length_append, List.length_append, hl, hx4, cs_length D, hD]; omega
    · rw [ht, hd, cs_append A (x :: D), cs_cons]; simp
  have hL0 : (A ++ x :: D).length = n + 1 := by rw [← hn]; simp; omega
  have hRl : Hid ((A ++ x :: D).length * 4 + ((cs (A ++ D) ++ R).drop ((i + 1) * 4 + (cs D).length)).length = cap * 4) := by
    show _ = _
    have e : (cs (A ++ D) ++ R).length = n * 4 + R.length := by rw [List.length_append, hcs]
    rw [List.length_drop, e, hL0, cs_length, hD]; omega
  have hL1 := hide hL0
  clear hL0
  have hvs := hide (src4 hvb)
  have HV := hide hvb
  have e1 : ¬ (cap = i) := by omega
  have e2 : ¬ (cap = i + 1) := by omega
  have e3 : i ≤ n + 1 := by omega
  have e6 : i ≤ n := by omega
  have e4 : i + 1 ≤ n + 1 := by omega
  have e5 : i ≤ cap := by omega
  have HVR := hide hvr
  have S1 := hide (show n - i = Nat.min (n + 1 - i) (n - i) by simp only [Nat.min_def]; split <;> omega)
  have hw1 : IntKind.i64.wrap ((i : Int) + 1) = (i : Int) + 1 := by rw [IntKind.wrap_i64]; omega
  have hb1 : (0 : Int) ≤ (i : Int) + 1 := by omega
  have htn : ((i : Int) + 1).toNat = i + 1 := by omega
  have hb3 : (i : Int) ≤ (n : Int) + 1 := by omega
  clear hr hi hn hvb hvr hD hcs
  go_enter Tryz.func66, Tryz.ntmps66
  go_wp2_with (simp only [hov])
  go_region_law (refine step_copy_k rfl (.tmp 73) (.tmp 76) 78 78 rfl 101 4 Tryz.underlying78 Tryz.sizePart r ((i + 1) * 4) (n - i) (cap - (i + 1)) ⟨r, i * 4, none⟩ (n + 1 - i) (cap - i) (by simp [Act.eval, Act.put]) (by simp [Act.eval, Act.put]) _ _ (unhide hrd) (n - i) (unhide S1) (cs D) (unhide s1) (unhide hsrc) (unhide s3) (cs_oneCell D) ?_; intro w1 hr1 hg1)
  obtain ⟨cur1, hc1⟩ : ∃ cur1 : List Value, cur1 = (cs (A ++ D) ++ R).take ((i + 1) * 4) ++ cs D ++ (cs (A ++ D) ++ R).drop ((i + 1) * 4 + (cs D).length) := ⟨_, rfl⟩
  have hr2 : w1.heap[r]? = some (.cells cur1.toArray 101 (0, 0)) := by
    have h := unhide hr1
    rw [List.toList_toArray, ← hc1] at h
    exact h
  have hf1 := unhide hfin cur1 hc1
  have S2 := hide (show i * 4 + x.cs.length ≤ cur1.toArray.size by simpa using hf1.1)
  have F2 := hide hf1.2
  have H1 := hide hr2
  have G1 := hide hg1
  have hv1 := src4 ((hg1.block vb (lt_of_row (unhide HV)) (by simpa using unhide HVR)).trans (unhide HV))
  have HV1 := hide hv1
  have S3 := hide (show 1 = Nat.min 1 (n + 1 - i) by simp only [Nat.min_def]; split <;> omega)
  clear hr1 hg1 hv1 hc1 hr2 hf1
  go_wp2_with (refine wpList_copy_k rfl (.tmp 80) (.tmp 81) 78 78 rfl 101 4 Tryz.underlying78 Tryz.sizePart r (i * 4) (n + 1 - i) (cap - i) ⟨vb, 0, none⟩ 1 1 rfl rfl _ _ (unhide H1) 1 (unhide S3) x.cs rfl (unhide HV1) (unhide S2) (cs4_one x) ?_; intro w2 hr2 hg2)
  have H2 := hide hr2
  have G2 := hide hg2
  clear hr2 hg2
  go_wp2
  go_ret
  refine ⟨some ⟨r, 0, none⟩, n + 1, cap, rfl, ?_, ?_, .inl rfl⟩
  · have h := unhide (unhide H2)
    rw [unhide F2] at h
    have := own_of (B := B) (cap := cap) hB h (by rw [unhide hL1]; omega) hm (unhide hRl)
    rw [unhide hL1] at this
    exact this
  · have g1 := unhide G1
    have g2 := unhide G2
    exact ⟨g2.os.trans g1.os, g2.tape.trans g1.tape, g2.output.trans g1.output, Nat.le_trans g1.size g2.size, fun k hk hr => (g2.block k (Nat.lt_of_lt_of_le hk g1.size) hr).trans (g1.block k hk hr)⟩
end Go.Proofs.YtljhgehlaehgnaaGreatDoor
namespace Go.Proofs.YtljhgehlaehgnaaGreatDoor
open Go.RowKit

set_option maxHeartbeats 1000000 in
set_option maxRecDepth 100000 in
theorem ins_grow (B vb : Nat) (A D : List Ent) (r cap i n : Nat) (x : Ent) (R : List Value) (w : World) (hr : w.heap[r]? = some (.cells (cs (A ++ D) ++ R).toArray 101 (0, 0))) (hi : A.length = i) (hn : (A ++ D).length = n) (hin : i < n) (hc : n ≤ 4096)
    (hnc : n ≤ cap) (hcap : cap < n + 1) (hB : B ≤ w.heap.size)
    (hvb : w.heap[vb]? = some (.cells #[.int .u64 x.key, .int .u64 x.val, .int .i64 x.at_, .bool x.fix] 101 (0, 0))) :
    Calls Tryz.prog 66 #[.slice (some ⟨r, 0, none⟩) n cap, .int .i64 i, .slice (some ⟨vb, 0, none⟩) 1 1] w fun e w' => Inserted B (.slice (some ⟨r, 0, none⟩) n cap) (A ++ x :: D) w e w' := by
  obtain ⟨i0, hi0, hz0, hz1, hz2⟩ := info_parts Tryz.infoPart
  have hD : D.length = n - i := by rw [← hn]; simp; omega
  have hcs : (cs (A ++ D)).length = n * 4 := by rw [cs_length, hn]
  have hcA : (cs A).length = i * 4 := by rw [cs_length, hi]
  have hold : (Builtin.firstCells i0.size i (.slice (some ⟨r, 0, none⟩) i cap)).run Tryz.prog w.drew = .ok (cs A).toArray w.drew := by
    rw [hz1]
    exact run_firstCells_some w.drew 4 i ⟨r, 0, none⟩ i cap (cs A) hcA (fun j v hj => by
      rw [Addr.add_lit, Nat.zero_add]
      show w.cell? _ = _
      have ht : j < (cs A).length := (List.getElem?_eq_some_iff.1 hj).1
      rw [cell_of_row w r _ _ _ _ hr, List.getElem?_toArray, List.getElem?_append_left (by rw [hcs]; omega), cs_append, List.getElem?_append_left ht]
      exact hj)
  have hkk : (n : Int) + 1 - (i : Int) = ((n + 1 - i : Nat) : Int) := by omega
  have hik : i + (n + 1 - i) = n + 1 := by omega
  obtain ⟨G, hG⟩ : ∃ G, G = grownCap w (n + 1) cap 101 := ⟨_, rfl⟩
  obtain ⟨Z, hZ⟩ : ∃ Z : List Value, Z = (Builtin.zeroCells #[.int .u64 0, .int .u64 0, .int .i64 0, .bool false] (n + 1 - i)).toList ++ (Builtin.zeroCells #[.int .u64 0, .int .u64 0, .int .i64 0, .bool false] (G - (n + 1))).toList := ⟨_, rfl⟩
  have hrz : ∀ ty, (Builtin.append_ #[78, 3] ty #[.slice (some ⟨r, 0, none⟩) i cap, .int .i64 ((n : Int) + 1 - (i : Int))]).run Tryz.prog w = .ok (.slice (some ⟨w.heap.size, 0, none⟩) (n + 1) G) (w.drew.alloc (.cells (cs A ++ Z).toArray 101)) := fun ty => by
    have h := Lib.run_append_grow_zeros w 78 3 ty 101 i0 _ .i64 .i64 Tryz.underlying78 Tryz.underlying3 hi0 hz0 (some ⟨r, 0, none⟩) i cap (cs A) hold (n + 1 - i) (by omega) (by rw [hz1]; omega) (by omega) (by omega) (by rw [hz2]; omega) (by rw [hz2, hik]; exact growslice_fits hcap (by omega))
    rw [hik, ← hG] at h
    rw [hkk, h]
    congr 3
    rw [hZ]
    apply Array.ext'
    simp [Value.cells]
  have hGn : n + 1 ≤ G := by rw [hG]; exact grownCap_ge w _ _ _
  have hGm : G ≤ maxLen := by rw [hG]; exact grownCap_le_maxLen w (n + 1) cap 101 (by unfold maxLen; omega)
  have hG63 : G ≤ 9223372036854775807 := by unfold maxLen at hGm; omega
  have hZl : Z.length = (G - i) * 4 := by rw [hZ]; simp [size_zeroCells]; omega
  obtain ⟨W1, hW1⟩ : ∃ W1, W1 = w.drew.alloc (.cells (cs A ++ Z).toArray 101) := ⟨_, rfl⟩
  rw [← hW1] at hrz
  have hR1 : W1.heap[w.heap.size]? = some (.cells (cs A ++ Z).toArray 101 (0, 0)) := by rw [hW1]; exact heap_alloc_new w.drew _
  have hB1 : Below w.heap.size w W1 := by rw [hW1]; exact ((Below.refl w.heap.size w).drew).alloc (Nat.le_refl _) _
  have hv1 := src4 (Below.row hB1 hvb)
  have hv1' := hide hv1
  have hRr := hide (Below.row hB1 hr)
  have hWd : Hid (w.heap.size ≠ r) := hide (by have := lt_of_row hr; omega)
  have H1 := hide hR1
  have HB1 := hide hB1
  have S1 := hide (show 1 = Nat.min 1 (n + 1 - i) by simp only [Nat.min_def]; split <;> omega)
  have S2 := hide (show i * 4 + x.cs.length ≤ (cs A ++ Z).toArray.size by rw [List.size_toArray, List.length_append, hcA, hZl]; simp [Ent.cs]; omega)
  have F1 : Hid ((cs A ++ Z).take (i * 4) ++ x.cs ++ (cs A ++ Z).drop (i * 4 + x.cs.length) = cs (A ++ [x]) ++ Z.drop 4) := by
    show _ = _
    rw [← hcA, List.take_left, cs_append, cs_one, ← List.drop_drop, List.drop_left]; rfl
  have S3 := hide (show n - i = Nat.min (n - i) (n - i) by simp only [Nat.min_def]; split <;> omega)
  have S4 : Hid ((cs D).length = (n - i) * 4) := by show _ = _; rw [cs_length, hD]
  have S5 : Hid ((i + 1) * 4 + (cs D).length ≤ (cs (A ++ [x]) ++ Z.drop 4).toArray.size) := by
    show _ ≤ _
    rw [List.size_toArray, List.length_append, cs_length D, hD, cs_length, List.length_append, hi, List.length_drop, hZl]; simp; omega
  have F2 : Hid ((cs (A ++ [x]) ++ Z.drop 4).take ((i + 1) * 4) ++ cs D ++ (cs (A ++ [x]) ++ Z.drop 4).drop ((i + 1) * 4 + (cs D).length) = cs (A ++ x :: D) ++ (Z.drop 4).drop (cs D).length) := by
    show _ = _
    have hl : (cs (A ++ [x])).length = (i + 1) * 4 := by rw [cs_length]; simp [hi]
    rw [← hl, List.take_left, ← List.drop_drop, List.drop_left, ← cs_append, List.append_assoc A [x] D]; rfl
  have hsr : Hid (∀ W : World, W.heap[r]? = some (.cells (cs (A ++ D) ++ R).toArray 101 (0, 0)) → ∀ t u, (cs D)[t]? = some u → W.cell? ((⟨r, i * 4, none⟩ : Addr).add t) = some u) := by
    intro W hr t u hu
    rw [Addr.add_lit]
    have ht : t < (cs D).length := (List.getElem?_eq_some_iff.1 hu).1
    rw [cell_of_row W r _ _ _ _ hr, List.getElem?_toArray, List.getElem?_append_left (by rw [hcs]; rw [cs_length, hD] at ht; omega), cs_append, List.getElem?_append_right (by rw [cs_length, hi]; omega), cs_length, hi, Nat.add_sub_cancel_left]
    exact hu
  have hL : Hid ((A ++ x :: D).length = n + 1) := hide (by rw [← hn]; simp; omega)
  have hRl : Hid ((A ++ x :: D).length * 4 + ((Z.drop 4).drop (cs D).length).length = G * 4) := by
    show _ = _
    rw [unhide hL, List.length_drop, List.length_drop, hZl, cs_length, hD]; omega
  have e1 : ¬ (cap = i) := by omega
  have e2 : i ≤ cap := by omega
  have e3 : ¬ (G = i) := by omega
  have e4 : ¬ (G = i + 1) := by omega
  have e5 : i ≤ n + 1 := by omega
  have e6 : i + 1 ≤ n + 1 := by omega
  have e7 : i ≤ n := by omega
  have hw1 : IntKind.i64.wrap ((i : Int) + 1) = (i : Int) + 1 := by rw [IntKind.wrap_i64]; omega
  have hb1 : (0 : Int) ≤ (i : Int) + 1 := by omega
  have htn : ((i : Int) + 1).toNat = i + 1 := by omega
  have hb3 : (i : Int) ≤ (n : Int) + 1 := by omega
  clear hr hi hn hvb hD hcs hcA hold hkk hik hZ hR1 hB1 hW1 hv1 hZl hG
  go_enter Tryz.func66, Tryz.ntmps66
  go_wp2_with (first | (at_builtin; refine Lib.wpList_append_run _ rfl _ _ _ _ rfl _ _ rfl rfl _ _ (hrz _) ?_) | (refine wpList_copy_k rfl (.tmp 43) (.tmp 44) 78 78 rfl 101 4 Tryz.underlying78 Tryz.sizePart w.heap.size (i * 4) (n + 1 - i) (G - i) ⟨vb, 0, none⟩ 1 1 rfl rfl _ _ (unhide H1) 1 (unhide S1) x.cs rfl (unhide hv1') (unhide S2) (cs4_one x) ?_; intro w2 hr2 hg2))
  have hr3 : w2.drew.heap[w.heap.size]? = some (.cells (cs (A ++ [x]) ++ Z.drop 4).toArray 101 (0, 0)) := by
    have h := unhide hr2
    rw [unhide F1] at h
    exact h
  have hs2 := hide (unhide hsr w2.drew ((hg2.block r (lt_of_row (unhide hRr)) (by simpa using fun e => unhide hWd e.symm)).trans (unhide hRr)))
  have H2 := hide hr3
  have G2 := hide hg2
  clear hr2 hg2 hr3
  go_region_law (refine step_copy_k rfl (.tmp 50) (.tmp 53) 78 78 rfl 101 4 Tryz.underlying78 Tryz.sizePart w.heap.size ((i + 1) * 4) (n - i) (G - (i + 1)) ⟨r, i * 4, none⟩ (n - i) (cap - i) (by simp [Act.eval, Act.put]) (by simp [Act.eval, Act.put]) _ _ (unhide H2) (n - i) (unhide S3) (cs D) (unhide S4) (unhide hs2) (unhide S5) (cs_oneCell D) ?_; intro w3 hr3 hg3)
  have hr4 : w3.heap[w.heap.size]? = some (.cells (cs (A ++ x :: D) ++ (Z.drop 4).drop (cs D).length).toArray 101 (0, 0)) := by
    have h := unhide hr3
    rw [List.toList_toArray, unhide F2] at h
    exact h
  have H3 := hide hr4
  have G3 := hide hg3
  clear hr3 hg3 hr4
  go_wp2
  go_ret
  have g2 := unhide G2
  have g3 := unhide G3
  have b1 := unhide HB1
  refine ⟨some ⟨w.heap.size, 0, none⟩, n + 1, G, rfl, ?_, ?_, .inr fun k hk => ?_⟩
  · have := own_of (B := B) (cap := G) hB (unhide H3) (by rw [unhide hL]; omega) hGm (unhide hRl)
    rw [unhide hL] at this
    exact this
  · refine ⟨g3.os.trans (g2.os.trans b1.os), g3.tape.trans (g2.tape.trans b1.tape), g3.output.trans (g2.output.trans b1.output), Nat.le_trans b1.size (Nat.le_trans g2.size g3.size), fun k hk _ => ?_⟩
    have hkn : some k ≠ some w.heap.size := by simp; omega
    exact (g3.block k (Nat.lt_of_lt_of_le hk (Nat.le_trans b1.size g2.size)) hkn).trans ((g2.block k (Nat.lt_of_lt_of_le hk b1.size) hkn).trans (b1.block k hk))
  · simp [Value.ownBlock] at hk; omega
end Go.Proofs.YtljhgehlaehgnaaGreatDoor
namespace Go.Proofs.YtljhgehlaehgnaaGreatDoor
open Go.RowKit

theorem ins_any (B vb i n : Nat) (v : Value) (A D : List Ent) (x : Ent) (w : World) (ho : Own B w v (A ++ D)) (hi : A.length = i) (hn : (A ++ D).length = n) (hc : n ≤ 4096) (hB : B ≤ w.heap.size) (hvr : v.ownBlock ≠ some vb)
    (hvb : w.heap[vb]? = some (.cells #[.int .u64 x.key, .int .u64 x.val, .int .i64 x.at_, .bool x.fix] 101 (0, 0))) :
    Calls Tryz.prog 66 #[v, .int .i64 i, .slice (some ⟨vb, 0, none⟩) 1 1] w fun e w' => Inserted B v (A ++ x :: D) w e w' := by
  rcases ho.parts with ⟨rfl, h0⟩ | ⟨r, cap, R, rfl, hBr, hr, hcap, hm, hR⟩
  · obtain ⟨rfl, rfl⟩ := List.append_eq_nil_iff.1 h0
    obtain rfl : i = 0 := by simpa using hi.symm
    exact ins_nil B vb x w hB hvb
  · rw [hn] at hcap hR ⊢
    by_cases hin : i < n
    · have hvr' : vb ≠ r := fun e => hvr (by rw [e]; rfl)
      by_cases hcp : n + 1 ≤ cap
      · exact ins_room B vb A D r cap i n x R w hr hi hn hin hc hcp hm hR hBr hvr' hvb
      · exact ins_grow B vb A D r cap i n x R w hr hi hn hin hc hcap (by omega) hB hvb
    · have hD : D = [] := by
        have : (A ++ D).length = i + D.length := by simp [hi]
        exact List.length_eq_zero_iff.1 (by omega)
      subst hD
      rw [List.append_nil] at ho hn
      obtain rfl : n = i := by omega
      rw [hn] at ho
      exact ins_end B vb A r cap n x w ho hn hc hm hB hvb
theorem mid3 {w : World} {r o : Nat} {t : TypeId} {X Z : List Value} {a b c d : Value} (hX : X.length = o) (h : w.heap[r]? = some (.cells (X ++ a :: b :: c :: d :: Z).toArray t (0, 0))) :
    w.cell? ⟨r, o + 1, none⟩ = some b ∧ w.cell? ⟨r, o + 2, none⟩ = some c ∧ w.cell? ⟨r, o + 3, none⟩ = some d ∧
    w.frozen? ⟨r, o + 1, none⟩ = false ∧ w.frozen? ⟨r, o + 2, none⟩ = false ∧ w.frozen? ⟨r, o + 3, none⟩ = false := by
  have := mid4 hX h
  exact ⟨this.2.1, this.2.2.1, this.2.2.2.1, this.2.2.2.2.2.1, this.2.2.2.2.2.2.1, this.2.2.2.2.2.2.2⟩
theorem put3 {w : World} {r o : Nat} {t : TypeId} {X Z : List Value} {a b c d b' c' d' : Value} (hX : X.length = o) (h : w.heap[r]? = some (.cells (X ++ a :: b :: c :: d :: Z).toArray t (0, 0))) :
    (((w.setCell ⟨r, o + 1, none⟩ b').setCell ⟨r, o + 2, none⟩ c').setCell ⟨r, o + 3, none⟩ d').heap[r]? = some (.cells (X ++ a :: b' :: c' :: d' :: Z).toArray t (0, 0)) := by
  subst hX
  rw [heap_setCell_same _ r (X.length + 3) _ t d' (heap_setCell_same _ r (X.length + 2) _ t c' (heap_setCell_same _ r (X.length + 1) _ t b' h))]
  congr 2
  simp
theorem put3_grown (w : World) (r o : Nat) (b c d : Value) : w.grownBy (((w.setCell ⟨r, o + 1, none⟩ b).setCell ⟨r, o + 2, none⟩ c).setCell ⟨r, o + 3, none⟩ d) (some r) := by
  refine ⟨rfl, rfl, rfl, by simp [World.setCell], fun k _ hk => ?_⟩
  have hk' : k ≠ r := fun e => hk (by rw [e])
  rw [heap_setCell_other _ ⟨r, o + 3, none⟩ k _ hk', heap_setCell_other _ ⟨r, o + 2, none⟩ k _ hk', heap_setCell_other _ ⟨r, o + 1, none⟩ k _ hk']
theorem grown_drew {w W : World} {row : Option Nat} (h : w.grownBy W row) : w.grownBy W.drew row := ⟨h.os, h.tape, h.output, h.size, h.block⟩
/-- a table whose row holds other parts now -/
theorem turned_row {B : Nat} {w w1 w2 : World} {g r n c : Nat} {room life : Int} {L L' : List Ent} (T : Tab B w g room life (.slice (some ⟨r, 0, none⟩) n c) L) (b : Below w.heap.size w w1) (hg : w1.grownBy w2 (some r))
    (ho : Own B w2 (.slice (some ⟨r, 0, none⟩) n c) L') (hs : Srt L') (hk : Oks L') (hf : (L'.length : Int) ≤ room) : Turned B g room life (.slice (some ⟨r, 0, none⟩) n c) L' w w2 := by
  have hgr : some g ≠ some r := fun e => T.apart e.symm
  have r1 := Below.row b T.row
  have r2 : w2.heap[g]? = _ := (hg.block g (lt_of_row r1) hgr).trans r1
  refine ⟨_, ⟨r2, ho, T.low, T.apart, hs, hk, hf, T.room1, T.room2, T.life1, T.life2⟩, ⟨hg.os.trans b.os, hg.tape.trans b.tape, hg.output.trans b.output, Nat.le_trans b.size hg.size, fun k hk _ hkr => ?_⟩, .inl rfl⟩
  exact (hg.block k (Nat.lt_of_lt_of_le hk b.size) hkr).trans (b.block k hk)
set_option maxHeartbeats 1000000 in
set_option maxRecDepth 100000 in
theorem set_old (B : Nat) (L : List Ent) (v : Value) (g : Nat) (room life : Int) (x y : Ent) (w : World) (T : Tab B w g room life v L) (hy : look L x.key = some y) (hx : x.ok) :
    Calls Tryz.prog 48 #[.pointer (some ⟨g, 2, none⟩), .int .u64 x.key, x.st] w fun e w' => e = .returned (.tuple #[]) ∧ Turned B g room life v (ins x L) w w' := by
  obtain ⟨A, D, rfl, hk, hA, hD⟩ := look_some T.srt hy
  have hs := T.srt.ins x
  have hok := T.oks.ins hx
  rw [ins_old hk hA] at hs hok ⊢
  rcases T.own.parts with ⟨_, h⟩ | ⟨r, cap, R, rfl, hB, hr, hcap, hm, hR⟩
  · simp at h
  have b1 := alloc_below w (.cells #[.int .u64 x.val, .int .i64 x.at_, .bool x.fix] 85)
  have T1 := T.below b1
  have F := hide (find_at B _ _ g 2 A.length x.key true _ T1.cell T1.own T1.len (spot_some hk hA hD))
  have hbx := heap_alloc_new w (.cells #[.int .u64 x.val, .int .i64 x.at_, .bool x.fix] 85)
  have hlt : A.length < (A ++ y :: D).length := by simp
  have hn4 := T.len
  have hcx := T1.cell
  have fin : Hid (∀ w1 w2, Below w.heap.size w w1 → w1.grownBy w2 (some r) → w2.heap[r]? = some (.cells (cs A ++ .int .u64 y.key :: .int .u64 x.val :: .int .i64 x.at_ :: .bool x.fix :: (cs D ++ R)).toArray 101 (0, 0)) →
      Turned B g room life (.slice (some ⟨r, 0, none⟩) (A ++ y :: D).length cap) (A ++ x :: D) w w2) := by
    intro w1 w2 h1 h2 h3
    have hl : (A ++ x :: D).length = (A ++ y :: D).length := by simp
    refine turned_row T h1 h2 ?_ hs hok (by rw [hl]; exact T.fit)
    rw [← hl]
    refine own_of (R := R) hB ?_ (by rw [hl]; exact hcap) hm (by rw [hl]; exact hR)
    rw [h3]
    congr 3
    rw [cs_append, cs_cons, hk]
    simp [Ent.cs]
  have hrow : Hid (∀ W, Below w.heap.size w W → W.heap[r]? = some (.cells (cs A ++ .int .u64 y.key :: .int .u64 y.val :: .int .i64 y.at_ :: .bool y.fix :: (cs D ++ R)).toArray 101 (0, 0))) := by
    intro W h
    rw [Below.row h hr, cs_append, cs_cons]
    simp [Ent.cs]
  have hcA : Hid ((cs A).length = A.length * 4) := cs_length A
  have B1 := hide b1
  have hbl : w.heap.size < (w.alloc (.cells #[.int .u64 x.val, .int .i64 x.at_, .bool x.fix] 85)).heap.size := by simp
  clear T hr hs hok hy T1 b1 hR hm hB
  generalize (A ++ y :: D).length = n at *
  generalize hal : A.length = i at *
  clear hal hA hD hk
  unfold Ent.st
  go_enter Tryz.func48, Tryz.ntmps48
  go_wp2_with fail
  refine (unhide F).mono ?_
  rintro e w1 ⟨rfl, b1⟩
  have hb1 := bthen (unhide B1) b1
  have r1 := unhide hrow w1 hb1
  have c3 := cells3 (Below.row b1 hbx)
  have m3 := mid3 (unhide hcA) r1
  have P3 := hide (put3 (b' := .int .u64 x.val) (c' := .int .i64 x.at_) (d' := .bool x.fix) (unhide hcA) r1)
  have hcx1 := (b1.cell (p := ⟨g, 2, none⟩) (block_lt_of_cell hcx)).trans hcx
  have HB := hide hb1
  clear hb1 r1 b1 hbx F B1 hcx
  have hic : (i : Int) < n := by omega
  go_wp2_with fail
  go_region
  go_wp2_with fail
  refine bodyPost_ret (results_none rfl _ _ _) rfl ?_
  exact ⟨rfl, unhide fin w1 _ (unhide HB) (grown_drew (put3_grown w1 r (i * 4) (.int .u64 x.val) (.int .i64 x.at_) (.bool x.fix))) (by rw [heap_drew]; exact unhide P3)⟩
set_option maxHeartbeats 1000000 in
set_option maxRecDepth 100000 in
theorem set_new (B : Nat) (L : List Ent) (v : Value) (g : Nat) (room life : Int) (x : Ent) (w : World) (T : Tab B w g room life v L) (hy : look L x.key = none) (hx : x.ok) (hroom : (L.length : Int) < room) (hBw : B ≤ w.heap.size) :
    Calls Tryz.prog 48 #[.pointer (some ⟨g, 2, none⟩), .int .u64 x.key, x.st] w fun e w' => e = .returned (.tuple #[]) ∧ Turned B g room life v (ins x L) w w' := by
  obtain ⟨A, D, rfl, hA, hD⟩ := look_none T.srt hy
  have hs := T.srt.ins x
  have hok := T.oks.ins hx
  rw [ins_new hA hD] at hs hok ⊢
  have b1 := alloc_below w (.cells #[.int .u64 x.val, .int .i64 x.at_, .bool x.fix] 85)
  have T1 := T.below b1
  have F := hide (find_at B _ _ g 2 A.length x.key false _ T1.cell T1.own T1.len (spot_none hA hD))
  have hbx := heap_alloc_new w (.cells #[.int .u64 x.val, .int .i64 x.at_, .bool x.fix] 85)
  have hcx := T1.cell
  have hgl := T.lt
  have C : Hid (∀ W vb, W.heap[vb]? = some (.cells #[.int .u64 x.key, .int .u64 x.val, .int .i64 x.at_, .bool x.fix] 101 (0, 0)) → w.heap.size ≤ vb → Below w.heap.size w W → Calls Tryz.prog 66 #[v, .int .i64 A.length, .slice (some ⟨vb, 0, none⟩) 1 1] W fun e w' => Inserted B v (A ++ x :: D) W e w') := by
    intro W vb hr hv hb
    refine ins_any B vb A.length _ v A D x _ (T.own.below hb) rfl rfl T.len (Nat.le_trans hBw hb.size) ?_ hr
    intro e
    have := (T.vlt _ e).2
    omega
  have fin : Hid (∀ w1 w2 v', Below w.heap.size w w1 → w1.grownBy w2 v.ownBlock → Own B w2 v' (A ++ x :: D) → Nb w1 v.ownBlock v'.ownBlock → w2.heap[g]? = some (.cells #[.int .i64 room, .int .i64 life, v] 82 (0, 0)) ∧ Turned B g room life v (A ++ x :: D) w (w2.setCell ⟨g, 2, none⟩ v')) := by
    intro w1 w2 v' h1 h2 h3 h4
    refine ⟨(h2.block g (Nat.lt_of_lt_of_le T.lt h1.size) (fun e => T.apart e.symm)).trans (Below.row h1 T.row), ?_⟩
    refine turned_of T h1 h2 (.inl rfl) h3 ?_ hs hok ?_
    · rcases h4 with h4 | h4
      · exact .inl h4
      · exact .inr fun k hk => Nat.le_trans h1.size (h4 k hk)
    · have : (A ++ x :: D).length = (A ++ D).length + 1 := by simp; omega
      rw [this]; omega
  have B1 := hide b1
  clear T hs hok hy T1 b1 hroom hBw
  generalize hal : A.length = i at *
  clear hal hA hD
  unfold Ent.st
  go_enter Tryz.func48, Tryz.ntmps48
  go_wp2_with fail
  refine (unhide F).mono ?_
  rintro e w1 ⟨rfl, b1⟩
  have hb1 := bthen (unhide B1) b1
  have c3 := cells3 (Below.row b1 hbx)
  have hcx1 := (b1.cell (p := ⟨g, 2, none⟩) (block_lt_of_cell hcx)).trans hcx
  have HB := hide hb1
  clear b1 hbx F B1 hcx hb1
  go_wp2_with fail
  have hb2 := hide (Below.drew (alloc_then (o := .cells #[.int .u64 x.key, .int .u64 x.val, .int .i64 x.at_, .bool x.fix] 101) (unhide HB)))
  have C1 := hide (unhide C _ w1.heap.size (show ((w1.alloc (.cells #[.int .u64 x.key, .int .u64 x.val, .int .i64 x.at_, .bool x.fix] 101)).drew).heap[w1.heap.size]? = _ from heap_alloc_new w1 _) (unhide HB).size (unhide hb2))
  have C2 := hide (unhide fin _ · · (unhide hb2))
  have hgl1 : g < w1.heap.size := Nat.lt_of_lt_of_le hgl (unhide HB).size
  have hgl2 := block_lt_of_cell c3.1
  clear C fin
  go_region_with (go_at_call 66; refine (unhide C1).mono ?_; rintro e w3 ⟨ao, m, c, rfl, o3, g3, n3⟩; have hf3 := unhide C2 w3 _ g3 o3 n3; have hf4 := hide hf3.2; have hf5 := (cells3 hf3.1).2.2; clear o3 g3 n3 hf3)
  all_goals (go_wp2_with fail; go_end0; exact ⟨rfl, unhide (by assumption)⟩)
end Go.Proofs.YtljhgehlaehgnaaGreatDoor
namespace Go.Proofs.YtljhgehlaehgnaaGreatDoor
open Go.RowKit

/-- the older one -/
def pick (o : Option Ent) (e : Ent) : Option Ent := if e.fix then o else match o with
  | none => some e
  | some b => if e.at_ < b.at_ then some e else some b
/-- the entry that goes for another one -/
def oldest (L : List Ent) : Option Ent := L.foldl pick none
/-- its cells -/
def best : Option Ent → Array Value
  | none => #[.int .u64 0, .int .u64 0, .int .i64 0, .bool false]
  | some b => #[.int .u64 b.key, .int .u64 b.val, .int .i64 b.at_, .bool b.fix]
theorem best_some (b : Ent) : best (some b) = #[.int .u64 b.key, .int .u64 b.val, .int .i64 b.at_, .bool b.fix] := rfl
/-- its key -/
def bestKey : Option Ent → Int
  | none => 0
  | some b => b.key
theorem oldest_take (L : List Ent) (k : Nat) (h : k < L.length) : oldest (L.take (k + 1)) = pick (oldest (L.take k)) L[k] := by
  unfold oldest
  rw [List.take_succ_eq_append_getElem h, List.foldl_append]; rfl
set_option maxHeartbeats 1000000 in
set_option maxRecDepth 100000 in
theorem first_at (L : List Ent) (r c g : Nat) (w : World) (hv : w.cell? ⟨g, 2, none⟩ = some (.slice (some ⟨r, 0, none⟩) L.length c)) (hr : Prow w r L) (hc : L.length ≤ 4096) (q : Option Ent) (hq : q = oldest L) :
    Calls Tryz.prog 62 #[.pointer (some ⟨g, 2, none⟩), .func (.func 63) #[] #[], .func (.func 64) #[] #[]] w fun e w' => e = .returned (.tuple #[.int .u64 (bestKey q), .bool q.isSome]) ∧ Below w.heap.size w w' := by
  have HR := hide hr
  have HQ := hide hq
  have hgl := block_lt_of_cell hv
  clear hr hq
  have CL := hide (fun (e : Ent) W => loose_any e W)
  have CE := hide (fun (e d : Ent) W => earlier_any e d W)
  unfold Ent.st at CL CE
  have HB0 := hide (alloc_below w (.cells #[.int .u64 0, .int .u64 0, .int .i64 0, .bool false] 101))
  have r0 := hide (heap_alloc_new w (.cells #[.int .u64 0, .int .u64 0, .int .i64 0, .bool false] 101))
  go_enter Tryz.func62, Tryz.ntmps62
  go_wp2_with fail
  go_loopw [9, 11, 17] (fun f _ a wr => ∃ k : Nat, a = .int .i64 k ∧ k ≤ L.length ∧ f = .bool (oldest (L.take k)).isSome ∧ wr.heap[w.heap.size]? = some (.cells (best (oldest (L.take k))) 101 (0, 0)) ∧ Below w.heap.size w wr) (fun _ _ a _ => L.length - (intOf a).toNat)
  case atStart => exact ⟨0, rfl, Nat.zero_le _, rfl, unhide r0, unhide HB0⟩
  case round =>
    obtain ⟨k, rfl, hkl, rfl, hrow, hb⟩ := hrel
    have HB := hide hb
    have HROW := hide hrow
    have hr1 := (unhide HR).below hb
    have hbl := lt_of_row hrow
    clear hb hrow HB0 r0
    by_cases hlt : k < L.length
    · have e0 := hr1.at0 k hlt
      have e1 := hr1.at1 k hlt
      have e2 := hr1.at2 k hlt
      have e3 := hr1.at3 k hlt
      have HT := hide (oldest_take L k hlt)
      clear hr1
      generalize L[k] = E at e0 e1 e2 e3 HT
      generalize oldest (L.take k) = o at HROW HT ⊢
      have b1 := alloc_below wr (.cells #[.int .u64 E.key, .int .u64 E.val, .int .i64 E.at_, .bool E.fix] 101)
      have hb1 := hide (bthen (unhide HB) b1)
      have rb1 := hide (Below.row b1 (unhide HROW))
      have rv1 := hide (heap_alloc_new wr (.cells #[.int .u64 E.key, .int .u64 E.val, .int .i64 E.at_, .bool E.fix] 101))
      have C1 := hide (unhide CL E (wr.alloc (.cells #[.int .u64 E.key, .int .u64 E.val, .int .i64 E.at_, .bool E.fix] 101)))
      clear b1
      cases hf : E.fix with
      | true =>
        rw [hf] at C1 e3 hb1 rb1 rv1
        have HO := hide (show pick o E = o by unfold pick; rw [if_pos hf])
        clear hf
        go_wp2_with fail
        refine (unhide C1).mono ?_
        rintro e w2 ⟨rfl, b2⟩
        have hb2 := hide (bthen (unhide hb1) b2)
        have rb2 := hide (Below.row b2 (unhide rb1))
        clear b2 hb1 rb1 e0 e1 e2 e3
        go_wp2_with fail
        go_roundw
        case rel => exact ⟨k + 1, by go_num, by omega, by rw [unhide HT, unhide HO], by rw [unhide HT, unhide HO]; exact unhide rb2, unhide hb2⟩
        case measure => simp [intOf]; omega
      | false =>
        rw [hf] at C1 e3 hb1 rb1 rv1
        cases o with
        | none =>
          have HO := hide (show pick none E = some E by unfold pick; rw [if_neg (by simp [hf])])
          have HF := hide hf
          clear hf
          go_wp2_with fail
          refine (unhide C1).mono ?_
          rintro e w2 ⟨rfl, b2⟩
          have hb2 := hide (bthen (unhide hb1) b2)
          have rb2 := Below.row b2 (unhide rb1)
          have cv2 := cells4 (Below.row b2 (unhide rv1))
          have cb2 := cells4 rb2
          have RB2 := hide (set4 (v0 := .int .u64 E.key) (v1 := .int .u64 E.val) (v2 := .int .i64 E.at_) (v3 := .bool false) rb2)
          clear b2 hb1 rb1 rv1 rb2 e0 e1 e2 e3
          go_wp2_with fail
          go_roundw
          case rel => exact ⟨k + 1, by go_num, by omega, by rw [unhide HT, unhide HO]; rfl, by rw [unhide HT, unhide HO]; rw [best_some, unhide HF]; exact unhide RB2, below4 (unhide hb2) (Nat.le_refl _)⟩
          case measure => simp [intOf]; omega
        | some b =>
          have C2 := hide (fun W => unhide CE E b W)
          rw [hf] at C2
          by_cases hlt2 : E.at_ < b.at_
          · rw [decide_eq_true hlt2] at C2
            have HO := hide (show pick (some b) E = some E by simp [pick, hf, hlt2])
            have HF := hide hf
            clear hf hlt2
            go_wp2_with fail
            refine (unhide C1).mono ?_
            rintro e w2 ⟨rfl, b2⟩
            have hb2 := hide (bthen (unhide hb1) b2)
            have rb2 := Below.row b2 (unhide rb1)
            have rv2 := Below.row b2 (unhide rv1)
            have cv2 := cells4 rv2
            have cb2 := cells4 rb2
            have RV2 := hide rv2
            have RB2 := hide rb2
            clear b2 hb1 rb1 rv1 rb2 rv2 e0 e1 e2 e3
            go_wp2_with fail
            refine (unhide C2 _).mono ?_
            rintro e w3 ⟨rfl, b3⟩
            have hb3 := hide (bthen (unhide hb2) b3)
            have rb3 := Below.row b3 (unhide RB2)
            have cv3 := cells4 (Below.row b3 (unhide RV2))
            have cb3 := cells4 rb3
            have RB3 := hide (set4 (v0 := .int .u64 E.key) (v1 := .int .u64 E.val) (v2 := .int .i64 E.at_) (v3 := .bool false) rb3)
            clear b3 hb2 RB2 RV2 rb3 cv2 cb2
            go_wp2_with fail
            go_roundw
            case rel => exact ⟨k + 1, by go_num, by omega, by rw [unhide HT, unhide HO]; rfl, by rw [unhide HT, unhide HO]; rw [best_some, unhide HF]; exact unhide RB3, below4 (unhide hb3) (Nat.le_refl _)⟩
            case measure => simp [intOf]; omega
          · rw [decide_eq_false hlt2] at C2
            have HO := hide (show pick (some b) E = some b by simp [pick, hf, hlt2])
            clear hf hlt2
            go_wp2_with fail
            refine (unhide C1).mono ?_
            rintro e w2 ⟨rfl, b2⟩
            have hb2 := hide (bthen (unhide hb1) b2)
            have rb2 := Below.row b2 (unhide rb1)
            have rv2 := Below.row b2 (unhide rv1)
            have cv2 := cells4 rv2
            have cb2 := cells4 rb2
            have RB2 := hide rb2
            clear b2 hb1 rb1 rv1 rb2 rv2 e0 e1 e2 e3
            go_wp2_with fail
            refine (unhide C2 _).mono ?_
            rintro e w3 ⟨rfl, b3⟩
            have hb3 := hide (bthen (unhide hb2) b3)
            have rb3 := hide (Below.row b3 (unhide RB2))
            clear b3 hb2 RB2 cv2 cb2
            go_wp2_with fail
            go_roundw
            case rel => exact ⟨k + 1, by go_num, by omega, by rw [unhide HT, unhide HO]; rfl, by rw [unhide HT, unhide HO]; exact unhide rb3, unhide hb3⟩
            case measure => simp [intOf]; omega
    · have hk : L.take k = L := List.take_of_length_le (by omega)
      rw [hk, ← unhide HQ] at HROW
      rw [hk, ← unhide HQ]
      have c0 : wr.cell? ⟨w.heap.size, 0, none⟩ = some (.int .u64 (bestKey q)) := by
        rw [cell_of_row wr w.heap.size 0 _ _ _ (unhide HROW)]
        cases q <;> rfl
      clear hr1 hk
      go_wp2_with fail
      go_ret2
      exact ⟨rfl, unhide HB⟩
theorem first_nil (g : Nat) (w : World) (hv : w.cell? ⟨g, 2, none⟩ = some (.slice none 0 0)) :
    Calls Tryz.prog 62 #[.pointer (some ⟨g, 2, none⟩), .func (.func 63) #[] #[], .func (.func 64) #[] #[]] w fun e w' => e = .returned (.tuple #[.int .u64 0, .bool false]) ∧ Below w.heap.size w w' := by
  have hgl := block_lt_of_cell hv
  go_enter Tryz.func62, Tryz.ntmps62
  go_wp2
  refine wp_loop_rounds 1 ?_
  rw [rounds_succ]
  go_wp2
  go_ret2
  exact ⟨rfl, alloc_below _ _⟩
theorem first_any (B : Nat) (L : List Ent) (v : Value) (g : Nat) (room life : Int) (w : World) (T : Tab B w g room life v L) :
    Calls Tryz.prog 62 #[.pointer (some ⟨g, 2, none⟩), .func (.func 63) #[] #[], .func (.func 64) #[] #[]] w fun e w' => e = .returned (.tuple #[.int .u64 (bestKey (oldest L)), .bool (oldest L).isSome]) ∧ Below w.heap.size w w' := by
  rcases T.own.parts with ⟨rfl, rfl⟩ | ⟨r, cap, R, rfl, _, hr, _⟩
  · exact first_nil g w T.cell
  · exact first_at L r cap g w T.cell (prow_of hr) T.len _ rfl
theorem size_any (B : Nat) (L : List Ent) (v : Value) (g : Nat) (room life : Int) (w : World) (T : Tab B w g room life v L) :
    Calls Tryz.prog 61 #[.pointer (some ⟨g, 2, none⟩)] w fun e w' => e = .returned (.int .i64 (L.length : Int)) ∧ w' = w := by
  have hv := T.cell
  obtain ⟨av, cv, rfl⟩ : ∃ av cv, v = .slice av L.length cv := by
    rcases T.own.parts with ⟨h, rfl⟩ | ⟨r, cap, R, h, _⟩
    · exact ⟨none, 0, h⟩
    · exact ⟨some ⟨r, 0, none⟩, cap, h⟩
  clear T
  generalize L.length = n at *
  go_enter Tryz.func61, Tryz.ntmps61
  go_wp2
  go_ret
  exact ⟨rfl, rfl⟩
end Go.Proofs.YtljhgehlaehgnaaGreatDoor
namespace Go.Proofs.YtljhgehlaehgnaaGreatDoor
open Go.RowKit Go.Sort

/-- what is left when there is to be room for one more; none: there is none -/
def roomed (room : Int) (L : List Ent) : Option (List Ent) := if (L.length : Int) < room then some L else match oldest L with
  | none => none
  | some b => some (del L b.key)
theorem pick_some {o : Option Ent} {e : Ent} (h : pick o e = none) : o = none ∧ e.fix = true := by
  unfold pick at h
  cases hf : e.fix with
  | true => rw [hf] at h; exact ⟨by simpa using h, rfl⟩
  | false =>
    rw [hf] at h
    cases o with
    | none => simp at h
    | some b => simp at h; split at h <;> simp at h
theorem pick_mem {o : Option Ent} {e b : Ent} (h : pick o e = some b) : (b = e ∧ e.fix = false) ∨ o = some b := by
  unfold pick at h
  cases hf : e.fix with
  | true => rw [hf] at h; exact .inr (by simpa using h)
  | false =>
    rw [hf] at h
    cases o with
    | none => exact .inl ⟨by simpa using h.symm, rfl⟩
    | some c =>
      simp at h
      split at h
      · exact .inl ⟨by simpa using h.symm, rfl⟩
      · exact .inr h
theorem fold_mem : ∀ (L : List Ent) (o : Option Ent) (b : Ent), L.foldl pick o = some b → (b ∈ L ∧ b.fix = false) ∨ o = some b
  | [], o, b, h => .inr h
  | e :: L, o, b, h => by
    rcases fold_mem L (pick o e) b h with ⟨h1, h2⟩ | h1
    · exact .inl ⟨by simp [h1], h2⟩
    · rcases pick_mem h1 with ⟨rfl, h2⟩ | h2
      · exact .inl ⟨by simp, h2⟩
      · exact .inr h2
theorem oldest_mem {L : List Ent} {b : Ent} (h : oldest L = some b) : b ∈ L ∧ b.fix = false := by
  rcases fold_mem L none b h with h | h
  · exact h
  · cases h
theorem look_of_mem {L : List Ent} {b : Ent} (h : b ∈ L) : (look L b.key).isSome = true := by
  unfold look
  rw [List.find?_isSome]
  exact ⟨b, h, by simp⟩
theorem del_len {L : List Ent} {b : Ent} (hs : Srt L) (h : b ∈ L) : (del L b.key).length + 1 = L.length := by
  have := look_of_mem h
  cases hl : look L b.key with
  | none => rw [hl] at this; cases this
  | some e =>
    obtain ⟨A, D, rfl, hk, hA, hD⟩ := look_some hs hl
    rw [del_at hk hA hD]; simp; omega
theorem look_del {L : List Ent} {k j : Int} (h : look L k = none) : look (del L j) k = none := by
  refine List.find?_eq_none.2 fun x hx => ?_
  exact List.find?_eq_none.1 h x (List.mem_filter.1 hx).1
theorem roomed_ok {room : Int} {L L1 : List Ent} (hs : Srt L) (hf : (L.length : Int) ≤ room) (h : roomed room L = some L1) : (L1.length : Int) < room ∧ (∀ k, look L k = none → look L1 k = none) := by
  unfold roomed at h
  split at h
  · obtain rfl : L = L1 := by simpa using h
    exact ⟨by assumption, fun _ h => h⟩
  · cases ho : oldest L with
    | none => rw [ho] at h; cases h
    | some b =>
      rw [ho] at h
      obtain rfl : del L b.key = L1 := by simpa using h
      have := del_len hs (oldest_mem ho).1
      exact ⟨by omega, fun _ h => look_del h⟩
set_option maxRecDepth 100000 in
theorem room_yes (B : Nat) (L : List Ent) (v : Value) (g : Nat) (room life : Int) (w : World) (T : Tab B w g room life v L) (h : (L.length : Int) < room) :
    Calls Tryz.prog 47 #[.pointer (some ⟨g, 0, none⟩)] w fun e w' => e = .returned (.bool true) ∧ Turned B g room life v L w w' := by
  have HT := hide T
  have hf := cells3 T.row
  have hgl := T.lt
  have C := fun n => size_any B L v g room life (w.drewN n) (T.below (drewN_below (Below.refl _ _) n))
  clear T
  generalize L.length = n at *
  go_enter Tryz.func47, Tryz.ntmps47
  go_wp2_with fail
  go_quiet ((go_at_call 61; exact Calls.quiet_of_same (C _)))
  go_wp2_with fail
  go_ret
  exact ⟨rfl, turned_same (unhide HT) (drewN_below (Below.refl _ _) _)⟩
set_option maxRecDepth 100000 in
theorem room_full (B : Nat) (L : List Ent) (v : Value) (g : Nat) (room life : Int) (w : World) (T : Tab B w g room life v L) (h : ¬ (L.length : Int) < room) (b : Bool) (L1 : List Ent)
    (h1 : ∀ c, oldest L = some c → b = true ∧ L1 = del L c.key) (h2 : oldest L = none → b = false ∧ L1 = L) :
    Calls Tryz.prog 47 #[.pointer (some ⟨g, 0, none⟩)] w fun e w' => e = .returned (.bool b) ∧ Turned B g room life v L1 w w' := by
  have HT := hide T
  have hf := cells3 T.row
  have hgl := T.lt
  have C := fun n => size_any B L v g room life (w.drewN n) (T.below (drewN_below (Below.refl _ _) n))
  have F := hide (fun W (h : Below w.heap.size w W) => first_any B L v g room life W (T.below h))
  cases ho : oldest L with
  | none =>
    obtain ⟨rfl, rfl⟩ := h2 ho
    rw [ho] at F
    clear T h1 h2 ho
    generalize L1.length = n at *
    go_enter Tryz.func47, Tryz.ntmps47
    go_wp2_with fail
    go_quiet ((go_at_call 61; exact Calls.quiet_of_same (C _)))
    have hb0 := hide (drewN_below (Below.refl w.heap.size w) nq)
    generalize w.drewN nq = w1 at *
    go_wp2_with fail
    refine (unhide F w1 (unhide hb0)).mono ?_
    rintro e w2 ⟨rfl, b2⟩
    have hb2 := hide ((unhide hb0).trans (b2.mono (unhide hb0).size))
    clear b2
    go_wp2_with fail
    go_ret
    exact ⟨rfl, turned_same (unhide HT) (unhide hb2)⟩
  | some c =>
    obtain ⟨rfl, rfl⟩ := h1 c ho
    have D := hide (fun W (h : Below w.heap.size w W) => drop_any B L v g room life c.key W (T.below h))
    rw [look_of_mem (oldest_mem ho).1] at D
    rw [ho] at F
    clear T h1 h2 ho
    generalize L.length = n at *
    go_enter Tryz.func47, Tryz.ntmps47
    go_wp2_with fail
    go_quiet ((go_at_call 61; exact Calls.quiet_of_same (C _)))
    have hb0 := hide (drewN_below (Below.refl w.heap.size w) nq)
    generalize w.drewN nq = w1 at *
    go_wp2_with fail
    refine (unhide F w1 (unhide hb0)).mono ?_
    rintro e w2 ⟨rfl, b2⟩
    have hb2 := hide ((unhide hb0).trans (b2.mono (unhide hb0).size))
    clear b2
    go_wp2_with fail
    refine (unhide D w2 (unhide hb2)).mono ?_
    rintro e w3 ⟨rfl, t3⟩
    have t4 := hide (turned_from (unhide hb2) t3)
    clear t3
    go_wp2_with fail
    go_ret
    exact ⟨rfl, unhide t4⟩
theorem room_any (B : Nat) (L : List Ent) (v : Value) (g : Nat) (room life : Int) (w : World) (T : Tab B w g room life v L) :
    Calls Tryz.prog 47 #[.pointer (some ⟨g, 0, none⟩)] w fun e w' => e = .returned (.bool (roomed room L).isSome) ∧ Turned B g room life v ((roomed room L).getD L) w w' := by
  unfold roomed
  by_cases h : (L.length : Int) < room
  · rw [if_pos h]; exact room_yes B L v g room life w T h
  · rw [if_neg h]
    exact room_full B L v g room life w T h _ _ (fun c hc => by rw [hc]; exact ⟨rfl, rfl⟩) (fun hc => by rw [hc]; exact ⟨rfl, rfl⟩)
end Go.Proofs.YtljhgehlaehgnaaGreatDoor
namespace Go.Proofs.YtljhgehlaehgnaaGreatDoor
open Go.RowKit Go.Sort

/-- an entry noted: what is left then; none: there is no room -/
def noted (room : Int) (L : List Ent) (x : Ent) : Option (List Ent) := match look L x.key with
  | some _ => some (ins x L)
  | none => (roomed room L).map (ins x)
/-- the number of an answer -/
def errFull (o : Option (List Ent)) : Int := if o.isSome then 0 else 101
set_option maxHeartbeats 1000000 in
set_option maxRecDepth 100000 in
theorem note_old (B : Nat) (L : List Ent) (v : Value) (g : Nat) (room life : Int) (x y : Ent) (w : World) (T : Tab B w g room life v L) (hy : look L x.key = some y) (hx : x.ok) :
    Calls Tryz.prog 33 #[.pointer (some ⟨g, 0, none⟩), .int .u64 x.key, x.st] w fun e w' => e = .returned (.int .i64 0) ∧ Turned B g room life v (ins x L) w w' := by
  have b0 := alloc_below w (.cells #[.int .u64 x.val, .int .i64 x.at_, .bool x.fix] 85)
  have T0 := T.below b0
  have G := hide (get_some B L v g 2 x.key y _ T0.cell T0.own T0.len T0.srt hy)
  have S := hide (fun W (h : Below w.heap.size w W) => set_old B L v g room life x y W (T.below h) hy hx)
  have r0 := hide (heap_alloc_new w (.cells #[.int .u64 x.val, .int .i64 x.at_, .bool x.fix] 85))
  have hB := hide b0
  have hgl := T.lt
  clear T T0 b0 hx
  unfold Ent.st at *
  go_enter Tryz.func33, Tryz.ntmps33
  go_wp2_with fail
  refine (unhide G).mono ?_
  rintro e w1 ⟨rfl, b1⟩
  have b2 := alloc_then (o := .cells #[.int .u64 y.val, .int .i64 y.at_, .bool y.fix] 85) (bthen (unhide hB) b1)
  have r2 := Below.row (alloc_below w1 (.cells #[.int .u64 y.val, .int .i64 y.at_, .bool y.fix] 85)) (Below.row b1 (unhide r0))
  have c2 := cells3 r2
  have hB2 := hide b2
  have S2 := hide (unhide S _ (Below.drew b2))
  have hg1 : g < w1.heap.size := Nat.lt_of_lt_of_le hgl (bthen (unhide hB) b1).size
  clear G r0 hB b1 b2 r2 S
  go_wp2_with fail
  go_region_with (go_at_call 48; refine (unhide S2).mono ?_; rintro e w3 ⟨rfl, t3⟩; have t4 := hide (turned_from (Below.drew (unhide hB2)) t3); clear t3)
  all_goals (go_wp2_with fail; go_ret; exact ⟨rfl, unhide (by assumption)⟩)
set_option maxHeartbeats 1000000 in
set_option maxRecDepth 100000 in
theorem note_full (B : Nat) (L : List Ent) (v : Value) (g : Nat) (room life : Int) (x : Ent) (w : World) (T : Tab B w g room life v L) (hy : look L x.key = none) (hr : roomed room L = none) :
    Calls Tryz.prog 33 #[.pointer (some ⟨g, 0, none⟩), .int .u64 x.key, x.st] w fun e w' => e = .returned (.int .i64 101) ∧ Turned B g room life v L w w' := by
  have b0 := alloc_below w (.cells #[.int .u64 x.val, .int .i64 x.at_, .bool x.fix] 85)
  have T0 := T.below b0
  have G := hide (get_none B L v g 2 x.key _ T0.cell T0.own T0.len T0.srt hy)
  have R := hide (fun W (h : Below w.heap.size w W) => room_any B L v g room life W (T.below h))
  rw [hr] at R
  have hB := hide b0
  clear T T0 b0
  unfold Ent.st at *
  go_enter Tryz.func33, Tryz.ntmps33
  go_wp2_with fail
  refine (unhide G).mono ?_
  rintro e w1 ⟨rfl, b1⟩
  have b2 := alloc_then (o := .cells #[.int .u64 0, .int .i64 0, .bool false] 85) (bthen (unhide hB) b1)
  have R2 := hide (unhide R _ b2)
  have hB2 := hide b2
  clear G hB b1 b2 R
  go_wp2_with fail
  refine (unhide R2).mono ?_
  rintro e w3 ⟨rfl, t3⟩
  have t4 := hide (turned_from (unhide hB2) t3)
  clear t3
  go_wp2_with fail
  go_ret
  exact ⟨rfl, unhide t4⟩
theorem But2.then_row {g : Nat} {r : Option Nat} {w w' : World} {k : Nat} {o : Obj} (h : But2 g r w w') (hg : k ≠ g) (hr : some k ≠ r) (ho : w.heap[k]? = some o) : w'.heap[k]? = some o := h.row hg hr ho
set_option maxHeartbeats 1000000 in
set_option maxRecDepth 100000 in
theorem note_new (B : Nat) (L L1 : List Ent) (v : Value) (g : Nat) (room life : Int) (x : Ent) (w : World) (T : Tab B w g room life v L) (hy : look L x.key = none) (hr : roomed room L = some L1) (hx : x.ok) (hBw : B ≤ w.heap.size) :
    Calls Tryz.prog 33 #[.pointer (some ⟨g, 0, none⟩), .int .u64 x.key, x.st] w fun e w' => e = .returned (.int .i64 0) ∧ Turned B g room life v (ins x L1) w w' := by
  obtain ⟨hL1, hk1⟩ := roomed_ok T.srt T.fit hr
  have hy1 := hk1 _ hy
  have b0 := alloc_below w (.cells #[.int .u64 x.val, .int .i64 x.at_, .bool x.fix] 85)
  have T0 := T.below b0
  have G := hide (get_none B L v g 2 x.key _ T0.cell T0.own T0.len T0.srt hy)
  have R := hide (fun W (h : Below w.heap.size w W) => room_any B L v g room life W (T.below h))
  rw [hr] at R
  have S := hide (fun W v1 (T1 : Tab B W g room life v1 L1) (h : B ≤ W.heap.size) => set_new B L1 v1 g room life x W T1 hy1 hx hL1 h)
  have r0 := hide (heap_alloc_new w (.cells #[.int .u64 x.val, .int .i64 x.at_, .bool x.fix] 85))
  have hB := hide b0
  have hgl := T.lt
  have hbv : Hid (some w.heap.size ≠ v.ownBlock) := fun e => by have := (T.vlt _ e.symm).2; omega
  clear T T0 b0 hx hL1 hk1 hy1
  unfold Ent.st at *
  go_enter Tryz.func33, Tryz.ntmps33
  go_wp2_with fail
  refine (unhide G).mono ?_
  rintro e w1 ⟨rfl, b1⟩
  have b2 := alloc_then (o := .cells #[.int .u64 0, .int .i64 0, .bool false] 85) (bthen (unhide hB) b1)
  have r2 := hide (Below.row (alloc_below w1 (.cells #[.int .u64 0, .int .i64 0, .bool false] 85)) (Below.row b1 (unhide r0)))
  have R2 := hide (unhide R _ b2)
  have hB2 := hide b2
  clear G hB b1 b2 R r0
  go_wp2_with fail
  refine (unhide R2).mono ?_
  rintro e w3 ⟨rfl, t3⟩
  have t4 := hide (turned_from (unhide hB2) t3)
  obtain ⟨v3, T3, but3, n3⟩ := t3
  have c3 := cells3 (but3.row (by omega) (unhide hbv) (unhide r2))
  have hg3 := T3.lt
  have bd := Below.drew (Below.refl w3.heap.size w3)
  have S3 := hide (unhide S w3.drew v3 (T3.below bd) (Nat.le_trans hBw (Nat.le_trans (unhide hB2).size but3.size)))
  have t5 : Hid (∀ w4, Turned B g room life v3 (ins x L1) w3.drew w4 → Turned B g room life v (ins x L1) w w4) := by
    intro w4 t
    have t' := turned_from bd t
    obtain ⟨v4, T4, b4, n4⟩ := t'
    obtain ⟨_, _, be, ne⟩ := turned_from (unhide hB2) ⟨v3, T3, but3, n3⟩
    have hx := turned_from (unhide hB2) ⟨v3, T3, but3, n3⟩
    exact ⟨v4, T4, (((But2.of (unhide hB2)).trans (Nb.refl _ _) but3).trans (n3.elim .inl fun h => .inr fun k hk => Nat.le_trans (unhide hB2).size (h k hk)) b4), Nb.trans (n3.elim .inl fun h => .inr fun k hk => Nat.le_trans (unhide hB2).size (h k hk)) (Nat.le_trans (unhide hB2).size but3.size) n4⟩
  clear T3 but3 n3 R2 S r2 t4 bd
  go_wp2_with fail
  go_region_with (go_at_call 48; refine (unhide S3).mono ?_; rintro e w4 ⟨rfl, t6⟩; have t7 := hide (unhide t5 w4 t6); clear t6)
  all_goals (go_wp2_with fail; go_ret; exact ⟨rfl, unhide (by assumption)⟩)
theorem note_any (B : Nat) (L : List Ent) (v : Value) (g : Nat) (room life : Int) (x : Ent) (w : World) (T : Tab B w g room life v L) (hx : x.ok) (hBw : B ≤ w.heap.size) :
    Calls Tryz.prog 33 #[.pointer (some ⟨g, 0, none⟩), .int .u64 x.key, x.st] w fun e w' => e = .returned (.int .i64 (errFull (noted room L x))) ∧ Turned B g room life v ((noted room L x).getD L) w w' := by
  unfold noted errFull
  cases hy : look L x.key with
  | some y => exact note_old B L v g room life x y w T hy hx
  | none =>
    cases hr : roomed room L with
    | none => exact note_full B L v g room life x w T hy hr
    | some L1 => exact note_new B L L1 v g room life x w T hy hr hx hBw
end Go.Proofs.YtljhgehlaehgnaaGreatDoor
namespace Go.Proofs.YtljhgehlaehgnaaGreatDoor
open Go.RowKit Go.Sort

/-- an entry that is put: the answer's number, and what is left -/
def putP (room life : Int) (L : List Ent) (x : Ent) : Int × List Ent :=
  if timeB x.at_ then match look L x.key with
    | some y => if y.fix then (100, L) else (0, ins x L)
    | none => (errFull (noted room (kept (oldE life x.at_) L) x), (noted room (kept (oldE life x.at_) L) x).getD (kept (oldE life x.at_) L))
  else (1, L)
/-- an entry that is fixed -/
def fixP (room : Int) (L : List Ent) (x : Ent) : Int × List Ent := (errFull (noted room L x), (noted room L x).getD L)
theorem Tab.base {B : Nat} {w : World} {g : Nat} {room life : Int} {v : Value} {L : List Ent} (h : Tab B w g room life v L) : B ≤ w.heap.size := by
  have := h.low; have := h.lt; omega
theorem put_no (B : Nat) (L : List Ent) (v : Value) (g : Nat) (room life key val now : Int) (w : World) (T : Tab B w g room life v L) (h : timeB now = false) :
    Calls Tryz.prog 18 #[.pointer (some ⟨g, 0, none⟩), .int .u64 key, .int .u64 val, .int .i64 now] w fun e w' => e = .returned (.int .i64 1) ∧ Turned B g room life v L w w' := by
  have C := hide (fun W => isTime_any now W)
  rw [h] at C
  have HT := hide T
  clear T h
  go_enter Tryz.func18, Tryz.ntmps18
  go_wp2_with fail
  refine (unhide C _).mono ?_
  rintro e w2 ⟨rfl, rfl⟩
  go_wp2_with fail
  go_ret
  exact ⟨rfl, turned_same (unhide HT) (Below.refl _ _)⟩
set_option maxRecDepth 100000 in
theorem put_fixed (B : Nat) (L : List Ent) (v : Value) (g : Nat) (room life key val now : Int) (y : Ent) (w : World) (T : Tab B w g room life v L) (h : timeB now = true) (hy : look L key = some y) (hf : y.fix = true) :
    Calls Tryz.prog 18 #[.pointer (some ⟨g, 0, none⟩), .int .u64 key, .int .u64 val, .int .i64 now] w fun e w' => e = .returned (.int .i64 100) ∧ Turned B g room life v L w w' := by
  have C := hide (fun W => isTime_any now W)
  rw [h] at C
  have G := hide (get_some B L v g 2 key y w T.cell T.own T.len T.srt hy)
  unfold Ent.st at G
  rw [hf] at G
  have HT := hide T
  clear T h hf hy
  go_enter Tryz.func18, Tryz.ntmps18
  go_wp2_with fail
  refine (unhide C _).mono ?_
  rintro e w2 ⟨rfl, rfl⟩
  go_wp2_with fail
  refine (unhide G).mono ?_
  rintro e w3 ⟨rfl, b3⟩
  have hB := hide (alloc_then (o := .cells #[.int .u64 y.val, .int .i64 y.at_, .bool true] 85) b3)
  clear b3
  go_wp2_with fail
  go_ret
  exact ⟨rfl, turned_same (unhide HT) (unhide hB)⟩
set_option maxRecDepth 100000 in
theorem put_old (B : Nat) (L : List Ent) (v : Value) (g : Nat) (room life key val now : Int) (y : Ent) (w : World) (T : Tab B w g room life v L) (h : timeB now = true) (hy : look L key = some y) (hf : y.fix = false) (hx : (Ent.mk key val now false).ok) :
    Calls Tryz.prog 18 #[.pointer (some ⟨g, 0, none⟩), .int .u64 key, .int .u64 val, .int .i64 now] w fun e w' => e = .returned (.int .i64 0) ∧ Turned B g room life v (ins ⟨key, val, now, false⟩ L) w w' := by
  have C := hide (fun W => isTime_any now W)
  rw [h] at C
  have G := hide (get_some B L v g 2 key y w T.cell T.own T.len T.srt hy)
  unfold Ent.st at G
  rw [hf] at G
  have N := hide (fun W (h : Below w.heap.size w W) => note_old B L v g room life ⟨key, val, now, false⟩ y W (T.below h) hy hx)
  unfold Ent.st at N
  clear T h hf hy hx
  go_enter Tryz.func18, Tryz.ntmps18
  go_wp2_with fail
  refine (unhide C _).mono ?_
  rintro e w2 ⟨rfl, rfl⟩
  go_wp2_with fail
  refine (unhide G).mono ?_
  rintro e w3 ⟨rfl, b3⟩
  have hB := hide (alloc_then (o := .cells #[.int .u64 y.val, .int .i64 y.at_, .bool false] 85) b3)
  have N2 := hide (unhide N _ (unhide hB))
  clear b3 N
  go_wp2_with fail
  refine (unhide N2).mono ?_
  rintro e w4 ⟨rfl, t4⟩
  have t5 := hide (turned_from (unhide hB) t4)
  clear t4
  go_wp2_with fail
  go_ret
  exact ⟨rfl, unhide t5⟩
set_option maxRecDepth 100000 in
theorem put_new (B : Nat) (L : List Ent) (v : Value) (g : Nat) (room life key val now : Int) (w : World) (T : Tab B w g room life v L) (h : timeB now = true) (hy : look L key = none) (hx : (Ent.mk key val now false).ok) (c : Int) (L2 : List Ent)
    (hc : c = errFull (noted room (kept (oldE life now) L) ⟨key, val, now, false⟩)) (hL : L2 = (noted room (kept (oldE life now) L) ⟨key, val, now, false⟩).getD (kept (oldE life now) L)) :
    Calls Tryz.prog 18 #[.pointer (some ⟨g, 0, none⟩), .int .u64 key, .int .u64 val, .int .i64 now] w fun e w' => e = .returned (.int .i64 c) ∧ Turned B g room life v L2 w w' := by
  have C := hide (fun W => isTime_any now W)
  rw [h] at C
  have G := hide (get_none B L v g 2 key w T.cell T.own T.len T.srt hy)
  have E := hide (fun W (b : Below w.heap.size w W) => expire_yes B L v g room life now _ W (T.below b) h rfl)
  have N := hide (fun W v1 (T1 : Tab B W g room life v1 (kept (oldE life now) L)) => note_any B _ v1 g room life ⟨key, val, now, false⟩ W T1 hx T1.base)
  rw [← hc, ← hL] at N
  unfold Ent.st at N
  clear T h hy hx hc hL
  go_enter Tryz.func18, Tryz.ntmps18
  go_wp2_with fail
  refine (unhide C _).mono ?_
  rintro e w2 ⟨rfl, rfl⟩
  go_wp2_with fail
  refine (unhide G).mono ?_
  rintro e w3 ⟨rfl, b3⟩
  have hB := hide (alloc_then (o := .cells #[.int .u64 0, .int .i64 0, .bool false] 85) b3)
  have E2 := hide (unhide E _ (unhide hB))
  clear b3 E
  go_wp2_with fail
  refine (unhide E2).mono ?_
  rintro e w4 ⟨rfl, t4⟩
  have t5 := hide (turned_from (unhide hB) t4)
  obtain ⟨v4, T4, b4, n4⟩ := t4
  have N2 := hide (unhide N _ v4 T4)
  have TT := hide T4
  have fin : Hid (∀ w5, Turned B g room life v4 L2 w4 w5 → Turned B g room life v L2 w2 w5) := by
    intro w5 t
    obtain ⟨v5, T5, b5, n5⟩ := t
    have bb := (But2.of (g := g) (r := v.ownBlock) (unhide hB)).trans (Nb.refl _ _) b4
    have nn : Nb w2 v.ownBlock v4.ownBlock := n4.elim .inl fun h => .inr fun k hk => Nat.le_trans (unhide hB).size (h k hk)
    exact ⟨v5, T5, bb.trans nn b5, nn.trans bb.size n5⟩
  clear N T4 b4 n4 E2
  go_wp2_with fail
  refine (unhide N2).mono ?_
  rintro e w5 ⟨rfl, t6⟩
  have t7 := hide (unhide fin w5 t6)
  clear t6
  go_wp2_with fail
  go_ret
  exact ⟨rfl, unhide t7⟩
theorem put_any (B : Nat) (L : List Ent) (v : Value) (g : Nat) (room life key val now : Int) (w : World) (T : Tab B w g room life v L) (hk : 0 ≤ key ∧ key < 18446744073709551616) (hv : 0 ≤ val ∧ val < 18446744073709551616) :
    Calls Tryz.prog 18 #[.pointer (some ⟨g, 0, none⟩), .int .u64 key, .int .u64 val, .int .i64 now] w fun e w' => e = .returned (.int .i64 (putP room life L ⟨key, val, now, false⟩).1) ∧ Turned B g room life v (putP room life L ⟨key, val, now, false⟩).2 w w' := by
  unfold putP
  simp only
  cases h : timeB now with
  | false => exact put_no B L v g room life key val now w T h
  | true =>
    have hx : (Ent.mk key val now false).ok := by
      simp [timeB] at h
      exact ⟨hk.1, hk.2, hv.1, hv.2, h.1, h.2, fun e => by cases e⟩
    cases hy : look L key with
    | some y =>
      simp only [if_true]
      cases hf : y.fix with
      | true => exact put_fixed B L v g room life key val now y w T h hy hf
      | false => exact put_old B L v g room life key val now y w T h hy hf hx
    | none => exact put_new B L v g room life key val now w T h hy hx _ _ rfl rfl
end Go.Proofs.YtljhgehlaehgnaaGreatDoor
namespace Go.Proofs.YtljhgehlaehgnaaGreatDoor
open Go.RowKit Go.Sort

theorem Tryz.infoEntry : (Tryz.prog.info? 73).map (fun i => (i.zero, i.size, i.bytes)) = some (some (.agg #[.int .u64 0, .int .u64 0, .int .i64 0, .bool false]), 4, 32) := by kernel_rfl
/-- the entries that a slice owns, in memory from block B on -/
def Tells (B : Nat) (w : World) (v : Value) (L : List Ent) : Prop := w.ownsRow B 73 4 v L.length (cs L)
theorem owns_below {B : Nat} {e : TypeId} {s n : Nat} {xs : List Value} {w w' : World} {v : Value} (h : w.ownsRow B e s v n xs) (b : Below w.heap.size w w') : w'.ownsRow B e s v n xs := by
  obtain ⟨hl, hx | ⟨k, cap, cur, rfl, h1, h2, h3, h4, h5, h6⟩⟩ := h
  · exact ⟨hl, .inl hx⟩
  · exact ⟨hl, .inr ⟨k, cap, cur, rfl, h1, Below.row b h2, h3, h4, h5, h6⟩⟩
theorem src4e (w : World) (x : Ent) : ∀ j u, x.cs[j]? = some u → (w.alloc (.cells #[.int .u64 x.key, .int .u64 x.val, .int .i64 x.at_, .bool x.fix] 73)).cell? ((⟨w.heap.size, 0, none⟩ : Addr).add j) = some u := by
  intro j u hu
  rw [Addr.add_lit, Nat.zero_add, cell_of_row _ w.heap.size j _ _ _ (heap_alloc_new w _)]
  simpa [Ent.cs] using hu
theorem entries_nil (g : Nat) (room life : Int) (B : Nat) (w : World) (T : Tab B w g room life (.slice none 0 0) []) :
    Calls Tryz.prog 116 #[.pointer (some ⟨g, 0, none⟩)] w fun e w' => e = .returned (.slice (some ⟨w.heap.size, 0, none⟩) 0 0) ∧ Tells w.heap.size w' (.slice (some ⟨w.heap.size, 0, none⟩) 0 0) [] ∧ Below w.heap.size w w' := by
  obtain ⟨i0, hi0, hz0, hz1, hz2⟩ := info_parts Tryz.infoEntry
  have C := hide (size_any B [] (.slice none 0 0) g room life w T)
  have hgl := T.lt
  have hcx := T.cell
  clear T
  go_enter Tryz.func116, Tryz.ntmps116
  go_wp2_with (first | (go_at_call 61; refine (unhide C).mono ?_; rintro e w1 ⟨rfl, rfl⟩) | (at_make; refine wpList_make_own _ rfl _ _ 43 rfl w1.heap.size 73 i0 _ 4 Tryz.underlying43 hi0 hz0 hz1 _ _ _ 0 rfl rfl (by rfl) (by omega) (by unfold maxLen; omega) (Nat.le_refl _) ?_; intro w2 ho2 hg2; have hcx2 := (hg2.cell hcx (by simp)); have H2 := hide ho2; have G2 := hide hg2; clear ho2 hg2))
  refine wp_loop_rounds 1 ?_
  rw [rounds_succ]
  go_wp2
  go_ret
  exact ⟨rfl, unhide H2, (Below.refl _ _).grown (unhide G2) (Nat.le_refl _) (fun k hk => by cases hk)⟩
set_option maxHeartbeats 1000000 in
set_option maxRecDepth 100000 in
theorem entries_at (g r c n : Nat) (room life : Int) (B : Nat) (L : List Ent) (w : World) (T : Tab B w g room life (.slice (some ⟨r, 0, none⟩) L.length c) L) (hn : L.length = n) (hr : Prow w r L) :
    Calls Tryz.prog 116 #[.pointer (some ⟨g, 0, none⟩)] w fun e w' => e = .returned (.slice (some ⟨w.heap.size, 0, none⟩) n n) ∧ Tells w.heap.size w' (.slice (some ⟨w.heap.size, 0, none⟩) n n) L ∧ Below w.heap.size w w' := by
  obtain ⟨i0, hi0, hz0, hz1, hz2⟩ := info_parts Tryz.infoEntry
  have C := hide (size_any B L _ g room life w T)
  have hgl := T.lt
  have hcx := T.cell
  have hc := T.len
  have HR := hide hr
  have HN := hide hn
  rw [hn] at C hcx hc
  have CE := hide (fun (e : Ent) W => entry_any e.key e W)
  unfold Ent.st at CE
  clear T hr hn
  go_enter Tryz.func116, Tryz.ntmps116
  go_wp2_with (first | (go_at_call 61; refine (unhide C).mono ?_; rintro e w1 ⟨rfl, rfl⟩) | (at_make; refine wpList_make_own _ rfl _ _ 43 rfl w1.heap.size 73 i0 _ 4 Tryz.underlying43 hi0 hz0 hz1 _ _ _ n rfl rfl (by rfl) (by rw [hz2]; omega) (by unfold maxLen; omega) (Nat.le_refl _) ?_; intro w2 ho2 hg2; have hcx2 := (hg2.cell hcx (by simp)); have H2 := hide ho2; have G2 := hide hg2; clear ho2 hg2))
  go_loopw [3, 5, 17] (fun o _ a wr => ∃ k : Nat, a = .int .i64 k ∧ k ≤ n ∧ o = .slice (some ⟨w1.heap.size, 0, none⟩) k n ∧ wr.ownsRow w1.heap.size 73 4 (.slice (some ⟨w1.heap.size, 0, none⟩) k n) k (cs (L.take k)) ∧ Below w1.heap.size w1 wr) (fun _ _ a _ => n - (intOf a).toNat)
  case atStart => exact ⟨0, rfl, Nat.zero_le _, rfl, unhide H2, (Below.refl _ _).grown (unhide G2) (Nat.le_refl _) (fun k hk => by cases hk)⟩
  case round =>
    obtain ⟨k, rfl, hkn, rfl, hown, hb⟩ := hrel
    have HB := hide hb
    have HO := hide hown
    have hr1 := (unhide HR).below hb
    clear hb hown H2 G2 hcx2
    by_cases hlt : k < n
    · have hkl : k < L.length := by rw [unhide HN]; exact hlt
      have e0 := hr1.at0 k hkl
      have e1 := hr1.at1 k hkl
      have e2 := hr1.at2 k hkl
      have e3 := hr1.at3 k hkl
      have HT := hide (List.take_succ_eq_append_getElem hkl)
      clear hr1
      generalize L[k] = E at e0 e1 e2 e3 HT
      have b1 := alloc_below wr (.cells #[.int .u64 E.key, .int .u64 E.val, .int .i64 E.at_, .bool E.fix] 101)
      have C1 := hide (unhide CE E (wr.alloc (.cells #[.int .u64 E.key, .int .u64 E.val, .int .i64 E.at_, .bool E.fix] 101)))
      have B1 := hide b1
      clear b1
      go_upto_region 5 with (fail)
      go_wp2_with (first | (go_at_call 51; refine (unhide C1).mono ?_; rintro e w2 ⟨rfl, b2⟩; have B2 := hide (bthen (unhide B1) b2); have S2 := hide (src4e w2 E); clear b2) | (at_builtin; refine wpList_append_fits _ rfl (.tmp 21) (.tmp 27) 43 rfl w1.heap.size 73 i0 4 Tryz.underlying43 hi0 hz1 w1.heap.size k n (cs (L.take k)) rfl (owns_below (unhide HO) (alloc_then (unhide B2))) ⟨w2.heap.size, 0, none⟩ 1 1 E.cs rfl rfl (unhide S2) (cs4_one E) (by omega) ?_; intro w3 ho3 hg3; have H3 := hide ho3; have G3 := hide hg3; clear ho3 hg3))
      go_roundw
      case rel =>
        refine ⟨k + 1, by go_num, by omega, by rfl, ?_, ?_⟩
        · have h := unhide H3
          rw [unhide HT, cs_append, cs_one]
          exact h
        · refine (((unhide HB).trans ((alloc_then (unhide B2)).mono (unhide HB).size)).grown (unhide G3) ?_ (fun j hj => by simp at hj; omega))
          exact Nat.le_trans (unhide HB).size (alloc_then (unhide B2)).size
      case measure => simp [intOf]; omega
    · obtain rfl : k = n := by omega
      have hk : L.take k = L := List.take_of_length_le (by rw [unhide HN]; exact Nat.le_refl _)
      rw [hk] at HO
      clear hr1 hk
      go_wp2_with fail
      go_ret
      refine ⟨rfl, ?_, unhide HB⟩
      show World.ownsRow _ _ _ _ _ _ _
      rw [unhide HN]; exact unhide HO
theorem entries_any (g : Nat) (room life : Int) (B : Nat) (v : Value) (L : List Ent) (w : World) (T : Tab B w g room life v L) :
    Calls Tryz.prog 116 #[.pointer (some ⟨g, 0, none⟩)] w fun e w' => e = .returned (.slice (some ⟨w.heap.size, 0, none⟩) L.length L.length) ∧ Tells w.heap.size w' (.slice (some ⟨w.heap.size, 0, none⟩) L.length L.length) L ∧ Below w.heap.size w w' := by
  rcases T.own.parts with ⟨rfl, rfl⟩ | ⟨r, cap, R, rfl, _, hr, _⟩
  · exact entries_nil g room life B w T
  · exact entries_at g r cap L.length room life B L w T rfl (prow_of hr)
end Go.Proofs.YtljhgehlaehgnaaGreatDoor
namespace Go.Proofs.YtljhgehlaehgnaaGreatDoor
open Go.RowKit Go.Sort

/-- what a clone is -/
def Cloned (L : List Ent) (w : World) (a : Option Addr) (m c : Nat) (w' : World) : Prop := Own w.heap.size w' (.slice a m c) L ∧ Below w.heap.size w w'
set_option maxRecDepth 100000 in
theorem clone_nil (w : World) : Calls Tryz.prog 41 #[.slice none 0 0] w fun e w' => ∃ a m c, e = .returned (.slice a m c) ∧ Cloned [] w a m c w' := by
  have he : ∀ W, (binOp .eql 78 (.slice none 0 0) (.slice none 0 0)).run Tryz.prog W = .ok (.bool true) W := fun W => Lib.run_eql_slice_nil (P := Tryz.prog) W 78 101 none 0 0 0 0 Tryz.underlying78
  go_enter Tryz.func41, Tryz.ntmps41
  go_wp2
  go_ret
  exact ⟨none, 0, 0, rfl, World.ownsRow_nil _ _ _ _, Below.refl _ _⟩
set_option maxRecDepth 100000 in
theorem clone_at (L : List Ent) (r cap n : Nat) (R : List Value) (w : World) (hr : w.heap[r]? = some (.cells (cs L ++ R).toArray 101 (0, 0))) (hn : L.length = n) (hc : n ≤ 4096) :
    Calls Tryz.prog 41 #[.slice (some ⟨r, 0, none⟩) n cap] w fun e w' => ∃ a m c, e = .returned (.slice a m c) ∧ Cloned L w a m c w' := by
  obtain ⟨i0, hi0, hz0, hz1, hz2⟩ := info_parts Tryz.infoPart
  have hb := alloc_below w (.cells #[] 101)
  have hr2 := Below.row hb hr
  have hsrc : Hid (∀ j u, (cs L)[j]? = some u → (w.alloc (.cells #[] 101)).cell? ((⟨r, 0, none⟩ : Addr).add j) = some u) := by
    intro j u hu
    have ht : j < (cs L).length := (List.getElem?_eq_some_iff.1 hu).1
    rw [Addr.add_lit, Nat.zero_add, cell_of_row _ r _ _ _ _ hr2, List.getElem?_toArray, List.getElem?_append_left ht]
    exact hu
  have hlen : Hid ((cs L).length = n * 4) := by show _ = _; rw [cs_length, hn]
  have hown : Hid ((w.alloc (.cells #[] 101)).ownsRow w.heap.size 101 4 (.slice (some ⟨w.heap.size, 0, none⟩) 0 0) 0 []) := World.ownsRow_made w #[] 0 (Nat.le_refl _) (by unfold maxLen; omega) rfl
  have HN := hide hn
  have HB := hide hb
  have hsz : w.heap.size ≤ (w.alloc (.cells #[] 101)).heap.size := hb.size
  clear hr hr2 hn hb
  have he : ∀ W, (binOp .eql 78 (.slice (some ⟨r, 0, none⟩) n cap) (.slice none 0 0)).run Tryz.prog W = .ok (.bool false) W := fun W => Lib.run_eql_slice_nil (P := Tryz.prog) W 78 101 (some ⟨r, 0, none⟩) n cap 0 0 Tryz.underlying78
  go_enter Tryz.func41, Tryz.ntmps41
  go_wp2_with (at_builtin; refine wpList_append_own_at _ rfl (.tmp 5) (.tmp 6) 78 rfl w.heap.size 101 i0 _ 4 32 Tryz.underlying78 hi0 hz0 hz1 hz2 rfl (by decide) _ 0 [] rfl (unhide hown) ⟨r, 0, none⟩ n cap (cs L) rfl (unhide hlen) (unhide hsrc) (cs_oneCell L) (by unfold maxLen; omega) (by omega) hsz ?_; intro v' w1 ho1 hg1 hn1 hat1; have H1 := hide ho1; have H2 := hide hg1; clear ho1 hg1 hn1 hat1)
  go_ret
  have h1 := unhide H1
  have hown' : Own w.heap.size w1 v' L := by
    show World.ownsRow _ _ _ _ _ _ _
    rw [unhide HN]
    simpa using h1
  have hb1 : Below w.heap.size w w1 := (unhide HB).grown (unhide H2) hsz (fun k hk => by have e : some w.heap.size = some k := hk; have e2 : w.heap.size = k := Option.some.inj e; exact Nat.le_of_eq e2)
  rcases hown'.parts with ⟨rfl, rfl⟩ | ⟨r', cap', R', rfl, _⟩
  · exact ⟨_, _, _, rfl, hown', hb1⟩
  · exact ⟨_, _, _, rfl, hown', hb1⟩
theorem clone_any (B : Nat) (L : List Ent) (v : Value) (w : World) (ho : Own B w v L) (hc : L.length ≤ 4096) :
    Calls Tryz.prog 41 #[v] w fun e w' => ∃ a m c, e = .returned (.slice a m c) ∧ Cloned L w a m c w' := by
  rcases ho.parts with ⟨rfl, rfl⟩ | ⟨r, cap, R, rfl, hB, hr, _⟩
  · exact clone_nil w
  · exact clone_at L r cap L.length R w hr rfl hc
set_option maxRecDepth 100000 in
theorem copied_any (B : Nat) (L : List Ent) (v : Value) (g : Nat) (room life : Int) (w : World) (T : Tab B w g room life v L) :
    Calls Tryz.prog 28 #[.pointer (some ⟨g, 2, none⟩)] w fun e w' => ∃ a m c, e = .returned (.agg #[.slice a m c]) ∧ Own w.heap.size w' (.slice a m c) L ∧ Below w.heap.size w w' := by
  have b0 := alloc_below w (.cells #[.slice none 0 0] 80)
  have T0 := T.below b0
  have C := hide (clone_any B L v _ T0.own T0.len)
  have hcx := T0.cell
  have hgl := T.lt
  have hr0 := hide (heap_alloc_new w (.cells #[.slice none 0 0] 80))
  have hB := hide b0
  have hcx0 := T.cell
  clear T T0 b0
  go_enter Tryz.func28, Tryz.ntmps28
  go_wp2_with fail
  refine (unhide C).mono ?_
  rintro e w1 ⟨a, m, c, rfl, o1, b1⟩
  have r1 := Below.row b1 (unhide hr0)
  have c1 := cells1 r1
  have R1 := hide r1
  have O1 := hide o1
  have B1 := hide (bthen (unhide hB) b1)
  clear C r1 o1 b1 hr0 hB
  go_wp2_with fail
  refine bodyPost_ret (v := .agg #[.slice a m c]) ?_ rfl ⟨a, m, c, rfl, ?_, below1 (unhide B1) (Nat.le_refl _)⟩
  · exact results_cell_row rfl _ _ w.heap.size 80 _ _ _ rfl (set1 (unhide R1)) Tryz.underlying80 rfl (by kernel_rfl)
  · have h := unhide O1
    have hw : (w.alloc (.cells #[.slice none 0 0] 80)).heap.size = w.heap.size + 1 := by simp
    rw [hw] at h
    have hne : (Value.slice a m c).ownBlock ≠ some w.heap.size := fun e => by have := (World.ownsRow.lt h _ e).1; omega
    have h2 := Own.setCell (o := 0) h hne (.slice a m c)
    obtain ⟨hl, hx | ⟨k, cap, cur, hv, h1, hrest⟩⟩ := h2
    · exact ⟨hl, .inl hx⟩
    · exact ⟨hl, .inr ⟨k, cap, cur, hv, by omega, hrest⟩⟩
/-- another table in the same state, in memory of its own -/
def Twin (B : Nat) (room life : Int) (L : List Ent) (w w' : World) (p : Nat) : Prop :=
  ∃ v', Tab B w' p room life v' L ∧ Below w.heap.size w w' ∧ w.heap.size ≤ p ∧ ∀ k, v'.ownBlock = some k → w.heap.size ≤ k
theorem own_mono {B B' : Nat} {w : World} {v : Value} {L : List Ent} (h : Own B w v L) (hb : B' ≤ B) : Own B' w v L := by
  obtain ⟨hl, hx | ⟨k, cap, cur, hv, h1, hrest⟩⟩ := h
  · exact ⟨hl, .inl hx⟩
  · exact ⟨hl, .inr ⟨k, cap, cur, hv, by omega, hrest⟩⟩
set_option maxHeartbeats 1000000 in
set_option maxRecDepth 100000 in
theorem copy_any (B : Nat) (L : List Ent) (v : Value) (g : Nat) (room life : Int) (w : World) (T : Tab B w g room life v L) :
    Calls Tryz.prog 15 #[.pointer (some ⟨g, 0, none⟩)] w fun e w' => ∃ p, e = .returned (.pointer (some ⟨p, 0, none⟩)) ∧ Twin B room life L w w' p := by
  have C := hide (fun W (h : Below w.heap.size w W) => copied_any B L v g room life W (T.below h))
  have keepG : Hid (∀ W, Below w.heap.size w W → W.cell? ⟨g, 0, none⟩ = some (.int .i64 room) ∧ W.cell? ⟨g, 1, none⟩ = some (.int .i64 life)) := fun W h => by
    have := cells3 (T.below h).row
    exact ⟨this.1, this.2.1⟩
  have fin : Hid (∀ W w1 a m c, Below w.heap.size w W → Own W.heap.size w1 (.slice a m c) L → Below W.heap.size W w1 → Twin B room life L w (w1.alloc (.cells #[.int .i64 room, .int .i64 life, .slice a m c] 82)) w1.heap.size) := by
    intro W w1 a m c h ho hb
    have hs : w.heap.size ≤ w1.heap.size := Nat.le_trans h.size hb.size
    have ho' := own_mono (B' := w.heap.size) ho h.size
    refine ⟨.slice a m c, ⟨heap_alloc_new w1 _, (own_mono ho' T.base).below (alloc_below _ _), Nat.le_trans T.base hs, ?_, T.srt, T.oks, T.fit, T.room1, T.room2, T.life1, T.life2⟩, alloc_then (bthen h hb), hs, fun k hk => (World.ownsRow.lt ho' k hk).1⟩
    intro e
    have := (World.ownsRow.lt ho' _ e).2
    omega
  have hgl := T.lt
  have hf := cells3 T.row
  have hc0 := hf.1
  have hc1 := hf.2.1
  clear T hf
  go_enter Tryz.func15, Tryz.ntmps15
  go_wp2_with fail
  go_region_held3 (fun W => W.cell? ⟨g, 0, none⟩ = some (.int .i64 room) ∧ W.cell? ⟨g, 1, none⟩ = some (.int .i64 life)) ((refine unhide keepG _ ?_; (repeat (first | (with_reducible exact Below.refl _ _) | (with_reducible refine Below.drew ?_) | (with_reducible refine alloc_then ?_) | (with_reducible refine bthen ?_ B3))); done))
    ((go_at_call 28; refine (unhide C _ ?_).mono ?_; (repeat (first | (with_reducible exact Below.refl _ _) | (with_reducible refine Below.drew ?_) | (with_reducible refine alloc_then ?_))); rintro e w3 ⟨a, m, c, rfl, o3, B3⟩))
  have O3 := hide o3
  have BB := hide B3
  clear o3 B3
  go_wp2_with fail
  go_ret
  exact ⟨_, rfl, unhide fin _ w3 a m c (by first | exact Below.refl _ _ | exact Below.drew (Below.refl _ _)) (unhide O3) (unhide BB)⟩
end Go.Proofs.YtljhgehlaehgnaaGreatDoor
namespace Go.Proofs.YtljhgehlaehgnaaGreatDoor

theorem srt_key {L : List Ent} (h : Srt L) {x y : Ent} (hx : x ∈ L) (hy : y ∈ L) (hk : x.key = y.key) : x = y := by
  induction L with
  | nil => cases hx
  | cons a L ih =>
    have h' := List.pairwise_cons.1 h
    rcases List.mem_cons.1 hx with h1 | h1
    · rcases List.mem_cons.1 hy with h2 | h2
      · rw [h1, h2]
      · have := h'.1 y h2
        rw [h1] at hk; omega
    · rcases List.mem_cons.1 hy with h2 | h2
      · have := h'.1 x h1
        rw [h2] at hk; omega
      · exact ih h'.2 h1 h2
theorem look_iff {L : List Ent} (h : Srt L) {k : Int} {x : Ent} : look L k = some x ↔ x ∈ L ∧ x.key = k := by
  constructor
  · intro hx
    exact ⟨List.mem_of_find?_eq_some hx, by simpa using List.find?_some hx⟩
  · rintro ⟨hx, rfl⟩
    cases hl : look L x.key with
    | none =>
      have := List.find?_eq_none.1 hl x hx
      simp at this
    | some y =>
      have hy := List.mem_of_find?_eq_some hl
      have hk : y.key = x.key := by simpa using List.find?_some hl
      rw [srt_key h hy hx hk]
theorem look_none_iff {L : List Ent} {k : Int} : look L k = none ↔ ∀ x ∈ L, x.key ≠ k := by
  unfold look
  rw [List.find?_eq_none]
  simp
theorem mem_ins_new {L : List Ent} (h : Srt L) {x y : Ent} (hn : look L x.key = none) : y ∈ ins x L ↔ y = x ∨ y ∈ L := by
  obtain ⟨A, B, rfl, hA, hB⟩ := look_none h hn
  rw [ins_new hA hB]
  simp only [List.mem_append, List.mem_cons]
  constructor
  · rintro (h | h | h) <;> simp [h]
  · rintro (h | h | h) <;> simp [h]
theorem len_ins_new {L : List Ent} (h : Srt L) {x : Ent} (hn : look L x.key = none) : (ins x L).length = L.length + 1 := by
  obtain ⟨A, B, rfl, hA, hB⟩ := look_none h hn
  rw [ins_new hA hB]
  simp; omega
theorem mem_ins_old {L : List Ent} (h : Srt L) {x y e : Ent} (hn : look L x.key = some e) : y ∈ ins x L ↔ y = x ∨ (y ∈ L ∧ y.key ≠ x.key) := by
  obtain ⟨A, B, rfl, hk, hA, hB⟩ := look_some h hn
  rw [ins_old hk hA]
  simp only [List.mem_append, List.mem_cons]
  constructor
  · rintro (h | h | h)
    · exact .inr ⟨.inl h, by have := hA y h; omega⟩
    · exact .inl h
    · exact .inr ⟨.inr (.inr h), by have := hB y h; omega⟩
  · rintro (h | ⟨h | h | h, h2⟩)
    · exact .inr (.inl h)
    · exact .inl h
    · rw [h] at h2; exact absurd hk h2
    · exact .inr (.inr h)
theorem len_ins_old {L : List Ent} (h : Srt L) {x e : Ent} (hn : look L x.key = some e) : (ins x L).length = L.length := by
  obtain ⟨A, B, rfl, hk, hA, hB⟩ := look_some h hn
  rw [ins_old hk hA]
  simp
theorem mem_del {L : List Ent} {k : Int} {y : Ent} : y ∈ del L k ↔ y ∈ L ∧ y.key ≠ k := by
  unfold del
  rw [List.mem_filter]
  simp
/-- ahead of all that may go: put earlier, or at the same time with a smaller key -/
def Least (M : List Ent) (c : Ent) : Prop := c ∈ M ∧ c.fix = false ∧ ∀ x ∈ M, x.fix = false → c.at_ < x.at_ ∨ (c.at_ = x.at_ ∧ c.key ≤ x.key)
end Go.Proofs.YtljhgehlaehgnaaGreatDoor
namespace Go.Proofs.YtljhgehlaehgnaaGreatDoor

theorem pick_or {M : List Ent} {o : Option Ent} {e : Ent} (ho : ∀ c, o = some c → Least M c) (hn : o = none → ∀ x ∈ M, x.fix = true) (hk : ∀ x ∈ M, x.key < e.key) :
    (∀ c, pick o e = some c → Least (M ++ [e]) c) ∧ (pick o e = none → ∀ x ∈ M ++ [e], x.fix = true) := by
  cases hf : e.fix with
  | true =>
    have hp : pick o e = o := by simp [pick, hf]
    rw [hp]
    refine ⟨fun c hc => ?_, fun h x hx => ?_⟩
    · obtain ⟨h1, h2, h3⟩ := ho c hc
      refine ⟨by simp [h1], h2, fun x hx hxf => ?_⟩
      rcases List.mem_append.1 hx with hx | hx
      · exact h3 x hx hxf
      · obtain rfl : x = e := by simpa using hx
        rw [hf] at hxf; cases hxf
    · rcases List.mem_append.1 hx with hx | hx
      · exact hn h x hx
      · obtain rfl : x = e := by simpa using hx
        exact hf
  | false =>
    cases o with
    | none =>
      have hp : pick none e = some e := by simp [pick, hf]
      rw [hp]
      refine ⟨fun c hc => ?_, fun h => by cases h⟩
      obtain rfl : e = c := by simpa using hc
      refine ⟨by simp, hf, fun x hx hxf => ?_⟩
      rcases List.mem_append.1 hx with hx | hx
      · rw [hn rfl x hx] at hxf; cases hxf
      · obtain rfl : x = e := by simpa using hx
        exact .inr ⟨rfl, Int.le_refl _⟩
    | some b =>
      obtain ⟨h1, h2, h3⟩ := ho b rfl
      by_cases hlt : e.at_ < b.at_
      · have hp : pick (some b) e = some e := by simp [pick, hf, hlt]
        rw [hp]
        refine ⟨fun c hc => ?_, fun h => by cases h⟩
        obtain rfl : e = c := by simpa using hc
        refine ⟨by simp, hf, fun x hx hxf => ?_⟩
        rcases List.mem_append.1 hx with hx | hx
        · have := h3 x hx hxf
          exact .inl (by omega)
        · obtain rfl : x = e := by simpa using hx
          exact .inr ⟨rfl, Int.le_refl _⟩
      · have hp : pick (some b) e = some b := by simp [pick, hf, hlt]
        rw [hp]
        refine ⟨fun c hc => ?_, fun h => by cases h⟩
        obtain rfl : b = c := by simpa using hc
        refine ⟨by simp [h1], h2, fun x hx hxf => ?_⟩
        rcases List.mem_append.1 hx with hx | hx
        · exact h3 x hx hxf
        · obtain rfl : x = e := by simpa using hx
          have := hk b h1
          omega
theorem fold_least : ∀ (L M : List Ent) (o : Option Ent), Srt (M ++ L) → (∀ c, o = some c → Least M c) → (o = none → ∀ x ∈ M, x.fix = true) →
    (∀ c, L.foldl pick o = some c → Least (M ++ L) c) ∧ (L.foldl pick o = none → ∀ x ∈ M ++ L, x.fix = true)
  | [], M, o, _, h1, h2 => by simpa using ⟨h1, h2⟩
  | e :: L, M, o, hs, h1, h2 => by
    have hk : ∀ x ∈ M, x.key < e.key := fun x hx => (List.pairwise_append.1 hs).2.2 x hx e (by simp)
    obtain ⟨h3, h4⟩ := pick_or h1 h2 hk
    have := fold_least L (M ++ [e]) (pick o e) (by simpa using hs) h3 h4
    simpa using this
theorem oldest_least {L : List Ent} (hs : Srt L) {c : Ent} (h : oldest L = some c) : Least L c := (fold_least L [] none (by simpa using hs) (fun _ h => by cases h) (fun _ _ h => by cases h)).1 c h
theorem oldest_none {L : List Ent} (hs : Srt L) (h : oldest L = none) : ∀ x ∈ L, x.fix = true := (fold_least L [] none (by simpa using hs) (fun _ h => by cases h) (fun _ _ h => by cases h)).2 h
theorem least_key {M : List Ent} {c d : Ent} (hc : Least M c) (hd : Least M d) : c.key = d.key := by
  have h1 := hc.2.2 d hd.1 hd.2.1
  have h2 := hd.2.2 c hc.1 hc.2.1
  omega
end Go.Proofs.YtljhgehlaehgnaaGreatDoor
namespace Go.Proofs.YtljhgehlaehgnaaGreatDoor
open Go.RowKit Go.Sort

/-- an object that is no row of parts, and no table -/
def notA : Obj → Bool
  | .cells _ t _ => !(t == 101) && !(t == 82)
  | _ => true
/-- whatever holds no parts, and is no table, stays -/
def Stays (W W' : World) : Prop := ∀ (k : Nat) (o : Obj), notA o = true → W.heap[k]? = some o → W'.heap[k]? = some o
theorem Stays.refl (W : World) : Stays W W := fun _ _ _ h => h
theorem Stays.of {W W' : World} (b : Below W.heap.size W W') : Stays W W' := fun _ _ _ h => Below.row b h
theorem Stays.trans {a b c : World} (h : Stays a b) (k : Stays b c) : Stays a c := fun i o h1 h2 => k i o h1 (h i o h1 h2)
theorem Tab.ownRow {B : Nat} {w : World} {g : Nat} {room life : Int} {v : Value} {L : List Ent} (h : Tab B w g room life v L) {k : Nat} (hk : v.ownBlock = some k) : ∃ c, w.heap[k]? = some (.cells c 101 (0, 0)) := by
  obtain ⟨_, ⟨rfl, _⟩ | ⟨r, cap, cur, rfl, _, hr, _⟩⟩ := h.own
  · cases hk
  · have e : some r = some k := hk
    obtain rfl := Option.some.inj e
    exact ⟨cur, hr⟩
theorem Turned.stays {B : Nat} {w w' : World} {g : Nat} {room life : Int} {v : Value} {L L' : List Ent} (T : Tab B w g room life v L) (t : Turned B g room life v L' w w') : Stays w w' := by
  obtain ⟨v', _, b, _⟩ := t
  intro k o h1 hk
  refine b.row ?_ ?_ hk
  · rintro rfl
    have := T.row
    rw [hk] at this
    obtain rfl := Option.some.inj this
    simp [notA] at h1
  · intro e
    obtain ⟨d, hd⟩ := T.ownRow e.symm
    rw [hk] at hd
    obtain rfl := Option.some.inj hd
    simp [notA] at h1
/-- a table that was made since w: what it holds in W -/
def Has (w : World) (g : Nat) (room life : Int) (L : List Ent) (W : World) : Prop := Below w.heap.size w W ∧ ∃ v, Tab w.heap.size W g room life v L
theorem Has.below {w W W' : World} {g : Nat} {room life : Int} {L : List Ent} (h : Has w g room life L W) (b : Below W.heap.size W W') : Has w g room life L W' := by
  obtain ⟨h1, v, T⟩ := h
  exact ⟨bthen h1 b, v, T.below b⟩
theorem Has.turned {w W W' : World} {g : Nat} {room life : Int} {v : Value} {L L' : List Ent} (h : Below w.heap.size w W) (T : Tab w.heap.size W g room life v L) (t : Turned w.heap.size g room life v L' W W') : Has w g room life L' W' ∧ Stays W W' := by
  refine ⟨?_, t.stays T⟩
  obtain ⟨v', T', b, _⟩ := t
  exact ⟨h.trans (b.below T.low (fun k hk => (T.vlt k hk).1) h.size), v', T'⟩
theorem has_put {w W : World} {g : Nat} {room life : Int} {L : List Ent} (key val now : Int) (h : Has w g room life L W) (hk : 0 ≤ key ∧ key < 18446744073709551616) (hv : 0 ≤ val ∧ val < 18446744073709551616) :
    Calls Tryz.prog 18 #[.pointer (some ⟨g, 0, none⟩), .int .u64 key, .int .u64 val, .int .i64 now] W fun e W' => e = .returned (.int .i64 (putP room life L ⟨key, val, now, false⟩).1) ∧ Has w g room life (putP room life L ⟨key, val, now, false⟩).2 W' ∧ Stays W W' := by
  obtain ⟨b, v, T⟩ := h
  exact (put_any _ L v g room life key val now W T hk hv).mono fun e W' ⟨h1, h2⟩ => ⟨h1, Has.turned b T h2⟩
theorem has_get {w W : World} {g : Nat} {room life : Int} {L : List Ent} (key now : Int) (h : Has w g room life L W) :
    Calls Tryz.prog 37 #[.pointer (some ⟨g, 0, none⟩), .int .u64 key, .int .i64 now] W fun e W' => e = .returned (entO (told life now (look L key))) ∧ Below W.heap.size W W' := by
  obtain ⟨b, v, T⟩ := h
  exact tget_any _ L v g room life key now W T
/-- what becomes old: how many, what is left -/
def expP (life now : Int) (L : List Ent) : List Ent := if timeB now then kept (oldE life now) L else L
theorem has_expire {w W : World} {g : Nat} {room life : Int} {L : List Ent} (now : Int) (h : Has w g room life L W) :
    Calls Tryz.prog 32 #[.pointer (some ⟨g, 0, none⟩), .int .i64 now] W fun e W' => e = .returned (.int .i64 ((L.length : Int) - ((expP life now L).length : Int))) ∧ Has w g room life (expP life now L) W' ∧ Stays W W' := by
  obtain ⟨b, v, T⟩ := h
  unfold expP
  cases ht : timeB now with
  | false => exact (expire_no _ L v g room life now W T ht).mono fun e W' ⟨h1, h2⟩ => ⟨by rw [h1]; simp, Has.turned b T h2⟩
  | true => exact (expire_yes _ L v g room life now _ W T ht rfl).mono fun e W' ⟨h1, h2⟩ => ⟨h1, Has.turned b T h2⟩
theorem has_entries {w W : World} {g : Nat} {room life : Int} {L : List Ent} (h : Has w g room life L W) :
    Calls Tryz.prog 116 #[.pointer (some ⟨g, 0, none⟩)] W fun e W' => e = .returned (.slice (some ⟨W.heap.size, 0, none⟩) L.length L.length) ∧ Tells W.heap.size W' (.slice (some ⟨W.heap.size, 0, none⟩) L.length L.length) L ∧ Below W.heap.size W W' := by
  obtain ⟨b, v, T⟩ := h
  exact entries_any g room life _ v L W T
theorem has_new {w W : World} (room life : Int) (b : Below w.heap.size w W) (h : newOk room life) :
    Calls Tryz.prog 13 #[.int .i64 room, .int .i64 life] W fun e W' => e = .returned (.tuple #[.pointer (some ⟨W.heap.size, 0, none⟩), .int .i64 0]) ∧ Has w W.heap.size room life [] W' ∧ Below W.heap.size W W' :=
  (new_ok _ room life W h b.size).mono fun _ _ ⟨h1, h2, h3⟩ => ⟨h1, ⟨bthen b h2, _, h3⟩, h2⟩
end Go.Proofs.YtljhgehlaehgnaaGreatDoor
