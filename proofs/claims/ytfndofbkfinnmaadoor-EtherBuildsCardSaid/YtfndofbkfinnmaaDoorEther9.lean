/-
  The contracts of ether.read, whole, and ether.Parse: the frame of bytes, or the error's number; no cell that was there before has turned.
-/
import Derived.Test.YtfndofbkfinnmaaDoorEther8
namespace Go.Proofs.YtfndofbkfinnmaaDoor
open Go.RowKit Go.Sort

theorem alloc_then {w W : World} {o : Obj} (h : Below w.heap.size w W) : Below w.heap.size w (W.alloc o) := h.alloc h.size _
/-- a frame as the program has it -/
def Fr.val (f : Fr) : Value := .agg #[.int .u64 (f.dst : Int), .int .u64 (f.src : Int), .bool f.has, .int .i64 f.pri, .bool f.dei, .int .i64 f.vid, .int .i64 f.ty, .string (bs f.body)]
theorem numAt_bs (l : List UInt8) (a n : Nat) (h : a + n ≤ l.length) : numAt (bs l) a n = num ((l.drop a).take n) := by
  unfold numAt
  rw [bs_size, if_pos h, extract_toList, bs_toList, Nat.add_sub_cancel_left]
theorem numAt_no (l : List UInt8) (a n : Nat) (h : l.length < a + n) : numAt (bs l) a n = 0 := by
  unfold numAt
  rw [bs_size, if_neg (by omega)]
theorem numAt_lt (s : ByteArray) (a : Nat) : numAt s a 2 < 65536 := by
  unfold numAt
  by_cases h : a + 2 ≤ s.size
  · rw [if_pos h]
    exact num_two_lt _ (by rw [size_toList, ByteArray.size_extract]; omega)
  · rw [if_neg h]; decide
theorem cutAt_bs (l : List UInt8) (a n : Nat) (h : a + n ≤ l.length) : cutAt (bs l) a n = bs ((l.drop a).take n) := by
  unfold cutAt
  rw [bs_size, if_pos h, ← bs_of ((bs l).extract a (a + n)), extract_toList, bs_toList, Nat.add_sub_cancel_left]
theorem errAt_ok (s : ByteArray) (a n : Nat) (err : Option ByteArray) (p : ByteArray) (h : a + n ≤ s.size) : errAt s a n err p = err := if_pos h
theorem errAt_some (s : ByteArray) (a n : Nat) (q p : ByteArray) : errAt s a n (some q) p = some q := by
  unfold errAt keep
  by_cases h : a + n ≤ s.size
  · rw [if_pos h]
  · rw [if_neg h]
theorem errAt_no (s : ByteArray) (a n : Nat) (err : Option ByteArray) (p : ByteArray) (h : s.size < a + n) : ∃ q, errAt s a n err p = some q := by
  unfold errAt keep
  rw [if_neg (by omega)]
  cases err
  · exact ⟨_, rfl⟩
  · exact ⟨_, rfl⟩
theorem beq_no {k : Nat} (h : k ≠ 33024) : ((k : Int) == 33024) = false := by rw [beq_eq_false_iff_ne]; omega
/-- what read tells -/
def ReadTells (l : List UInt8) (r : Fr × Int) : Prop :=
  (∃ (x : Fr) (p : ByteArray) (e : Int), told e = r.2 ∧ r.2 ≠ 0 ∧ r.1 = Fr.none ∧ ∀ w, Et w → Calls Tryd.prog 23 #[.string (bs l)] w fun ev w' => ev = .returned (.tuple #[x.val, .iface 53 (.agg #[.string p, .int .i64 e])]) ∧ Below w.heap.size w w') ∨
  (r.2 = 0 ∧ ∀ w, Et w → Calls Tryd.prog 23 #[.string (bs l)] w fun ev w' => ev = .returned (.tuple #[r.1.val, .nilIface]) ∧ Below w.heap.size w w')
theorem read_end0 (l : List UInt8) (hl : l.length ≤ 1600) (h14 : 14 ≤ l.length) (h81 : num ((l.drop 12).take 2) ≠ 33024) :
    ReadTells l (bodyOf ⟨num (l.take 6), num ((l.drop 6).take 6), false, 0, false, 0, 0, []⟩ (num ((l.drop 12).take 2)) (l.drop 14)) := by
  have hz := bs_size l
  have n0 : numAt (bs l) 0 6 = num (l.take 6) := by rw [numAt_bs l 0 6 (by omega), List.drop_zero]
  have n6 := numAt_bs l 6 6 (by omega)
  have n12 := numAt_bs l 12 2 (by omega)
  have lt := numAt_lt (bs l) 12
  rw [n12] at lt
  have he : ∀ A B : ByteArray, errAt (bs l) 12 2 (errAt (bs l) 6 6 (errAt (bs l) 0 6 none A) A) B = none := fun A B => by
    rw [errAt_ok _ 0 6 _ _ (by omega), errAt_ok _ 6 6 _ _ (by omega), errAt_ok _ 12 2 _ _ (by omega)]
  generalize num ((l.drop 12).take 2) = k at *
  have ld : (l.drop 14).length = l.length - 14 := List.length_drop
  unfold bodyOf
  by_cases c1 : k = 33024 ∨ 1500 < k ∧ k < 1536
  · rw [if_pos c1]
    exact Or.inl ⟨Fr.none, _, 41, rfl, by decide, rfl, fun w hg => read_bad0 (bs l) k w hg (by omega) (hide n12) lt (beq_no h81) (hide (he _ _)) (by omega) (decide_eq_false (by omega))⟩
  · rw [if_neg c1]
    by_cases c2 : 1500 < k
    · rw [if_pos c2]
      refine Or.inr ⟨rfl, fun w hg => ?_⟩
      have h := read_type0 (bs l) k (l.length - 14) w hg (by omega) (hide n12) lt (beq_no h81) (hide (he _ _)) (by omega) (decide_eq_true (by omega)) (by omega)
      rw [errAt_ok _ 14 _ _ _ (by omega), cutAt_bs l 14 _ (by omega), List.take_of_length_le (by omega), n0, n6] at h
      exact h
    · rw [if_neg c2]
      by_cases c3 : (l.drop 14).length < k
      · rw [if_pos c3]
        obtain ⟨q, hq⟩ := errAt_no (bs l) 14 k none ⟨#[98, 111, 100, 121]⟩ (by omega)
        refine Or.inl ⟨⟨num (l.take 6), num ((l.drop 6).take 6), false, 0, false, 0, 0, (cutAt (bs l) 14 k).data.toList⟩, q, 10, rfl, by decide, rfl, fun w hg => ?_⟩
        have h := read_len0 (bs l) k w hg (by omega) (hide n12) lt (beq_no h81) (hide (he _ _)) (by omega)
        rw [hq, n0, n6] at h
        simp only [Fr.val, bs_of]
        exact h
      · rw [if_neg c3]
        refine Or.inr ⟨rfl, fun w hg => ?_⟩
        have h := read_len0 (bs l) k w hg (by omega) (hide n12) lt (beq_no h81) (hide (he _ _)) (by omega)
        rw [errAt_ok _ 14 _ _ _ (by omega), cutAt_bs l 14 _ (by omega), n0, n6] at h
        exact h
theorem read_end1 (l : List UInt8) (hl : l.length ≤ 1600) (h18 : 18 ≤ l.length) (h81 : num ((l.drop 12).take 2) = 33024) :
    ReadTells l (bodyOf ⟨num (l.take 6), num ((l.drop 6).take 6), true, (num ((l.drop 14).take 2) / 8192 : Nat), decide (num ((l.drop 14).take 2) / 4096 % 2 = 1), (num ((l.drop 14).take 2) % 4096 : Nat), 0, []⟩ (num ((l.drop 16).take 2)) (l.drop 18)) := by
  have hz := bs_size l
  have n0 : numAt (bs l) 0 6 = num (l.take 6) := by rw [numAt_bs l 0 6 (by omega), List.drop_zero]
  have n6 := numAt_bs l 6 6 (by omega)
  have n12 : numAt (bs l) 12 2 = 33024 := by rw [numAt_bs l 12 2 (by omega), h81]
  have n14 := numAt_bs l 14 2 (by omega)
  have n16 := numAt_bs l 16 2 (by omega)
  have lt := numAt_lt (bs l) 16
  have lv := numAt_lt (bs l) 14
  rw [n16] at lt
  rw [n14] at lv
  have he : ∀ A B G : ByteArray, errAt (bs l) 16 2 (errAt (bs l) 14 2 (errAt (bs l) 12 2 (errAt (bs l) 6 6 (errAt (bs l) 0 6 none A) A) B) G) B = none := fun A B G => by
    rw [errAt_ok _ 0 6 _ _ (by omega), errAt_ok _ 6 6 _ _ (by omega), errAt_ok _ 12 2 _ _ (by omega), errAt_ok _ 14 2 _ _ (by omega), errAt_ok _ 16 2 _ _ (by omega)]
  generalize num ((l.drop 16).take 2) = k at *
  generalize num ((l.drop 14).take 2) = v at *
  have ld : (l.drop 18).length = l.length - 18 := List.length_drop
  unfold bodyOf
  by_cases c1 : k = 33024 ∨ 1500 < k ∧ k < 1536
  · rw [if_pos c1]
    exact Or.inl ⟨Fr.none, _, 41, rfl, by decide, rfl, fun w hg => read_bad1 (bs l) v k w hg (by omega) (hide n12) (hide n14) lv (hide n16) lt (hide (he _ _ _)) (by omega) (decide_eq_false (by omega))⟩
  · rw [if_neg c1]
    by_cases c2 : 1500 < k
    · rw [if_pos c2]
      refine Or.inr ⟨rfl, fun w hg => ?_⟩
      have h := read_type1 (bs l) v k (l.length - 18) w hg (by omega) (hide n12) (hide n14) lv (hide n16) lt (hide (he _ _ _)) (by omega) (decide_eq_true (by omega)) (by omega)
      rw [errAt_ok _ 18 _ _ _ (by omega), cutAt_bs l 18 _ (by omega), List.take_of_length_le (by omega), n0, n6] at h
      exact h
    · rw [if_neg c2]
      by_cases c3 : (l.drop 18).length < k
      · rw [if_pos c3]
        obtain ⟨q, hq⟩ := errAt_no (bs l) 18 k none ⟨#[98, 111, 100, 121]⟩ (by omega)
        refine Or.inl ⟨⟨num (l.take 6), num ((l.drop 6).take 6), true, (v / 8192 : Nat), decide (v / 4096 % 2 = 1), (v % 4096 : Nat), 0, (cutAt (bs l) 18 k).data.toList⟩, q, 10, rfl, by decide, rfl, fun w hg => ?_⟩
        have h := read_len1 (bs l) v k w hg (by omega) (hide n12) (hide n14) lv (hide n16) lt (hide (he _ _ _)) (by omega)
        rw [hq, n0, n6] at h
        simp only [Fr.val, bs_of]
        exact h
      · rw [if_neg c3]
        refine Or.inr ⟨rfl, fun w hg => ?_⟩
        have h := read_len1 (bs l) v k w hg (by omega) (hide n12) (hide n14) lv (hide n16) lt (hide (he _ _ _)) (by omega)
        rw [errAt_ok _ 18 _ _ _ (by omega), cutAt_bs l 18 _ (by omega), n0, n6] at h
        exact h
theorem read_any (l : List UInt8) (hl : l.length ≤ 10000) : ReadTells l (Fr.parse l) := by
  have hz := bs_size l
  unfold Fr.parse
  by_cases c1 : 1600 < l.length
  · rw [if_pos c1]
    exact Or.inl ⟨Fr.none, _, 41, rfl, by decide, rfl, fun w _ => read_long (bs l) w (by omega) (by omega)⟩
  · rw [if_neg c1]
    by_cases c2 : l.length < 14
    · rw [if_pos c2]
      obtain ⟨q, hq⟩ := errAt_no (bs l) 12 2 (errAt (bs l) 6 6 (errAt (bs l) 0 6 none ⟨#[97, 100, 100, 114, 101, 115, 115]⟩) ⟨#[97, 100, 100, 114, 101, 115, 115]⟩) ⟨#[116, 121, 112, 101]⟩ (by omega)
      exact Or.inl ⟨Fr.none, q, 10, rfl, by decide, rfl, fun w hg => read_err0 (bs l) 0 q w hg (by omega) (hide (numAt_no l 12 2 (by omega))) (by decide) rfl (hide hq)⟩
    · rw [if_neg c2]
      by_cases c3 : num ((l.drop 12).take 2) = 33024
      · rw [if_pos c3]
        by_cases c4 : l.length < 18
        · rw [if_pos c4]
          obtain ⟨q, hq⟩ := errAt_no (bs l) 16 2 (errAt (bs l) 14 2 (errAt (bs l) 12 2 (errAt (bs l) 6 6 (errAt (bs l) 0 6 none ⟨#[97, 100, 100, 114, 101, 115, 115]⟩) ⟨#[97, 100, 100, 114, 101, 115, 115]⟩) ⟨#[116, 121, 112, 101]⟩) ⟨#[116, 97, 103]⟩) ⟨#[116, 121, 112, 101]⟩ (by omega)
          exact Or.inl ⟨Fr.none, q, 10, rfl, by decide, rfl, fun w hg => read_err1 (bs l) _ 0 q w hg (by omega) (hide (by rw [numAt_bs l 12 2 (by omega), c3])) (hide rfl) (numAt_lt _ _) (hide (numAt_no l 16 2 (by omega))) (by decide) (hide hq)⟩
        · rw [if_neg c4]
          exact read_end1 l (by omega) (by omega) c3
      · rw [if_neg c3]
        exact read_end0 l (by omega) (by omega) c3

set_option maxRecDepth 20000 in
set_option maxHeartbeats 400000 in
theorem parse_bad (s p : ByteArray) (x : Fr) (e : Int) (w : World) (hg : Et w)
    (h : Hid (∀ w, Et w → Calls Tryd.prog 23 #[.string s] w fun ev w' => ev = .returned (.tuple #[x.val, .iface 53 (.agg #[.string p, .int .i64 e])]) ∧ Below w.heap.size w w')) :
    Calls Tryd.prog 15 #[.string s] w fun ev w' => ev = .returned (.tuple #[Fr.none.val, .int .i64 (told e)]) ∧ Below w.heap.size w w' := by
  obtain ⟨d, q, has, pri, dei, vid, ty, body⟩ := x
  go_enter Tryd.func15, Tryd.ntmps15
  go_wp2_with fail
  refine (unhide h _ (hg.next (alloc_below _ _))).mono ?_
  rintro ev w1 ⟨rfl, b1⟩
  have hrow := (b1.block w.heap.size (by simp)).trans (heap_alloc_new w _)
  have hb := bthen (alloc_below w _) b1
  clear b1 h
  simp only [Fr.val]
  go_wp2_with fail
  refine (number_fault p e _ (hg.next (alloc_then hb))).mono ?_
  rintro ev w2 ⟨rfl, b2⟩
  have hb2 := bthen (alloc_then hb) b2
  have hrow2 := (But.of (R := w1.heap.size) (bthen (alloc_below w1 _) b2)).row hrow (Nat.ne_of_lt (lt_of_row hrow))
  clear b2 hb hrow
  obtain ⟨c0, c1, c2, c3, c4, c5, c6, c7, f0, f1, f2, f3, f4, f5, f6, f7⟩ := cells8 hrow2
  have HR := hide hrow2
  clear hrow2
  go_wp2_with fail
  refine bodyPost_ret ?_ rfl ⟨rfl, below8 hb2 (Nat.le_refl _)⟩
  exact results_row2 rfl _ _ w.heap.size 26 _ _ _ _ rfl rfl (set8 (unhide HR)) Tryd.underlying26 rfl (by kernel_rfl)
set_option maxRecDepth 20000 in
set_option maxHeartbeats 400000 in
theorem parse_good (s : ByteArray) (x : Fr) (w : World) (hg : Et w)
    (h : Hid (∀ w, Et w → Calls Tryd.prog 23 #[.string s] w fun ev w' => ev = .returned (.tuple #[x.val, .nilIface]) ∧ Below w.heap.size w w')) :
    Calls Tryd.prog 15 #[.string s] w fun ev w' => ev = .returned (.tuple #[x.val, .int .i64 0]) ∧ Below w.heap.size w w' := by
  obtain ⟨d, q, has, pri, dei, vid, ty, body⟩ := x
  go_enter Tryd.func15, Tryd.ntmps15
  go_wp2_with fail
  refine (unhide h _ (hg.next (alloc_below _ _))).mono ?_
  rintro ev w1 ⟨rfl, b1⟩
  have hrow := (b1.block w.heap.size (by simp)).trans (heap_alloc_new w _)
  have hb := bthen (alloc_below w _) b1
  have hne : w.heap.size ≠ w1.heap.size := Nat.ne_of_lt (lt_of_row hrow)
  have hrow2 := (But.of (R := w1.heap.size) (alloc_below w1 (.cells #[.int .u64 (d : Int), .int .u64 (q : Int), .bool has, .int .i64 pri, .bool dei, .int .i64 vid, .int .i64 ty, .string (bs body)] 26))).row hrow hne
  clear b1 h hrow
  obtain ⟨c0, c1, c2, c3, c4, c5, c6, c7, f0, f1, f2, f3, f4, f5, f6, f7⟩ := cells8 hrow2
  have HR := hide hrow2
  clear hrow2
  simp only [Fr.val]
  go_wp2_with fail
  refine bodyPost_ret ?_ rfl ⟨rfl, below8 (alloc_then hb) (Nat.le_refl _)⟩
  exact results_row2 rfl _ _ w.heap.size 26 _ _ _ _ rfl rfl (set8 (unhide HR)) Tryd.underlying26 rfl (by kernel_rfl)
theorem parse_any (l : List UInt8) (w : World) (hg : Et w) (hl : l.length ≤ 10000) :
    Calls Tryd.prog 15 #[.string (bs l)] w fun ev w' => ev = .returned (.tuple #[(Fr.parse l).1.val, .int .i64 (Fr.parse l).2]) ∧ Below w.heap.size w w' := by
  rcases read_any l hl with ⟨x, p, e, h1, _, h3, h4⟩ | ⟨h1, h2⟩
  · rw [h3, ← h1]; exact parse_bad _ p x e w hg (hide h4)
  · rw [h1]; exact parse_good _ _ w hg (hide h2)
end Go.Proofs.YtfndofbkfinnmaaDoor
