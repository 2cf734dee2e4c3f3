/-
  The document's answer for frames: the contracts of gangwayref01's Num and gangwayref04's tag and Check.
-/
import Derived.Test.YtfndofbkfinnmaaDoorRefBytes4
namespace Go.Proofs.YtfndofbkfinnmaaDoor
open Go.RowKit

theorem take_next (l : List UInt8) (k : Nat) (h : k < l.length) : l.take (k + 1) = l.take k ++ [l[k]] := by
  rw [List.take_add_one, List.getElem?_eq_getElem h]; rfl
set_option maxRecDepth 20000 in
theorem rnum (l : List UInt8) (w : World) (hl : l.length ≤ 7) :
    Calls Tryd.prog 24 #[.string (bs l)] w fun e w' => e = .returned (.int .u64 ((num l : Nat) : Int)) ∧ w' = w := by
  have hsz : (bs l).size = l.length := bs_size l
  go_enter Tryd.func24, Tryd.ntmps24
  go_wp2_with fail
  go_loop [3, 4] (fun x i => ∃ k : Nat, k ≤ l.length ∧ i = .int .i64 k ∧ x = .int .u64 ((num (l.take k) : Nat) : Int)) (fun _ i => l.length - (intOf i).toNat)
  case atStart => exact ⟨0, Nat.zero_le _, rfl, rfl⟩
  case round =>
    obtain ⟨k, hk, rfl, rfl⟩ := hrel
    by_cases hlt : k < l.length
    · have hix : ((bs l)[k]'(by omega)).toNat = (l[k]).toNat := rfl
      have hx8 : (l[k]).toNat < 256 := (l[k]).toNat_lt
      have hns : num (l.take (k + 1)) = num (l.take k) * 256 + (l[k]).toNat := by rw [take_next l k hlt, num_snoc]
      have hm : num (l.take k) < 281474976710656 := Nat.lt_of_lt_of_le (num_lt _) (by
        rw [List.length_take, Nat.min_eq_left (Nat.le_of_lt hlt)]
        exact Nat.le_trans (Nat.pow_le_pow_right (n := 256) (by omega) (show k ≤ 6 by omega)) (by decide))
      have hmi : ((num (l.take k) : Nat) : Int) < 281474976710656 := by omega
      have HNS := hide hns
      clear hns hm
      generalize num (l.take k) = m at hmi HNS ⊢
      generalize (l[k]).toNat = x at hix hx8 HNS
      go_wp2_with fail
      go_round
      case rel => exact ⟨k + 1, by omega, by go_num, by rw [unhide HNS]; rfl⟩
      case measure => simp [intOf]; omega
    · obtain rfl : k = l.length := by omega
      rw [List.take_length]
      go_wp2_with fail
      go_ret
      exact ⟨rfl, rfl⟩
set_option maxRecDepth 20000 in
theorem rtag (has : Bool) (pri : Int) (dei : Bool) (vid : Int) (w : World) :
    Calls Tryd.prog 22 #[.agg #[.bool has, .int .i64 pri, .bool dei, .int .i64 vid]] w fun e w' => e = .returned (.bool (tagOk has pri dei vid)) ∧ w' = w.alloc (.cells #[.bool has, .int .i64 pri, .bool dei, .int .i64 vid] 24) := by
  cases has
  · by_cases h1 : pri = 0
    · subst h1
      cases dei
      · have hr : tagOk false 0 false vid = (vid == 0) := by
          by_cases z : vid = 0
          · subst z; rfl
          · rw [show (vid == 0) = false by simpa using z]; simp [tagOk, z]
        rw [hr]
        clear hr
        go_enter Tryd.func22, Tryd.ntmps22
        go_wp2
        go_ret
        exact ⟨rfl, rfl⟩
      · have hr : tagOk false 0 true vid = false := by simp [tagOk]
        rw [hr]
        clear hr
        go_enter Tryd.func22, Tryd.ntmps22
        go_wp2
        go_ret
        exact ⟨rfl, rfl⟩
    · have hr : tagOk false pri dei vid = false := by simp [tagOk, h1]
      rw [hr]
      clear hr
      go_enter Tryd.func22, Tryd.ntmps22
      go_wp2
      go_ret
      exact ⟨rfl, rfl⟩
  · rcases (by omega : pri < 0 ∨ (0 ≤ pri ∧ 7 < pri) ∨ (0 ≤ pri ∧ pri ≤ 7 ∧ vid < 0) ∨ (0 ≤ pri ∧ pri ≤ 7 ∧ 0 ≤ vid)) with h | h | h | h
    · have hr : tagOk true pri dei vid = false := by simp [tagOk]; omega
      rw [hr]
      clear hr
      go_enter Tryd.func22, Tryd.ntmps22
      go_wp2
      go_ret
      exact ⟨rfl, rfl⟩
    · have hr : tagOk true pri dei vid = false := by simp [tagOk]; omega
      rw [hr]
      clear hr
      obtain ⟨h1, h2⟩ := h
      go_enter Tryd.func22, Tryd.ntmps22
      go_wp2
      go_ret
      exact ⟨rfl, rfl⟩
    · have hr : tagOk true pri dei vid = false := by simp [tagOk]; omega
      rw [hr]
      clear hr
      obtain ⟨h1, h2, h3⟩ := h
      go_enter Tryd.func22, Tryd.ntmps22
      go_wp2
      go_ret
      exact ⟨rfl, rfl⟩
    · have hr : tagOk true pri dei vid = decide (vid ≤ 4095) := by unfold tagOk; rw [if_pos rfl]; exact decide_eq_decide.2 (by omega)
      rw [hr]
      clear hr
      obtain ⟨h1, h2, h3⟩ := h
      go_enter Tryd.func22, Tryd.ntmps22
      go_wp2
      go_ret
      exact ⟨rfl, rfl⟩
set_option maxRecDepth 20000 in
theorem rcheck_dst (d s : Int) (has : Bool) (pri : Int) (dei : Bool) (vid ty : Int) (b : ByteArray) (w : World) (hd : (d / 281474976710656 != 0) = true) :
    Calls Tryd.prog 13 #[.agg #[.int .u64 d, .int .u64 s, .bool has, .int .i64 pri, .bool dei, .int .i64 vid, .int .i64 ty, .string b]] w fun e w' => e = .returned (.int .i64 41) ∧ Below w.heap.size w w' := by
  go_enter Tryd.func13, Tryd.ntmps13
  go_wp2
  go_ret
  exact ⟨rfl, alloc_below _ _⟩
set_option maxRecDepth 20000 in
theorem rcheck_src (d s : Int) (has : Bool) (pri : Int) (dei : Bool) (vid ty : Int) (b : ByteArray) (w : World) (hd : (d / 281474976710656 != 0) = false) (hs : (s / 281474976710656 != 0) = true) :
    Calls Tryd.prog 13 #[.agg #[.int .u64 d, .int .u64 s, .bool has, .int .i64 pri, .bool dei, .int .i64 vid, .int .i64 ty, .string b]] w fun e w' => e = .returned (.int .i64 41) ∧ Below w.heap.size w w' := by
  go_enter Tryd.func13, Tryd.ntmps13
  go_wp2
  go_ret
  exact ⟨rfl, alloc_below _ _⟩
set_option maxRecDepth 20000 in
theorem rcheck_tag (d s : Int) (has : Bool) (pri : Int) (dei : Bool) (vid ty : Int) (b : ByteArray) (w : World) (hd : (d / 281474976710656 != 0) = false) (hs : (s / 281474976710656 != 0) = false) (ht : tagOk has pri dei vid = false) :
    Calls Tryd.prog 13 #[.agg #[.int .u64 d, .int .u64 s, .bool has, .int .i64 pri, .bool dei, .int .i64 vid, .int .i64 ty, .string b]] w fun e w' => e = .returned (.int .i64 41) ∧ Below w.heap.size w w' := by
  go_enter Tryd.func13, Tryd.ntmps13
  go_wp2_with fail
  refine (rtag _ _ _ _ _).mono ?_
  rw [ht]
  rintro e w1 ⟨rfl, rfl⟩
  go_wp2_with fail
  go_ret
  exact ⟨rfl, (alloc_below w _).alloc (by simp) _⟩
set_option maxRecDepth 20000 in
theorem rcheck_low (d s : Int) (has : Bool) (pri : Int) (dei : Bool) (vid ty : Int) (b : ByteArray) (w : World) (hd : (d / 281474976710656 != 0) = false) (hs : (s / 281474976710656 != 0) = false) (ht : tagOk has pri dei vid = true) (h3 : ty ≠ 0) (h4 : ty < 1536) :
    Calls Tryd.prog 13 #[.agg #[.int .u64 d, .int .u64 s, .bool has, .int .i64 pri, .bool dei, .int .i64 vid, .int .i64 ty, .string b]] w fun e w' => e = .returned (.int .i64 41) ∧ Below w.heap.size w w' := by
  go_enter Tryd.func13, Tryd.ntmps13
  go_wp2_with fail
  refine (rtag _ _ _ _ _).mono ?_
  rw [ht]
  rintro e w1 ⟨rfl, rfl⟩
  go_wp2_with fail
  go_ret
  exact ⟨rfl, (alloc_below w _).alloc (by simp) _⟩
set_option maxRecDepth 20000 in
theorem rcheck_high (d s : Int) (has : Bool) (pri : Int) (dei : Bool) (vid ty : Int) (b : ByteArray) (w : World) (hd : (d / 281474976710656 != 0) = false) (hs : (s / 281474976710656 != 0) = false) (ht : tagOk has pri dei vid = true) (h3 : ty ≠ 0) (h4 : 1536 ≤ ty) (h5 : 65535 < ty) :
    Calls Tryd.prog 13 #[.agg #[.int .u64 d, .int .u64 s, .bool has, .int .i64 pri, .bool dei, .int .i64 vid, .int .i64 ty, .string b]] w fun e w' => e = .returned (.int .i64 41) ∧ Below w.heap.size w w' := by
  go_enter Tryd.func13, Tryd.ntmps13
  go_wp2_with fail
  refine (rtag _ _ _ _ _).mono ?_
  rw [ht]
  rintro e w1 ⟨rfl, rfl⟩
  go_wp2_with fail
  go_ret
  exact ⟨rfl, (alloc_below w _).alloc (by simp) _⟩
set_option maxRecDepth 20000 in
theorem rcheck_mark (d s : Int) (has : Bool) (pri : Int) (dei : Bool) (vid ty : Int) (b : ByteArray) (w : World) (hd : (d / 281474976710656 != 0) = false) (hs : (s / 281474976710656 != 0) = false) (ht : tagOk has pri dei vid = true) (h6 : ty = 33024) :
    Calls Tryd.prog 13 #[.agg #[.int .u64 d, .int .u64 s, .bool has, .int .i64 pri, .bool dei, .int .i64 vid, .int .i64 ty, .string b]] w fun e w' => e = .returned (.int .i64 41) ∧ Below w.heap.size w w' := by
  go_enter Tryd.func13, Tryd.ntmps13
  go_wp2_with fail
  refine (rtag _ _ _ _ _).mono ?_
  rw [ht]
  rintro e w1 ⟨rfl, rfl⟩
  go_wp2_with fail
  go_ret
  exact ⟨rfl, (alloc_below w _).alloc (by simp) _⟩
set_option maxRecDepth 20000 in
theorem rcheck_body (d s : Int) (has : Bool) (pri : Int) (dei : Bool) (vid ty : Int) (b : ByteArray) (w : World) (hd : (d / 281474976710656 != 0) = false) (hs : (s / 281474976710656 != 0) = false) (ht : tagOk has pri dei vid = true) (h3 : ty = 0) (h4 : 1500 < b.size) :
    Calls Tryd.prog 13 #[.agg #[.int .u64 d, .int .u64 s, .bool has, .int .i64 pri, .bool dei, .int .i64 vid, .int .i64 ty, .string b]] w fun e w' => e = .returned (.int .i64 40) ∧ Below w.heap.size w w' := by
  go_enter Tryd.func13, Tryd.ntmps13
  go_wp2_with fail
  refine (rtag _ _ _ _ _).mono ?_
  rw [ht]
  rintro e w1 ⟨rfl, rfl⟩
  go_wp2_with fail
  go_ret
  exact ⟨rfl, (alloc_below w _).alloc (by simp) _⟩
set_option maxRecDepth 20000 in
theorem rcheck_long1_false (d s : Int) (has : Bool) (pri : Int) (dei : Bool) (vid ty : Int) (b : ByteArray) (w : World) (hh : has = false) (hd : (d / 281474976710656 != 0) = false) (hs : (s / 281474976710656 != 0) = false) (ht : tagOk has pri dei vid = true) (h3 : ty ≠ 0) (h4 : 1536 ≤ ty) (h5 : ty ≤ 65535) (h6 : (ty == 33024) = false) (h7 : 1586 < b.size) (h8 : b.size ≤ 10000) :
    Calls Tryd.prog 13 #[.agg #[.int .u64 d, .int .u64 s, .bool has, .int .i64 pri, .bool dei, .int .i64 vid, .int .i64 ty, .string b]] w fun e w' => e = .returned (.int .i64 41) ∧ Below w.heap.size w w' := by
  subst hh
  go_enter Tryd.func13, Tryd.ntmps13
  go_wp2_with fail
  refine (rtag _ _ _ _ _).mono ?_
  rw [ht]
  rintro e w1 ⟨rfl, rfl⟩
  go_wp2_with fail
  go_ret
  exact ⟨rfl, (alloc_below w _).alloc (by simp) _⟩
set_option maxRecDepth 20000 in
theorem rcheck_ok0_false (d s : Int) (has : Bool) (pri : Int) (dei : Bool) (vid ty : Int) (b : ByteArray) (w : World) (hh : has = false) (hd : (d / 281474976710656 != 0) = false) (hs : (s / 281474976710656 != 0) = false) (ht : tagOk has pri dei vid = true) (h3 : ty = 0) (h4 : b.size ≤ 1500) :
    Calls Tryd.prog 13 #[.agg #[.int .u64 d, .int .u64 s, .bool has, .int .i64 pri, .bool dei, .int .i64 vid, .int .i64 ty, .string b]] w fun e w' => e = .returned (.int .i64 0) ∧ Below w.heap.size w w' := by
  subst hh
  go_enter Tryd.func13, Tryd.ntmps13
  go_wp2_with fail
  refine (rtag _ _ _ _ _).mono ?_
  rw [ht]
  rintro e w1 ⟨rfl, rfl⟩
  go_wp2_with fail
  go_ret
  exact ⟨rfl, (alloc_below w _).alloc (by simp) _⟩
set_option maxRecDepth 20000 in
theorem rcheck_ok1_false (d s : Int) (has : Bool) (pri : Int) (dei : Bool) (vid ty : Int) (b : ByteArray) (w : World) (hh : has = false) (hd : (d / 281474976710656 != 0) = false) (hs : (s / 281474976710656 != 0) = false) (ht : tagOk has pri dei vid = true) (h3 : ty ≠ 0) (h4 : 1536 ≤ ty) (h5 : ty ≤ 65535) (h6 : (ty == 33024) = false) (h7 : b.size ≤ 1586) :
    Calls Tryd.prog 13 #[.agg #[.int .u64 d, .int .u64 s, .bool has, .int .i64 pri, .bool dei, .int .i64 vid, .int .i64 ty, .string b]] w fun e w' => e = .returned (.int .i64 0) ∧ Below w.heap.size w w' := by
  subst hh
  go_enter Tryd.func13, Tryd.ntmps13
  go_wp2_with fail
  refine (rtag _ _ _ _ _).mono ?_
  rw [ht]
  rintro e w1 ⟨rfl, rfl⟩
  go_wp2_with fail
  go_ret
  exact ⟨rfl, (alloc_below w _).alloc (by simp) _⟩
set_option maxRecDepth 20000 in
theorem rcheck_long1_true (d s : Int) (has : Bool) (pri : Int) (dei : Bool) (vid ty : Int) (b : ByteArray) (w : World) (hh : has = true) (hd : (d / 281474976710656 != 0) = false) (hs : (s / 281474976710656 != 0) = false) (ht : tagOk has pri dei vid = true) (h3 : ty ≠ 0) (h4 : 1536 ≤ ty) (h5 : ty ≤ 65535) (h6 : (ty == 33024) = false) (h7 : 1582 < b.size) (h8 : b.size ≤ 10000) :
    Calls Tryd.prog 13 #[.agg #[.int .u64 d, .int .u64 s, .bool has, .int .i64 pri, .bool dei, .int .i64 vid, .int .i64 ty, .string b]] w fun e w' => e = .returned (.int .i64 41) ∧ Below w.heap.size w w' := by
  subst hh
  go_enter Tryd.func13, Tryd.ntmps13
  go_wp2_with fail
  refine (rtag _ _ _ _ _).mono ?_
  rw [ht]
  rintro e w1 ⟨rfl, rfl⟩
  go_wp2_with fail
  go_ret
  exact ⟨rfl, (alloc_below w _).alloc (by simp) _⟩
set_option maxRecDepth 20000 in
theorem rcheck_ok0_true (d s : Int) (has : Bool) (pri : Int) (dei : Bool) (vid ty : Int) (b : ByteArray) (w : World) (hh : has = true) (hd : (d / 281474976710656 != 0) = false) (hs : (s / 281474976710656 != 0) = false) (ht : tagOk has pri dei vid = true) (h3 : ty = 0) (h4 : b.size ≤ 1500) :
    Calls Tryd.prog 13 #[.agg #[.int .u64 d, .int .u64 s, .bool has, .int .i64 pri, .bool dei, .int .i64 vid, .int .i64 ty, .string b]] w fun e w' => e = .returned (.int .i64 0) ∧ Below w.heap.size w w' := by
  subst hh
  go_enter Tryd.func13, Tryd.ntmps13
  go_wp2_with fail
  refine (rtag _ _ _ _ _).mono ?_
  rw [ht]
  rintro e w1 ⟨rfl, rfl⟩
  go_wp2_with fail
  go_ret
  exact ⟨rfl, (alloc_below w _).alloc (by simp) _⟩
set_option maxRecDepth 20000 in
theorem rcheck_ok1_true (d s : Int) (has : Bool) (pri : Int) (dei : Bool) (vid ty : Int) (b : ByteArray) (w : World) (hh : has = true) (hd : (d / 281474976710656 != 0) = false) (hs : (s / 281474976710656 != 0) = false) (ht : tagOk has pri dei vid = true) (h3 : ty ≠ 0) (h4 : 1536 ≤ ty) (h5 : ty ≤ 65535) (h6 : (ty == 33024) = false) (h7 : b.size ≤ 1582) :
    Calls Tryd.prog 13 #[.agg #[.int .u64 d, .int .u64 s, .bool has, .int .i64 pri, .bool dei, .int .i64 vid, .int .i64 ty, .string b]] w fun e w' => e = .returned (.int .i64 0) ∧ Below w.heap.size w w' := by
  subst hh
  go_enter Tryd.func13, Tryd.ntmps13
  go_wp2_with fail
  refine (rtag _ _ _ _ _).mono ?_
  rw [ht]
  rintro e w1 ⟨rfl, rfl⟩
  go_wp2_with fail
  go_ret
  exact ⟨rfl, (alloc_below w _).alloc (by simp) _⟩
theorem great_div (d : Nat) : (((d : Int) / 281474976710656 != 0) = true ↔ 281474976710656 ≤ d) := by
  rw [bne_iff_ne]
  omega
theorem small_div (d : Nat) (h : d < 281474976710656) : ((d : Int) / 281474976710656 != 0) = false := by
  cases e : ((d : Int) / 281474976710656 != 0)
  · rfl
  · exact absurd ((great_div d).1 e) (by omega)
theorem rcheck (d s : Nat) (has : Bool) (pri : Int) (dei : Bool) (vid ty : Int) (l : List UInt8) (w : World) (hl : l.length ≤ 10000) :
    Calls Tryd.prog 13 #[.agg #[.int .u64 d, .int .u64 s, .bool has, .int .i64 pri, .bool dei, .int .i64 vid, .int .i64 ty, .string (bs l)]] w fun e w' => e = .returned (.int .i64 (Fr.mk d s has pri dei vid ty l).check) ∧ Below w.heap.size w w' := by
  have hz := bs_size l
  unfold Fr.check
  simp only
  by_cases h1 : 281474976710656 ≤ d ∨ 281474976710656 ≤ s ∨ tagOk has pri dei vid = false
  · rw [if_pos h1]
    by_cases a1 : 281474976710656 ≤ d
    · exact rcheck_dst d s has pri dei vid ty (bs l) w ((great_div d).2 a1)
    · by_cases a2 : 281474976710656 ≤ s
      · exact rcheck_src d s has pri dei vid ty (bs l) w (small_div d (by omega)) ((great_div s).2 a2)
      · have ht : tagOk has pri dei vid = false := by
          rcases h1 with h1 | h1 | h1
          · exact absurd h1 a1
          · exact absurd h1 a2
          · exact h1
        exact rcheck_tag d s has pri dei vid ty (bs l) w (small_div d (by omega)) (small_div s (by omega)) ht
  · rw [if_neg h1]
    have hd := small_div d (by omega)
    have hs := small_div s (by omega)
    have ht : tagOk has pri dei vid = true := by
      cases e : tagOk has pri dei vid
      · exact absurd (Or.inr (Or.inr e)) h1
      · rfl
    by_cases h2 : ty ≠ 0 ∧ (ty < 1536 ∨ 65535 < ty ∨ ty = 33024)
    · rw [if_pos h2]
      by_cases m1 : ty < 1536
      · exact rcheck_low d s has pri dei vid ty (bs l) w hd hs ht h2.1 m1
      · by_cases m2 : 65535 < ty
        · exact rcheck_high d s has pri dei vid ty (bs l) w hd hs ht h2.1 (by omega) m2
        · exact rcheck_mark d s has pri dei vid ty (bs l) w hd hs ht (by omega)
    · rw [if_neg h2]
      by_cases h3 : ty = 0 ∧ 1500 < l.length
      · rw [if_pos h3]
        exact rcheck_body d s has pri dei vid ty (bs l) w hd hs ht h3.1 (by omega)
      · rw [if_neg h3]
        have hb : (ty == 33024) = false := by rw [beq_eq_false_iff_ne]; intro e; exact h2 (by omega)
        cases has
        · have e : (Fr.mk d s false pri dei vid ty l).size = 14 + l.length := rfl
          by_cases h4 : 1600 < (Fr.mk d s false pri dei vid ty l).size
          · rw [if_pos h4]
            exact rcheck_long1_false d s false pri dei vid ty (bs l) w rfl hd hs ht (by omega) (by omega) (by omega) hb (by omega) (by omega)
          · rw [if_neg h4]
            by_cases z : ty = 0
            · exact rcheck_ok0_false d s false pri dei vid ty (bs l) w rfl hd hs ht z (by omega)
            · exact rcheck_ok1_false d s false pri dei vid ty (bs l) w rfl hd hs ht z (by omega) (by omega) hb (by omega)
        · have e : (Fr.mk d s true pri dei vid ty l).size = 14 + l.length + 4 := rfl
          by_cases h4 : 1600 < (Fr.mk d s true pri dei vid ty l).size
          · rw [if_pos h4]
            exact rcheck_long1_true d s true pri dei vid ty (bs l) w rfl hd hs ht (by omega) (by omega) (by omega) hb (by omega) (by omega)
          · rw [if_neg h4]
            by_cases z : ty = 0
            · exact rcheck_ok0_true d s true pri dei vid ty (bs l) w rfl hd hs ht z (by omega)
            · exact rcheck_ok1_true d s true pri dei vid ty (bs l) w rfl hd hs ht z (by omega) (by omega) hb (by omega)
end Go.Proofs.YtfndofbkfinnmaaDoor
