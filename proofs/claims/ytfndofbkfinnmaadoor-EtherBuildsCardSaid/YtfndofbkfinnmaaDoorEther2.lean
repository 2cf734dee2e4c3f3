/-
  The contract of ether.wrong: nothing, or a fault that wraps the error's number that the document names; no cell that was there before has turned.
-/
import Derived.Test.YtfndofbkfinnmaaDoorEther1
namespace Go.Proofs.YtfndofbkfinnmaaDoor
open Go.RowKit

set_option maxRecDepth 20000 in
theorem wrong_dst (d s : Int) (has : Bool) (pri : Int) (dei : Bool) (vid ty : Int) (b : ByteArray) (w : World) (h1 : 281474976710656 ≤ d) :
    Calls Tryd.prog 17 #[.agg #[.int .u64 d, .int .u64 s, .bool has, .int .i64 pri, .bool dei, .int .i64 vid, .int .i64 ty, .string b]] w fun e w' => e = .returned (.iface 53 (.agg #[.string ⟨#[97, 100, 100, 114, 101, 115, 115]⟩, .int .i64 41])) ∧ Below w.heap.size w w' := by
  go_enter Tryd.func17, Tryd.ntmps17
  go_wp2
  go_ret
  exact ⟨rfl, alloc_below _ _⟩
set_option maxRecDepth 20000 in
theorem wrong_src (d s : Int) (has : Bool) (pri : Int) (dei : Bool) (vid ty : Int) (b : ByteArray) (w : World) (h1 : d < 281474976710656) (h2 : 281474976710656 ≤ s) :
    Calls Tryd.prog 17 #[.agg #[.int .u64 d, .int .u64 s, .bool has, .int .i64 pri, .bool dei, .int .i64 vid, .int .i64 ty, .string b]] w fun e w' => e = .returned (.iface 53 (.agg #[.string ⟨#[97, 100, 100, 114, 101, 115, 115]⟩, .int .i64 41])) ∧ Below w.heap.size w w' := by
  go_enter Tryd.func17, Tryd.ntmps17
  go_wp2
  go_ret
  exact ⟨rfl, alloc_below _ _⟩
set_option maxRecDepth 20000 in
theorem wrong_tag (d s : Int) (has : Bool) (pri : Int) (dei : Bool) (vid ty : Int) (b : ByteArray) (w : World) (h1 : d < 281474976710656) (h2 : s < 281474976710656) (ht : tagOk has pri dei vid = false) :
    Calls Tryd.prog 17 #[.agg #[.int .u64 d, .int .u64 s, .bool has, .int .i64 pri, .bool dei, .int .i64 vid, .int .i64 ty, .string b]] w fun e w' => e = .returned (.iface 53 (.agg #[.string ⟨#[116, 97, 103]⟩, .int .i64 41])) ∧ Below w.heap.size w w' := by
  go_enter Tryd.func17, Tryd.ntmps17
  go_wp2_with (first | (go_at_call 26; refine (fine_any _ _ _ _ _).mono ?_; rw [ht]; rintro e w1 ⟨rfl, rfl⟩))
  go_ret
  exact ⟨rfl, (alloc_below w _).alloc (by simp) _⟩
set_option maxRecDepth 20000 in
theorem wrong_type (d s : Int) (has : Bool) (pri : Int) (dei : Bool) (vid ty : Int) (b : ByteArray) (w : World) (h1 : d < 281474976710656) (h2 : s < 281474976710656) (ht : tagOk has pri dei vid = true) (h3 : ty ≠ 0) (hk : isType ty = false) :
    Calls Tryd.prog 17 #[.agg #[.int .u64 d, .int .u64 s, .bool has, .int .i64 pri, .bool dei, .int .i64 vid, .int .i64 ty, .string b]] w fun e w' => e = .returned (.iface 53 (.agg #[.string ⟨#[116, 121, 112, 101]⟩, .int .i64 41])) ∧ Below w.heap.size w w' := by
  go_enter Tryd.func17, Tryd.ntmps17
  go_wp2_with (first | (go_at_call 26; refine (fine_any _ _ _ _ _).mono ?_; rw [ht]; rintro e w1 ⟨rfl, rfl⟩) | (go_at_call 27; refine (named_any _ _).mono ?_; rw [hk]; rintro e w2 ⟨rfl, rfl⟩))
  go_ret
  exact ⟨rfl, (alloc_below w _).alloc (by simp) _⟩
set_option maxRecDepth 20000 in
theorem wrong_body (d s : Int) (has : Bool) (pri : Int) (dei : Bool) (vid ty : Int) (b : ByteArray) (w : World) (h1 : d < 281474976710656) (h2 : s < 281474976710656) (ht : tagOk has pri dei vid = true) (h3 : ty = 0) (h4 : 1500 < b.size) :
    Calls Tryd.prog 17 #[.agg #[.int .u64 d, .int .u64 s, .bool has, .int .i64 pri, .bool dei, .int .i64 vid, .int .i64 ty, .string b]] w fun e w' => e = .returned (.iface 53 (.agg #[.string ⟨#[98, 111, 100, 121]⟩, .int .i64 40])) ∧ Below w.heap.size w w' := by
  go_enter Tryd.func17, Tryd.ntmps17
  go_wp2_with (first | (go_at_call 26; refine (fine_any _ _ _ _ _).mono ?_; rw [ht]; rintro e w1 ⟨rfl, rfl⟩))
  go_ret
  exact ⟨rfl, (alloc_below w _).alloc (by simp) _⟩
set_option maxRecDepth 20000 in
theorem wrong_long0 (d s : Int) (has : Bool) (pri : Int) (dei : Bool) (vid ty : Int) (b : ByteArray) (w : World) (h1 : d < 281474976710656) (h2 : s < 281474976710656) (hb : b.size ≤ 10000) (ht : tagOk has pri dei vid = true) (h3 : ty = 0) (h4 : b.size ≤ 1500) (n : Nat) (hn : 14 + b.size + (if has then 4 else 0) = n) (h5 : 1600 < n) :
    Calls Tryd.prog 17 #[.agg #[.int .u64 d, .int .u64 s, .bool has, .int .i64 pri, .bool dei, .int .i64 vid, .int .i64 ty, .string b]] w fun e w' => e = .returned (.iface 53 (.agg #[.string ⟨#[102, 114, 97, 109, 101]⟩, .int .i64 41])) ∧ Below w.heap.size w w' := by
  go_enter Tryd.func17, Tryd.ntmps17
  go_wp2_with (first | (go_at_call 26; refine (fine_any _ _ _ _ _).mono ?_; rw [ht]; rintro e w1 ⟨rfl, rfl⟩) | (go_at_call 28; refine (size_any _ _ _ _ _ _ _ _ _ hb).mono ?_; rw [hn]; rintro e w3 ⟨rfl, rfl⟩))
  go_ret
  exact ⟨rfl, ((alloc_below w _).alloc (by simp) _).alloc (by simp; omega) _⟩
set_option maxRecDepth 20000 in
theorem wrong_long1 (d s : Int) (has : Bool) (pri : Int) (dei : Bool) (vid ty : Int) (b : ByteArray) (w : World) (h1 : d < 281474976710656) (h2 : s < 281474976710656) (hb : b.size ≤ 10000) (ht : tagOk has pri dei vid = true) (h3 : ty ≠ 0) (hk : isType ty = true) (n : Nat) (hn : 14 + b.size + (if has then 4 else 0) = n) (h5 : 1600 < n) :
    Calls Tryd.prog 17 #[.agg #[.int .u64 d, .int .u64 s, .bool has, .int .i64 pri, .bool dei, .int .i64 vid, .int .i64 ty, .string b]] w fun e w' => e = .returned (.iface 53 (.agg #[.string ⟨#[102, 114, 97, 109, 101]⟩, .int .i64 41])) ∧ Below w.heap.size w w' := by
  go_enter Tryd.func17, Tryd.ntmps17
  go_wp2_with (first | (go_at_call 26; refine (fine_any _ _ _ _ _).mono ?_; rw [ht]; rintro e w1 ⟨rfl, rfl⟩) | (go_at_call 27; refine (named_any _ _).mono ?_; rw [hk]; rintro e w2 ⟨rfl, rfl⟩) | (go_at_call 28; refine (size_any _ _ _ _ _ _ _ _ _ hb).mono ?_; rw [hn]; rintro e w3 ⟨rfl, rfl⟩))
  go_ret
  exact ⟨rfl, ((alloc_below w _).alloc (by simp) _).alloc (by simp; omega) _⟩
set_option maxRecDepth 20000 in
theorem wrong_not0 (d s : Int) (has : Bool) (pri : Int) (dei : Bool) (vid ty : Int) (b : ByteArray) (w : World) (h1 : d < 281474976710656) (h2 : s < 281474976710656) (hb : b.size ≤ 10000) (ht : tagOk has pri dei vid = true) (h3 : ty = 0) (h4 : b.size ≤ 1500) (n : Nat) (hn : 14 + b.size + (if has then 4 else 0) = n) (h5 : n ≤ 1600) :
    Calls Tryd.prog 17 #[.agg #[.int .u64 d, .int .u64 s, .bool has, .int .i64 pri, .bool dei, .int .i64 vid, .int .i64 ty, .string b]] w fun e w' => e = .returned (.nilIface) ∧ Below w.heap.size w w' := by
  go_enter Tryd.func17, Tryd.ntmps17
  go_wp2_with (first | (go_at_call 26; refine (fine_any _ _ _ _ _).mono ?_; rw [ht]; rintro e w1 ⟨rfl, rfl⟩) | (go_at_call 28; refine (size_any _ _ _ _ _ _ _ _ _ hb).mono ?_; rw [hn]; rintro e w3 ⟨rfl, rfl⟩))
  go_ret
  exact ⟨rfl, ((alloc_below w _).alloc (by simp) _).alloc (by simp; omega) _⟩
set_option maxRecDepth 20000 in
theorem wrong_not1 (d s : Int) (has : Bool) (pri : Int) (dei : Bool) (vid ty : Int) (b : ByteArray) (w : World) (h1 : d < 281474976710656) (h2 : s < 281474976710656) (hb : b.size ≤ 10000) (ht : tagOk has pri dei vid = true) (h3 : ty ≠ 0) (hk : isType ty = true) (n : Nat) (hn : 14 + b.size + (if has then 4 else 0) = n) (h5 : n ≤ 1600) :
    Calls Tryd.prog 17 #[.agg #[.int .u64 d, .int .u64 s, .bool has, .int .i64 pri, .bool dei, .int .i64 vid, .int .i64 ty, .string b]] w fun e w' => e = .returned (.nilIface) ∧ Below w.heap.size w w' := by
  go_enter Tryd.func17, Tryd.ntmps17
  go_wp2_with (first | (go_at_call 26; refine (fine_any _ _ _ _ _).mono ?_; rw [ht]; rintro e w1 ⟨rfl, rfl⟩) | (go_at_call 27; refine (named_any _ _).mono ?_; rw [hk]; rintro e w2 ⟨rfl, rfl⟩) | (go_at_call 28; refine (size_any _ _ _ _ _ _ _ _ _ hb).mono ?_; rw [hn]; rintro e w3 ⟨rfl, rfl⟩))
  go_ret
  exact ⟨rfl, ((alloc_below w _).alloc (by simp) _).alloc (by simp; omega) _⟩

/-- a frame that may be -/
theorem wrong_ok (d s : Nat) (has : Bool) (pri : Int) (dei : Bool) (vid ty : Int) (l : List UInt8) (w : World) (hl : l.length ≤ 10000) (h : (Fr.mk d s has pri dei vid ty l).check = 0) :
    Calls Tryd.prog 17 #[.agg #[.int .u64 d, .int .u64 s, .bool has, .int .i64 pri, .bool dei, .int .i64 vid, .int .i64 ty, .string (bs l)]] w fun e w' => e = .returned .nilIface ∧ Below w.heap.size w w' := by
  have hz := bs_size l
  obtain ⟨c1, c2, c3, c4, c5⟩ := check_spec _ h
  have c5' : 14 + l.length + (if has then 4 else 0) ≤ 1600 := c5
  simp only at c1 c2 c3 c4
  rcases c4 with ⟨c4, c6⟩ | ⟨c4, c6, c7⟩
  · exact wrong_not0 d s has pri dei vid ty (bs l) w (by omega) (by omega) (by omega) c3 c4 (by omega) _ rfl (by rw [hz]; exact c5')
  · exact wrong_not1 d s has pri dei vid ty (bs l) w (by omega) (by omega) (by omega) c3 (by omega) (decide_eq_true ⟨c4, c6, c7⟩) _ rfl (by rw [hz]; exact c5')
/-- a frame that may not be -/
theorem wrong_bad (d s : Nat) (has : Bool) (pri : Int) (dei : Bool) (vid ty : Int) (l : List UInt8) (hl : l.length ≤ 10000) (h : (Fr.mk d s has pri dei vid ty l).check ≠ 0) :
    ∃ p : ByteArray, ∀ w : World, Calls Tryd.prog 17 #[.agg #[.int .u64 d, .int .u64 s, .bool has, .int .i64 pri, .bool dei, .int .i64 vid, .int .i64 ty, .string (bs l)]] w fun e w' => e = .returned (.iface 53 (.agg #[.string p, .int .i64 (Fr.mk d s has pri dei vid ty l).check])) ∧ Below w.heap.size w w' := by
  have hz := bs_size l
  unfold Fr.check at h ⊢
  simp only at h ⊢
  split at h
  · rename_i h1
    rw [if_pos h1]
    by_cases a1 : 281474976710656 ≤ d
    · exact ⟨_, fun w => wrong_dst d s has pri dei vid ty (bs l) w (by omega)⟩
    · by_cases a2 : 281474976710656 ≤ s
      · exact ⟨_, fun w => wrong_src d s has pri dei vid ty (bs l) w (by omega) (by omega)⟩
      · have ht : tagOk has pri dei vid = false := by
          rcases h1 with h1 | h1 | h1
          · exact absurd h1 a1
          · exact absurd h1 a2
          · exact h1
        exact ⟨_, fun w => wrong_tag d s has pri dei vid ty (bs l) w (by omega) (by omega) ht⟩
  · rename_i h1
    rw [if_neg h1]
    have a1 : d < 281474976710656 := by omega
    have a2 : s < 281474976710656 := by omega
    have ht : tagOk has pri dei vid = true := by
      cases e : tagOk has pri dei vid
      · exact absurd (Or.inr (Or.inr e)) h1
      · rfl
    split at h
    · rename_i h2
      rw [if_pos h2]
      exact ⟨_, fun w => wrong_type d s has pri dei vid ty (bs l) w (by omega) (by omega) ht h2.1 (decide_eq_false (by omega))⟩
    · rename_i h2
      rw [if_neg h2]
      split at h
      · rename_i h3
        rw [if_pos h3]
        exact ⟨_, fun w => wrong_body d s has pri dei vid ty (bs l) w (by omega) (by omega) ht h3.1 (by omega)⟩
      · rename_i h3
        rw [if_neg h3]
        split at h
        · rename_i h4
          rw [if_pos h4]
          have h4' : 1600 < 14 + l.length + (if has then 4 else 0) := h4
          by_cases z : ty = 0
          · exact ⟨_, fun w => wrong_long0 d s has pri dei vid ty (bs l) w (by omega) (by omega) (by omega) ht z (by omega) _ rfl (by rw [hz]; exact h4')⟩
          · exact ⟨_, fun w => wrong_long1 d s has pri dei vid ty (bs l) w (by omega) (by omega) (by omega) ht z (decide_eq_true (by omega)) _ rfl (by rw [hz]; exact h4')⟩
        · exact absurd rfl h
end Go.Proofs.YtfndofbkfinnmaaDoor
