/-
  The contract of octets.Get where there are the bytes: their number, and OK; nothing has turned.
-/
import Derived.Test.YtljhgehlaehgnaaDoorKit5
import Derived.Laws.BitsAllLaws
namespace Go.Proofs.YtljhgehlaehgnaaDoor
open Go.RowKit

set_option maxRecDepth 20000 in
theorem piece_ok (s : ByteArray) (a n : Nat) (w : World) (hs : s.size ≤ maxLen) (h : a + n ≤ s.size) :
    Calls Tryd.prog 65 #[.string s, .int .i64 a, .int .i64 n] w fun e w' => e = .returned (.tuple #[.string (s.extract a (a + n)), .nilIface]) ∧ w' = w := by
  unfold maxLen at hs
  have hsl := run_slice_string_lh (P := Tryd.prog) w 9 s Tryd.underlying9 .i64 .i64 (a : Int) ((a : Int) + (n : Int)) (by omega) (by omega) (by omega)
  rw [show ((a : Int) + (n : Int)).toNat = a + n from by omega, show (a : Int).toNat = a from by omega] at hsl
  go_enter Tryd.func65, Tryd.ntmps65
  go_wp2
  go_ret2
  exact ⟨rfl, rfl⟩

theorem or_byte (m : Nat) (c : UInt8) (h : m * 256 + 255 < 18446744073709551616) :
    bits BinOp.or IntKind.u64 ((m : Int) * 256) (IntKind.u64.wrap (c.toNat : Int)) = ((m * 256 + c.toNat : Nat) : Int) := by
  have hc := c.toNat_lt
  have e : ((m : Int) * 256) = ((m * 256 : Nat) : Int) := by omega
  have ew : IntKind.u64.wrap (c.toNat : Int) = ((c.toNat : Nat) : Int) := by rw [IntKind.wrap_u64]; omega
  have a1 : m * 256 < 18446744073709551616 := Nat.lt_of_le_of_lt (Nat.le_add_right _ 255) h
  have a2 : c.toNat < 18446744073709551616 := Nat.lt_trans hc (by decide)
  rw [e, ew, u64_or_nat (m * 256) c.toNat a1 a2]
  rw [show m * 256 ||| c.toNat = m * 256 + c.toNat from by
    have := Nat.shiftLeft_add_eq_or_of_lt (i := 8) (show c.toNat < 2 ^ 8 by omega) m
    rw [Nat.shiftLeft_eq] at this
    exact this.symm]
theorem take_snoc (s : ByteArray) (k : Nat) (h : k < s.size) : s.data.toList.take (k + 1) = s.data.toList.take k ++ [s[k]] := by
  rw [List.take_succ_eq_append_getElem (by simpa using h)]; rfl
theorem pow_le8 (k n : Nat) (h : k < n) (h2 : n ≤ 8) : 256 ^ k ≤ 72057594037927936 := by
  have : 256 ^ k ≤ 256 ^ 7 := Nat.pow_le_pow_right (by omega) (by omega)
  simpa using this

theorem get_ok (s : ByteArray) (a n : Nat) (w : World) (hs : s.size ≤ maxLen) (h1 : 1 ≤ n) (h2 : n ≤ 8) (h : a + n ≤ s.size) :
    Calls Tryd.prog 54 #[.string s, .int .i64 a, .int .i64 n] w fun e w' => e = .returned (.tuple #[.int .u64 (num (s.extract a (a + n)).data.toList : Nat), .int .i64 0]) ∧ w' = w := by
  obtain ⟨p, hp⟩ : ∃ p, p = s.extract a (a + n) := ⟨_, rfl⟩
  have hps : p.size = n := by rw [hp, ByteArray.size_extract]; omega
  rw [← hp]
  have HP : Hid (p = s.extract a (a + n)) := hp
  clear hp
  go_enter Tryd.func54, Tryd.ntmps54
  go_wp2_with (first | (go_at_call 63; refine (width_ok _ _ (by omega) (by omega)).mono ?_; rintro e w' ⟨rfl, rfl⟩) | (go_at_call 65; refine (piece_ok s a n _ hs h).mono ?_; rintro e w' ⟨rfl, rfl⟩; rw [← HP.out]))
  go_loop [11, 31] (fun v i => ∃ k : Nat, k ≤ n ∧ i = .int .i64 k ∧ v = .int .u64 (num (p.data.toList.take k) : Nat)) (fun _ i => n - (intOf i).toNat)
  case atStart => exact ⟨0, Nat.zero_le _, rfl, rfl⟩
  case round =>
    obtain ⟨k, hk, rfl, rfl⟩ := hrel
    by_cases hlt : k < n
    · have hb := num_lt (p.data.toList.take k)
      have hsn := num_snoc (p.data.toList.take k) (p[k]'(by omega))
      rw [← take_snoc p k (by omega)] at hsn
      have HS : Hid (num (p.data.toList.take (k + 1)) = num (p.data.toList.take k) * 256 + (p[k]'(by omega)).toNat) := hsn
      clear hsn
      have hl : (p.data.toList.take k).length = k := by rw [List.length_take, size_toList]; omega
      have hpw := pow_le8 k n hlt h2
      rw [hl] at hb
      generalize num (p.data.toList.take k) = m at hb HS ⊢
      have hm : m < 72057594037927936 := by omega
      clear hb hpw hl
      go_wp2
      all_goals
        go_round
        case rel => exact ⟨k + 1, by omega, by go_num, by rw [HS.out, or_byte m _ (by omega)]⟩
        case measure => simp [intOf]; omega
    · have hkn : p.data.toList.take k = p.data.toList := List.take_of_length_le (by rw [size_toList]; omega)
      rw [hkn]
      clear hkn
      go_wp2
      go_ret2
      exact ⟨rfl, rfl⟩

end Go.Proofs.YtljhgehlaehgnaaDoor
