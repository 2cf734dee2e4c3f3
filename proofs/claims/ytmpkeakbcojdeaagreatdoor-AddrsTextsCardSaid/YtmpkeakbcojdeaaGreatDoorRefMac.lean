/-
  The document's answer for MAC addresses as texts: the contracts of gangwayref01's Num and gangwayref02's Mac and ReadMac.
-/
import Derived.Test.YtmpkeakbcojdeaaGreatDoorShort
import Derived.Test.YtmpkeakbcojdeaaGreatDoorRefBytes
import Derived.Test.YtmpkeakbcojdeaaGreatDoorRefHex
import Derived.Test.YtmpkeakbcojdeaaGreatDoorRefUnhex
namespace Go.Proofs.YtmpkeakbcojdeaaGreatDoor
open Go.RowKit

theorem take_next (l : List UInt8) (k : Nat) (h : k < l.length) : l.take (k + 1) = l.take k ++ [l[k]] := by
  rw [List.take_add_one, List.getElem?_eq_getElem h]; rfl
set_option maxRecDepth 20000 in
theorem rnum (l : List UInt8) (w : World) (hl : l.length ≤ 7) :
    Calls Tryz.prog 34 #[.string (bs l)] w fun e w' => e = .returned (.int .u64 ((num l : Nat) : Int)) ∧ w' = w := by
  have hsz : (bs l).size = l.length := bs_size l
  go_enter Tryz.func34, Tryz.ntmps34
  go_wp2_with fail
  go_loop [3, 4] (fun x i => ∃ k : Nat, k ≤ l.length ∧ i = .int .i64 k ∧ x = .int .u64 ((num (l.take k) : Nat) : Int)) (fun _ i => l.length - (intOf i).toNat)
  case atStart => exact ⟨0, Nat.zero_le _, rfl, rfl⟩
  case round =>
    obtain ⟨k, hk, rfl, rfl⟩ := hrel
    by_cases hlt : k < l.length
    · have hix : ((bs l)[k]'(by omega)).toNat = (l[k]).toNat := rfl
      have hx8 : (l[k]).toNat < 256 := (l[k]).toNat_lt
      have hns : num (l.take (k + 1)) = num (l.take k) * 256 + (l[k]).toNat := by rw [take_next l k hlt, num_snoc]
      have hm : num (l.take k) < 281474976710656 := Nat.lt_of_lt_of_le (num_lt _) (by
        rw [List.length_take, Nat.min_eq_left (Nat.le_of_lt hlt)]
        exact Nat.le_trans (Nat.pow_le_pow_right (n := 256) (by omega) (show k ≤ 6 by omega)) (by decide))
      have hmi : ((num (l.take k) : Nat) : Int) < 281474976710656 := by omega
      have HNS := hide hns
      clear hns hm
      generalize num (l.take k) = m at hmi HNS ⊢
      generalize (l[k]).toNat = x at hix hx8 HNS
      go_wp2_with fail
      go_round
      case rel => exact ⟨k + 1, by omega, by go_num, by rw [unhide HNS]; rfl⟩
      case measure => simp [intOf]; omega
    · obtain rfl : k = l.length := by omega
      rw [List.take_length]
      go_wp2_with fail
      go_ret
      exact ⟨rfl, rfl⟩
theorem mac_nil : macT [] = [] := rfl
theorem mac_one (c : UInt8) : macT [c] = two c := Lib.join_one _ _
theorem joinTail_snoc (sep : List UInt8) (r : List (List UInt8)) (x : List UInt8) : Lib.joinTail sep (r ++ [x]) = Lib.joinTail sep r ++ sep ++ x := by simp [Lib.joinTail]
theorem mac_snoc (l : List UInt8) (c : UInt8) (h : l ≠ []) : macT (l ++ [c]) = macT l ++ [58] ++ two c := by
  cases l with
  | nil => exact absurd rfl h
  | cons y r => rw [macT, macT, List.cons_append, List.map_cons, List.map_cons, List.map_append, List.map_cons, List.map_nil, Lib.join_cons, Lib.join_cons, joinTail_snoc]; simp
set_option maxRecDepth 20000 in
set_option maxHeartbeats 2000000 in
theorem rmac (m : Nat) (w : World) (hm : m < 18446744073709551616) :
    Calls Tryz.prog 15 #[.int .u64 m] w fun e w' => e = .returned (.string (bs (macT (be m 6)))) ∧ Below w.heap.size w w' := by
  have HB := hide (rbytes m 6 w (by omega) hm)
  have hl : (be m 6).length = 6 := be_length m 6
  generalize be m 6 = l at HB hl ⊢
  clear hm
  have hls : (bs l).size = 6 := by rw [bs_size, hl]
  have hsmall : ∀ k, k ≤ 6 → (bs (macT (l.take k))).size ≤ 1000 := fun k hk => by
    rw [bs_size]; exact join_short _ two 58 (by rw [List.length_take]; omega) two_length
  go_enter Tryz.func15, Tryz.ntmps15
  go_wp2_with fail
  refine (unhide HB).mono ?_
  rintro e w1 ⟨rfl, b1⟩
  go_wp2_with fail
  go_loopw [4, 5] (fun s i wr => ∃ k : Nat, k ≤ 6 ∧ i = .int .i64 k ∧ s = .string (bs (macT (l.take k))) ∧ Below w1.heap.size w1 wr) (fun _ i _ => 6 - (intOf i).toNat)
  case atStart => exact ⟨0, Nat.zero_le _, rfl, rfl, Below.refl _ _⟩
  case round =>
    obtain ⟨k, hk, rfl, rfl, hb⟩ := hrel
    by_cases hlt : k < 6
    · have hkl : k < l.length := by omega
      have hx := extract_one l k hkl
      have hsl := run_slice_string_lh (P := Tryz.prog) wr 9 (bs l) Tryz.underlying9 .i64 .i64 (k : Int) ((k : Int) + 1) (by omega) (by omega) (by omega)
      rw [show ((k : Int) + 1).toNat = k + 1 from by omega, show (k : Int).toNat = k from by omega, hx] at hsl
      have hh := rhex_any (bs [l[k]]) wr (by rw [bs_size]; simp)
      rw [bs_toList, two_hexs] at hh
      have HH := hide hh
      have htk := take_next l k hkl
      have hs1 := hsmall k (by omega)
      have h2s : (bs (two l[k])).size ≤ 10 := by rw [bs_size]; exact two_length _
      by_cases hk0 : k = 0
      · have hap : bs (macT (l.take k)) ++ bs (two l[k]) = bs (macT (l.take (k + 1))) := by
          rw [bs_append, htk, show l.take k = [] by rw [hk0]; rfl]
          simp [mac_nil, mac_one]
        have hd : decide (0 < (k : Int)) = false := decide_eq_false (by omega)
        have hdn : decide (0 < k) = false := decide_eq_false (by omega)
        have HAP := hide hap
        clear hap hh htk hk0
        generalize bs (macT (l.take k)) = A at hs1 HAP ⊢
        generalize bs (two l[k]) = B at HH HAP h2s
        generalize bs [l[k]] = C at hx hsl HH
        clear hx
        go_wp2_with fail
        refine (unhide HH).mono ?_
        rintro e w2 ⟨rfl, hb2⟩
        go_wp2_with fail
        go_roundw
        case rel => exact ⟨k + 1, by omega, by go_num, by rw [← unhide HAP], hb.trans (hb2.mono hb.size)⟩
        case measure => simp [intOf]; omega
      · have hap : bs (macT (l.take k)) ++ ⟨#[58]⟩ ++ bs (two l[k]) = bs (macT (l.take (k + 1))) := by
          rw [show (⟨#[58]⟩ : ByteArray) = bs [58] from rfl, bs_append, bs_append, htk, mac_snoc _ _ (fun e => by have h := congrArg List.length e; rw [List.length_take, List.length_nil, Nat.min_eq_left (Nat.le_of_lt hkl)] at h; exact hk0 h)]
        have hd : decide (0 < (k : Int)) = true := decide_eq_true (by omega)
        have hdn : decide (0 < k) = true := decide_eq_true (by omega)
        have hs2 : (bs (macT (l.take k)) ++ (⟨#[58]⟩ : ByteArray)).size = (bs (macT (l.take k))).size + 1 := by rw [ByteArray.size_append]; rfl
        have HAP := hide hap
        clear hap hh htk
        generalize bs (macT (l.take k)) = A at hs1 hs2 HAP ⊢
        generalize bs (two l[k]) = B at HH HAP h2s
        generalize bs [l[k]] = C at hx hsl HH
        clear hx
        go_wp2_with fail
        refine (unhide HH).mono ?_
        rintro e w2 ⟨rfl, hb2⟩
        go_wp2_with fail
        go_roundw
        case rel => exact ⟨k + 1, by omega, by go_num, by rw [← unhide HAP], hb.trans (hb2.mono hb.size)⟩
        case measure => simp [intOf]; omega
    · obtain rfl : k = 6 := by omega
      have ht : l.take 6 = l := by rw [← hl, List.take_length]
      rw [ht]
      go_wp2_with fail
      go_ret
      exact ⟨rfl, b1.trans (hb.mono b1.size)⟩
theorem mac_more (x y : UInt8) (r : List UInt8) : macT (x :: y :: r) = hexd (x.toNat / 16) :: hexd (x.toNat % 16) :: 58 :: macT (y :: r) := by
  rw [macT, List.map_cons, List.map_cons, join_more, macT, List.map_cons]
  rfl
/-- what stands behind k bytes and their signs -/
theorem mac_drop : ∀ (k : Nat) (l : List UInt8), k < l.length → (macT l).drop (3 * k) = macT (l.drop k)
  | 0, _, _ => rfl
  | k + 1, [], h => by cases h
  | k + 1, [x], h => by simp at h
  | k + 1, x :: y :: r, h => by
    rw [mac_more, show 3 * (k + 1) = 3 * k + 3 by omega]
    show (macT (y :: r)).drop (3 * k) = _
    rw [mac_drop k (y :: r) (by simpa using h)]
    rfl
theorem mac_piece (l : List UInt8) (k : Nat) (h : k < l.length) : ((macT l).drop (3 * k)).take 2 = two l[k] := by
  rw [mac_drop k l h, List.drop_eq_getElem_cons h]
  cases hr : l.drop (k + 1) with
  | nil => rw [mac_one]; rfl
  | cons y r => rw [mac_more]; rfl
theorem mac_sign (l : List UInt8) (k : Nat) (h : k + 1 < l.length) : (macT l)[3 * k + 2]? = some 58 := by
  have e : ((macT l).drop (3 * k))[2]? = some 58 := by
    rw [mac_drop k l (by omega), List.drop_eq_getElem_cons (by omega), List.drop_eq_getElem_cons h, mac_more]
    rfl
  rw [List.getElem?_drop] at e
  exact e
theorem lens_two' : ∀ l : List UInt8, Lib.lens (l.map two) = 2 * l.length
  | [] => rfl
  | c :: l => by
    have e : Lib.lens (two c :: l.map two) = (two c).length + Lib.lens (l.map two) := by simp [Lib.lens]
    rw [List.map_cons, e, lens_two' l, List.length_cons]
    simp [two]; omega
theorem mac_len (l : List UInt8) (h : l ≠ []) : (macT l).length + 1 = 3 * l.length := by
  cases l with
  | nil => exact absurd rfl h
  | cons c l =>
    have hl := lens_two' (c :: l)
    rw [List.map_cons] at hl
    rw [macT, List.map_cons, Lib.join_length, hl, List.length_map]
    simp
    omega
theorem unh_pair (a b : UInt8) : unh [a, b] = none ∨ ∃ c, unh [a, b] = some [c] ∧ [a, b] = two c := by
  cases h : unh [a, b] with
  | none => exact Or.inl rfl
  | some l =>
    right
    have hl : ∃ c, l = [c] := by
      rw [unh] at h
      split at h
      · simp [unh] at h
        exact ⟨_, h.symm⟩
      · cases h
    obtain ⟨c, rfl⟩ := hl
    exact ⟨c, rfl, twoOf_some _ c (by rw [twoOf, h])⟩
end Go.Proofs.YtmpkeakbcojdeaaGreatDoor
