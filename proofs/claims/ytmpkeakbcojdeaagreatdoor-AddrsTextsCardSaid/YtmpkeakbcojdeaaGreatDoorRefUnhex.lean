/-
  The document's answer for Unhex: the contracts of gangwayref01's half and Unhex.
-/
import Derived.Test.YtmpkeakbcojdeaaGreatDoorRefHex
import Derived.Deep.RegionHeld3
import Derived.Deep.AppendLies
namespace Go.Proofs.YtmpkeakbcojdeaaGreatDoor
open Go.RowKit

theorem half_digit (c : UInt8) (h : 48 ≤ c.toNat ∧ c.toNat ≤ 57) : (half c : Int) = (c.toNat : Int) - 48 := by unfold half; rw [if_pos h]; omega
theorem half_letter (c : UInt8) (h : 97 ≤ c.toNat ∧ c.toNat ≤ 102) : (half c : Int) = (c.toNat : Int) - 87 := by unfold half; rw [if_neg (by omega), if_pos h]; omega
theorem half_none (c : UInt8) (h : ¬ (48 ≤ c.toNat ∧ c.toNat ≤ 57)) (h2 : ¬ (97 ≤ c.toNat ∧ c.toNat ≤ 102)) : (half c : Int) = 16 := by unfold half; rw [if_neg h, if_neg h2]; rfl
theorem rhalf (c : UInt8) (w : World) : Calls Tryz.prog 50 #[.int .u8 (c.toNat : Int)] w fun e w' => e = .returned (.int .u8 (half c : Int)) ∧ w' = w := by
  have hc := c.toNat_lt
  by_cases h : 48 ≤ c.toNat ∧ c.toNat ≤ 57
  · rw [half_digit c h]
    obtain ⟨h1, h2⟩ := h
    go_enter Tryz.func50, Tryz.ntmps50
    go_wp2
    go_ret
    exact ⟨rfl, rfl⟩
  · by_cases h' : 97 ≤ c.toNat ∧ c.toNat ≤ 102
    · rw [half_letter c h']
      obtain ⟨h1, h2⟩ := h'
      go_enter Tryz.func50, Tryz.ntmps50
      go_wp2
      go_ret
      exact ⟨rfl, rfl⟩
    · rw [half_none c h h']
      rcases (show c.toNat < 48 ∨ (57 < c.toNat ∧ c.toNat < 97) ∨ 102 < c.toNat from by omega) with h1 | ⟨h1, h2⟩ | h1
      all_goals
        clear h h'
        go_enter Tryz.func50, Tryz.ntmps50
        go_wp2
        go_ret
        exact ⟨rfl, rfl⟩

set_option maxRecDepth 20000 in
set_option maxHeartbeats 4000000 in
theorem runhex_any (s : ByteArray) (w : World) (hs : s.size ≤ 1000) :
    Calls Tryz.prog 33 #[.string s] w fun e w' => e = .returned (unhV (unh s.data.toList)) ∧ Below w.heap.size w w' := by
  obtain ⟨i0, hi, hz0, hz1, hz2⟩ := info_parts info5
  obtain ⟨o, ho⟩ : ∃ o, o = unh s.data.toList := ⟨_, rfl⟩
  rw [← ho]
  have HO := hide ho
  clear ho
  go_enter Tryz.func33, Tryz.ntmps33
  go_wp2
  go_loopw [4, 5] (fun v i wr => ∃ (j k : Nat) (acc : List UInt8), j ≤ s.size ∧ i = .int .i64 (j : Nat) ∧ Hid (j = 2 * k) ∧ Hid (acc.length = k) ∧ k ≤ 1000 ∧ wr.ownsRow w.heap.size 5 1 v k (Lib.byteCells acc) ∧ Hid (o = (unh (s.data.toList.drop j)).map (acc ++ ·)) ∧ Below w.heap.size w wr) (fun _ i _ => s.size - (intOf i).toNat)
  case atStart =>
    refine ⟨0, 0, [], Nat.zero_le _, rfl, rfl, rfl, Nat.zero_le _, ?_, ?_, (Below.refl _ _).alloc (Nat.le_refl _) _⟩
    · exact World.ownsRow_lit w _ 0 (Nat.le_refl _) (by decide) rfl
    · show _ = _
      rw [unhide HO]; simp
  case round =>
    obtain ⟨j, k, acc, hk, rfl, HJ, HAL, hk1000, hown, hrest, hb⟩ := hrel
    by_cases h2 : j + 2 ≤ s.size
    · have hd := drop_two s j h2
      have i1 : (j : Int) + 1 < (s.size : Int) := by omega
      have i2 : (j : Int) < (s.size : Int) := by omega
      have i4 : (0 : Int) ≤ (j : Int) + 1 := by omega
      have iw : IntKind.i64.wrap ((j : Int) + 1) = (j : Int) + 1 := by rw [IntKind.wrap_i64]; omega
      by_cases hgood : half (s[j]'(by omega)) < 16 ∧ half (s[j + 1]'(by omega)) < 16
      · have hst := unh_step _ acc _ _ _ hd hgood o (unhide hrest)
        have hbh := byte_halves _ _ hgood.1 hgood.2
        clear hd hrest
        generalize hc0 : s[j]'(by omega) = c0 at hst hbh hgood
        generalize hc1 : s[j + 1]'(by omega) = c1 at hst hbh hgood
        obtain ⟨g0, g1⟩ := hgood
        obtain ⟨a, ha⟩ : ∃ a, half c0 = a := ⟨_, rfl⟩
        obtain ⟨b, hb0⟩ : ∃ b, half c1 = b := ⟨_, rfl⟩
        rw [ha, hb0] at hst hbh
        rw [ha] at g0
        rw [hb0] at g1
        have iw2 : IntKind.u8.wrap ((a : Int) * 16) = (a : Int) * 16 := by rw [IntKind.wrap_u8]; omega
        have iw3 : IntKind.u8.wrap ((a : Int) * 16 + (b : Int)) = (a : Int) * 16 + (b : Int) := by rw [IntKind.wrap_u8]; omega
        have HST := hide hst
        have HBH := hide hbh
        clear hst hbh
        go_wp2_with fail
        refine (rhalf c0 _).mono ?_
        rintro e w1 ⟨rfl, rfl⟩
        go_wp2_with fail
        refine (rhalf c1 _).mono ?_
        rintro e w2 ⟨rfl, rfl⟩
        go_wp2_with fail
        go_region_held3 (fun _ => True) (exact True.intro) (first | (refine step_append_lies _ (by rfl) (.tmp 27) (.tmp 39) 62 (by rfl) w.heap.size 5 i0 _ 1 1 Tryz.underlying62 hi hz0 hz1 hz2 rfl (by omega) u4 k (Lib.byteCells acc) (by rfl) ((hown.alloc _).drew) ⟨w2.heap.size, 0, none⟩ 1 1 [.int .u8 ((a : Int) * 16 + (b : Int))] (by rfl) (by rfl) (one_new w2 _) (by intro u hu; simp at hu; subst hu; rfl) (by omega) (by unfold maxLen; omega) (by omega) (by have := hb.size; simp; omega) (w2.heap.size + 1) (by simp) ?_; intro gg cap w5 hown5 hgrow5 hat5 hlt5) | (go_at_call 50; refine (rhalf _ _).mono ?_; rintro e w' ⟨rfl, rfl⟩))
        all_goals
          have hb5 : Below w.heap.size w w5 := (hb.alloc hb.size _).drew.grown hgrow5 (Nat.le_trans hb.size (by simp)) (fun y hy => (hown.lt y hy).1)
          rw [show Lib.byteCells acc ++ [.int .u8 ((a : Int) * 16 + (b : Int))] = Lib.byteCells (acc ++ [UInt8.ofNat (a * 16 + b)]) from by
            rw [Lib.byteCells_append]
            show _ = Lib.byteCells acc ++ [.int .u8 ((UInt8.ofNat (a * 16 + b)).toNat : Int)]
            rw [unhide HBH, show ((a * 16 + b : Nat) : Int) = (a : Int) * 16 + (b : Int) from by omega]] at hown5
          clear hgrow5 hown hb hat5 hlt5
          go_wp2
          go_roundw
          case rel => exact ⟨j + 2, k + 1, acc ++ [UInt8.ofNat (a * 16 + b)], by omega, by go_num, by have := unhide HJ; show _ = _; omega, by show _ = _; rw [List.length_append, unhide HAL]; rfl, by have := unhide HJ; omega, hown5, HST, hb5⟩
          case measure => simp [intOf]; omega
      · have hon := unh_stop _ acc _ _ _ hd hgood o (unhide hrest)
        subst hon
        clear hd hrest hown HJ HAL
        generalize hc0 : s[j]'(by omega) = c0 at hgood
        generalize hc1 : s[j + 1]'(by omega) = c1 at hgood
        have l0 := half_le c0
        have l1 := half_le c1
        obtain ⟨a, ha⟩ : ∃ a, half c0 = a := ⟨_, rfl⟩
        obtain ⟨b, hb0⟩ : ∃ b, half c1 = b := ⟨_, rfl⟩
        rw [ha, hb0] at hgood
        rw [ha] at l0
        rw [hb0] at l1
        by_cases ga : a < 16
        · have gb : 15 < b := by omega
          clear hgood
          go_wp2_with fail
          refine (rhalf c0 _).mono ?_
          rintro e w1 ⟨rfl, rfl⟩
          go_wp2_with fail
          refine (rhalf c1 _).mono ?_
          rintro e w2 ⟨rfl, rfl⟩
          go_wp2_with fail
          go_ret2
          exact ⟨rfl, hb⟩
        · have gb : 15 < a := by omega
          clear hgood
          go_wp2_with fail
          refine (rhalf c0 _).mono ?_
          rintro e w1 ⟨rfl, rfl⟩
          go_wp2_with fail
          go_ret2
          exact ⟨rfl, hb⟩
    · have hj := unhide HJ
      by_cases h1 : j + 1 = s.size
      · have hon := unh_odd _ acc _ (drop_one s j h1) o (unhide hrest)
        subst hon
        have hodd : (s.size : Int) % 2 = 1 := by omega
        have hodd2 : ((s.size : Int) % 2 == 1) = true := by rw [hodd]; rfl
        clear hrest hown HAL hj HJ hodd
        go_wp2
        go_ret2
        exact ⟨rfl, hb⟩
      · have hje : j = s.size := by omega
        have hoe := unh_end _ acc (by rw [hje]; exact List.drop_of_length_le (by rw [size_toList]; exact Nat.le_refl _)) o (unhide hrest)
        subst hoe
        have hev : ((s.size : Int) % 2 == 1) = false := by rw [show (s.size : Int) % 2 = 0 from by omega]; rfl
        have hcv := run_own_string acc (by rw [unhide HAL]; exact hown)
        have i5 : (s.size : Int) ≤ (j : Int) + 1 := by omega
        clear hown hrest hje HO hj HJ h1 h2 HAL
        go_wp2
        go_ret2
        exact ⟨rfl, hb⟩
end Go.Proofs.YtmpkeakbcojdeaaGreatDoor
