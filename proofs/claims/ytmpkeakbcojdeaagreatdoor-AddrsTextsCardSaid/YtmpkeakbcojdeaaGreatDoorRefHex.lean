/-
  The document's answer for Hex: the contracts of gangwayref01's digit and Hex.
-/
import Derived.Test.YtmpkeakbcojdeaaGreatDoorUnhex
namespace Go.Proofs.YtmpkeakbcojdeaaGreatDoor
open Go.RowKit

theorem hexd_low (n : Nat) (h : n < 10) : ((hexd n).toNat : Int) = 48 + (n : Int) := by
  unfold hexd
  rw [if_pos h, UInt8.toNat_ofNat_of_lt' (by show _ < 256; omega)]
  omega
theorem hexd_high (n : Nat) (h : ¬ n < 10) (h2 : n < 16) : ((hexd n).toNat : Int) = 87 + (n : Int) := by
  unfold hexd
  rw [if_neg h, UInt8.toNat_ofNat_of_lt' (by show _ < 256; omega)]
  omega
theorem rdigit (x : Int) (n : Nat) (hx : x = (n : Int)) (hn : n < 16) (w : World) : Calls Tryz.prog 57 #[.int .u8 x] w fun e w' => e = .returned (.int .u8 ((hexd n).toNat : Int)) ∧ w' = w := by
  subst hx
  by_cases h : n < 10
  · rw [hexd_low n h]
    go_enter Tryz.func57, Tryz.ntmps57
    go_wp2
    go_ret
    exact ⟨rfl, rfl⟩
  · rw [hexd_high n h hn]
    go_enter Tryz.func57, Tryz.ntmps57
    go_wp2
    go_ret
    exact ⟨rfl, rfl⟩

set_option maxRecDepth 20000 in
set_option maxHeartbeats 2000000 in
theorem rhex_any (s : ByteArray) (w : World) (hs : s.size ≤ 1000) :
    Calls Tryz.prog 40 #[.string s] w fun e w' => e = .returned (.string (bs (hexs s.data.toList))) ∧ Below w.heap.size w w' := by
  obtain ⟨i0, hi, hz0, hz1, hz2⟩ := info_parts info5
  go_enter Tryz.func40, Tryz.ntmps40
  go_wp2
  go_loopw [3, 4] (fun v i wr => ∃ k : Nat, k ≤ s.size ∧ i = .int .i64 k ∧ wr.ownsRow w.heap.size 5 1 v (2 * k) (Lib.byteCells (hexs (s.data.toList.take k))) ∧ Below w.heap.size w wr) (fun _ i _ => s.size - (intOf i).toNat)
  case atStart =>
    refine ⟨0, Nat.zero_le _, rfl, ?_, (Below.refl _ _).alloc (Nat.le_refl _) _⟩
    exact World.ownsRow_lit w _ 0 (Nat.le_refl _) (by decide) rfl
  case round =>
    obtain ⟨k, hk, rfl, hown, hb⟩ := hrel
    by_cases hlt : k < s.size
    · have hlt' : (k : Int) < (s.size : Int) := by omega
      have hc := (s[k]'hlt).toNat_lt
      have hsn := hexs_snoc (s.data.toList.take k) (s[k]'hlt)
      rw [← take_snoc s k hlt] at hsn
      generalize hcs : s[k]'hlt = c at hc hsn
      have D1 := hide (rdigit ((c.toNat : Int) / 16) (c.toNat / 16) (by omega) (by omega))
      have D2 := hide (rdigit ((c.toNat : Int) % 16) (c.toNat % 16) (by omega) (by omega))
      generalize hexd (c.toNat / 16) = d1 at D1 hsn
      generalize hexd (c.toNat % 16) = d2 at D2 hsn
      have HL : Hid (Lib.byteCells (hexs (s.data.toList.take (k + 1))) = Lib.byteCells (hexs (s.data.toList.take k)) ++ [.int .u8 d1.toNat] ++ [.int .u8 d2.toNat]) := by
        show _ = _
        rw [hsn, Lib.byteCells_append, List.append_assoc]; rfl
      clear hsn
      generalize Lib.byteCells (hexs (s.data.toList.take k)) = L at hown HL
      go_wp2_with fail
      refine (unhide D1 _).mono ?_
      rintro e w1 ⟨rfl, rfl⟩
      go_wp2_with (at_builtin; refine wpList_append_own _ rfl (.tmp 12) (.tmp 18) 62 rfl w.heap.size 5 i0 (.int .u8 0) 1 1 Tryz.underlying62 hi hz0 hz1 hz2 rfl (by decide) u3 (2 * k) L rfl (hown.alloc _) ⟨w1.heap.size, 0, none⟩ 1 1 [.int .u8 d1.toNat] rfl rfl (one_new w1 _) (by intro u hu; simp at hu; subst hu; rfl) (by unfold maxLen; omega) (by omega) (by have := hb.size; simp; omega) ?_; intro v2 w2 hown2 hgrow2 _)
      have hb2 : Below w.heap.size w w2 := (hb.alloc hb.size _).grown hgrow2 (Nat.le_trans hb.size (by simp)) (fun j hj => (hown.lt j hj).1)
      clear hown hgrow2 hb
      refine (unhide D2 _).mono ?_
      rintro e w3 ⟨rfl, rfl⟩
      go_wp2_with (at_builtin; refine wpList_append_own _ rfl (.tmp 20) (.tmp 26) 62 rfl w.heap.size 5 i0 (.int .u8 0) 1 1 Tryz.underlying62 hi hz0 hz1 hz2 rfl (by decide) v2 (2 * k + 1) (L ++ [.int .u8 d1.toNat]) rfl (hown2.alloc _) ⟨w3.heap.size, 0, none⟩ 1 1 [.int .u8 d2.toNat] rfl rfl (one_new w3 _) (by intro u hu; simp at hu; subst hu; rfl) (by unfold maxLen; omega) (by omega) (by have := hb2.size; simp; omega) ?_; intro v4 w4 hown4 hgrow4 _)
      have hb4 : Below w.heap.size w w4 := (hb2.alloc hb2.size _).grown hgrow4 (Nat.le_trans hb2.size (by simp)) (fun j hj => (hown2.lt j hj).1)
      rw [← HL.out] at hown4
      clear hown2 hgrow4 hb2
      go_wp2
      go_roundw
      case rel => exact ⟨k + 1, by omega, by go_num, hown4, hb4⟩
      case measure => simp [intOf]; omega
    · obtain rfl : k = s.size := by omega
      have hkn : s.data.toList.take s.size = s.data.toList := List.take_of_length_le (by rw [size_toList]; exact Nat.le_refl _)
      rw [hkn] at hown
      have hcv := run_own_string (hexs s.data.toList) (by rw [hexs_length, size_toList]; exact hown)
      clear hown hkn
      go_wp2
      go_ret
      exact ⟨rfl, hb⟩
end Go.Proofs.YtmpkeakbcojdeaaGreatDoor
