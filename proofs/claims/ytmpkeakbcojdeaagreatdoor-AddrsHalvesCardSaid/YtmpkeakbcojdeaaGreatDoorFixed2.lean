/-
  gangwaylaw02.fixed answers true: the calls whose answers the document fixes.
-/
import Derived.Test.YtmpkeakbcojdeaaGreatDoorWriteIp
namespace Go.Proofs.YtmpkeakbcojdeaaGreatDoor
open Go.RowKit

/-- tenOf, for Lean's kernel to reckon -/
def tenK (p : List UInt8) : Option UInt8 := match Lib.parseUintB 8 p with
  | .ok v => if tens v = p then some (UInt8.ofNat v) else none
  | _ => none
theorem tenOf_k : tenOf = tenK := by
  funext p
  unfold tenOf tenK
  cases hv : Lib.parseUintB 8 p
  · rename_i v
    simp only [dec_tens v (by have := parse_le p v hv; omega)]
  · rfl
  · rfl
theorem ipR_k (s : List UInt8) : ipR s = readAll 46 4 tenK s := by rw [ipR, tenOf_k]
theorem ipT_k (l : List UInt8) : ipT l = Lib.join (l.map fun c => tens c.toNat) [46] := by
  rw [ipT, show (fun c : UInt8 => tens c.toNat) = ten from funext fun c => (ten_tens c).symm]
theorem fx_mac1 (w : World) (hw : St w) : Calls Tryz.prog 9 #[.string ⟨#[48, 49, 58, 56, 48, 58, 99, 50, 58, 48, 48, 58, 48, 48, 58, 48, 48]⟩] w fun e w' => e = .returned (.tuple #[.int .u64 1652522221568, .int .i64 0]) ∧ Below w.heap.size w w' := by
  have h := readMac_any ⟨#[48, 49, 58, 56, 48, 58, 99, 50, 58, 48, 48, 58, 48, 48, 58, 48, 48]⟩ w hw (by decide)
  have e : macR [48, 49, 58, 56, 48, 58, 99, 50, 58, 48, 48, 58, 48, 48, 58, 48, 48] = some [1, 128, 194, 0, 0, 0] := by decide +kernel
  rw [e] at h; exact h
theorem fx_mac2 (w : World) (hw : St w) : Calls Tryz.prog 9 #[.string ⟨#[48, 49, 58, 56, 48, 58, 67, 50, 58, 48, 48, 58, 48, 48, 58, 48, 48]⟩] w fun e w' => e = .returned (.tuple #[.int .u64 0, .int .i64 20]) ∧ Below w.heap.size w w' := by
  have h := readMac_any ⟨#[48, 49, 58, 56, 48, 58, 67, 50, 58, 48, 48, 58, 48, 48, 58, 48, 48]⟩ w hw (by decide)
  have e : macR [48, 49, 58, 56, 48, 58, 67, 50, 58, 48, 48, 58, 48, 48, 58, 48, 48] = none := by decide +kernel
  rw [e] at h; exact h
theorem fx_ip1 (w : World) (hw : St w) : Calls Tryz.prog 11 #[.string ⟨#[49, 48, 46, 48, 46, 49, 46, 50]⟩] w fun e w' => e = .returned (.tuple #[.int .u32 167772418, .int .i64 0]) ∧ Below w.heap.size w w' := by
  have h := readIp_any ⟨#[49, 48, 46, 48, 46, 49, 46, 50]⟩ w hw (by decide)
  have e : readAll 46 4 tenK [49, 48, 46, 48, 46, 49, 46, 50] = some [10, 0, 1, 2] := by decide +kernel
  rw [ipR_k, e] at h; exact h
theorem fx_ip2 (w : World) (hw : St w) : Calls Tryz.prog 11 #[.string ⟨#[49, 48, 46, 48, 46, 48, 49, 46, 50]⟩] w fun e w' => e = .returned (.tuple #[.int .u32 0, .int .i64 20]) ∧ Below w.heap.size w w' := by
  have h := readIp_any ⟨#[49, 48, 46, 48, 46, 48, 49, 46, 50]⟩ w hw (by decide)
  have e : readAll 46 4 tenK [49, 48, 46, 48, 46, 48, 49, 46, 50] = none := by decide +kernel
  rw [ipR_k, e] at h; exact h
theorem fx_mac (w : World) : Calls Tryz.prog 14 #[.int .u64 1652522221568] w fun e w' => e = .returned (.string ⟨#[48, 49, 58, 56, 48, 58, 99, 50, 58, 48, 48, 58, 48, 48, 58, 48, 48]⟩) ∧ Below w.heap.size w w' := by
  have h := mac_any 1652522221568 w (by omega)
  have e : bs (macT (be 1652522221568 6)) = ⟨#[48, 49, 58, 56, 48, 58, 99, 50, 58, 48, 48, 58, 48, 48, 58, 48, 48]⟩ := by decide +kernel
  rw [e] at h; exact h
theorem fx_ip (w : World) (hw : St w) : Calls Tryz.prog 16 #[.int .u32 167772418] w fun e w' => e = .returned (.string ⟨#[49, 48, 46, 48, 46, 49, 46, 50]⟩) ∧ Below w.heap.size w w' := by
  have h := ip_any 167772418 w hw (by omega)
  have e : bs (Lib.join ((be 167772418 4).map fun c => tens c.toNat) [46]) = ⟨#[49, 48, 46, 48, 46, 49, 46, 50]⟩ := by decide +kernel
  rw [ipT_k, e] at h; exact h
theorem fx_group (w : World) : Calls Tryz.prog 18 #[.int .u64 1652522221568] w fun e w' => e = .returned (.bool true) ∧ w' = w := by
  have h := group_any 1652522221568 w (by omega)
  have e : grp 1652522221568 = true := by decide +kernel
  rw [e] at h; exact h
theorem fx_own (w : World) : Calls Tryz.prog 20 #[.int .u64 1652522221568] w fun e w' => e = .returned (.bool false) ∧ w' = w := by
  have h := own_any 1652522221568 w (by omega)
  have e : ownH 1652522221568 = false := by decide +kernel
  rw [e] at h; exact h
theorem fx_own2 (w : World) : Calls Tryz.prog 20 #[.int .u64 2] w fun e w' => e = .returned (.bool true) ∧ w' = w := by
  have h := own_any 2 w (by omega)
  have e : ownH 2 = true := by decide +kernel
  rw [e] at h; exact h
theorem fx_in (w : World) : Calls Tryz.prog 24 #[.agg #[.int .u32 167772160, .int .i64 8], .int .u32 167772418] w fun e w' => e = .returned (.bool true) ∧ Below w.heap.size w w' := by
  have h := in_any 167772160 8 167772418 w (by omega) (by omega)
  have e : decide (InNet 167772160 8 167772418) = true := by decide +kernel
  rw [e] at h; exact h
theorem fx_last (w : World) : Calls Tryz.prog 26 #[.agg #[.int .u32 167772160, .int .i64 8]] w fun e w' => e = .returned (.int .u32 184549375) ∧ Below w.heap.size w w' := by
  have h := last_any 167772160 8 w (by omega)
  have e : lastOf 167772160 8 = 184549375 := by decide +kernel
  rw [e] at h; exact h
theorem fx_net (w : World) : Calls Tryz.prog 22 #[.agg #[.int .u32 1, .int .i64 8]] w fun e w' => e = .returned (.bool false) ∧ Below w.heap.size w w' := by
  have h := net_any 1 8 w (by omega)
  have e : decide (IsNet 1 8) = false := by decide +kernel
  rw [e] at h; exact h
theorem fx_near (w : World) : Calls Tryz.prog 28 #[.agg #[.int .u32 167772160, .int .i64 8], .agg #[.int .u32 0, .int .i64 0]] w fun e w' => e = .returned (.bool true) ∧ Below w.heap.size w w' := by
  have h := near_any 167772160 8 0 0 w (by omega) (by omega)
  have e : decide (NearNet 167772160 8 0 0) = true := by decide +kernel
  rw [e] at h; exact h

set_option maxRecDepth 20000 in
set_option maxHeartbeats 4000000 in
theorem fixed_any (w : World) (hw : St w) : Calls Tryz.prog 13 #[] w fun e w' => e = .returned (.bool true) ∧ Below w.heap.size w w' := by
  go_enter Tryz.func13, Tryz.ntmps13
  go_wp2_with fail
  refine (fx_mac1 _ hw).mono ?_
  rintro e w1 ⟨rfl, b1⟩
  go_wp2_with fail
  refine (fx_ip1 _ (hw.next b1)).mono ?_
  rintro e w2 ⟨rfl, b2⟩
  have c2 := bthen b1 b2
  clear b1 b2
  go_wp2_with fail
  refine (fx_mac2 _ (hw.next c2)).mono ?_
  rintro e w3 ⟨rfl, b3⟩
  have c3 := bthen c2 b3
  clear c2 b3
  go_wp2_with fail
  refine (fx_ip2 _ (hw.next c3)).mono ?_
  rintro e w4 ⟨rfl, b4⟩
  have c4 := bthen c3 b4
  clear c3 b4
  go_wp2_with fail
  refine (fx_mac _).mono ?_
  rintro e w5 ⟨rfl, b5⟩
  have k0 := (b5.cell (p := ⟨w4.heap.size, 0, none⟩) (by simp)).trans (show _ = some (Value.int .u32 167772160) by simp)
  have k1 := (b5.cell (p := ⟨w4.heap.size, 1, none⟩) (by simp)).trans (show _ = some (Value.int .i64 8) by simp)
  have hlt : w4.heap.size < w5.heap.size := block_lt_of_cell k0
  have c5 := bthen c4 (box_then b5)
  clear c4 b5
  go_wp2_with fail
  refine (fx_ip _ (hw.next c5)).mono ?_
  rintro e w6 ⟨rfl, b6⟩
  replace k0 := (b6.cell (p := ⟨w4.heap.size, 0, none⟩) hlt).trans k0
  replace k1 := (b6.cell (p := ⟨w4.heap.size, 1, none⟩) hlt).trans k1
  have c6 := bthen c5 b6
  have hlt6 : w4.heap.size < w6.heap.size := block_lt_of_cell k0
  clear c5 b6 hlt
  go_wp2_with fail
  refine (fx_group _).mono ?_
  rintro e w7 ⟨rfl, rfl⟩
  go_wp2_with fail
  refine (fx_own _).mono ?_
  rintro e w8 ⟨rfl, rfl⟩
  go_wp2_with fail
  refine (fx_own2 _).mono ?_
  rintro e w9 ⟨rfl, rfl⟩
  go_wp2_with fail
  refine (fx_in _).mono ?_
  rintro e w10 ⟨rfl, b10⟩
  replace k0 := (b10.cell (p := ⟨w4.heap.size, 0, none⟩) hlt6).trans k0
  replace k1 := (b10.cell (p := ⟨w4.heap.size, 1, none⟩) hlt6).trans k1
  have c10 := bthen c6 b10
  have hlt10 : w4.heap.size < w10.heap.size := block_lt_of_cell k0
  clear c6 b10 hlt6
  go_wp2_with fail
  refine (fx_last _).mono ?_
  rintro e w11 ⟨rfl, b11⟩
  replace k0 := (b11.cell (p := ⟨w4.heap.size, 0, none⟩) hlt10).trans k0
  replace k1 := (b11.cell (p := ⟨w4.heap.size, 1, none⟩) hlt10).trans k1
  have c11 := bthen c10 b11
  have hlt11 : w4.heap.size < w11.heap.size := block_lt_of_cell k0
  clear c10 b11 hlt10
  go_wp2_with fail
  refine (fx_net _).mono ?_
  rintro e w12 ⟨rfl, b12⟩
  replace k0 := (b12.cell (p := ⟨w4.heap.size, 0, none⟩) hlt11).trans k0
  replace k1 := (b12.cell (p := ⟨w4.heap.size, 1, none⟩) hlt11).trans k1
  have c12 := bthen c11 b12
  clear c11 b12 hlt11
  go_wp2_with fail
  refine (fx_near _).mono ?_
  rintro e w13 ⟨rfl, b13⟩
  have c13 := bthen c12 b13
  go_wp2_with fail
  go_ret
  exact ⟨rfl, c13⟩
end Go.Proofs.YtmpkeakbcojdeaaGreatDoor
