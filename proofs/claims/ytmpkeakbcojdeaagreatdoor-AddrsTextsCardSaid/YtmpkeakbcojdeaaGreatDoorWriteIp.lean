/-
  The contracts of addrs.Ip, Group and Own; nothing that was there before has turned.
-/
import Derived.Test.YtmpkeakbcojdeaaGreatDoorWrite
namespace Go.Proofs.YtmpkeakbcojdeaaGreatDoor
open Go.RowKit

set_option maxRecDepth 20000 in
set_option maxHeartbeats 2000000 in
theorem ip_any (a : Nat) (w : World) (hw : St w) (ha : a < 4294967296) :
    Calls Tryz.prog 16 #[.int .u32 a] w fun e w' => e = .returned (.string (bs (ipT (be a 4)))) ∧ Below w.heap.size w w' := by
  obtain ⟨i0, hi, hz0, hz1, hz2⟩ := info_parts info9
  have hmk : ∀ W : World, (Instr.makeSlice 44 (.int .i64 4) (.int .i64 4)).run Tryz.prog W = .ok (.slice (some ⟨W.heap.size, 0, none⟩) 4 4) (W.alloc (.cells (madeCells #[.string ByteArray.empty] 4) 9)) := fun W => by
    have h := run_make (P := Tryz.prog) W 44 9 i0 (.string ByteArray.empty) Tryz.underlying44 hi hz0 .i64 .i64 4 4 (by omega) (by omega) (by rw [hz2]; omega) (by omega)
    rw [hz1] at h
    simpa [Value.cells] using h
  clear hi hz0 hz1 hz2
  have hp := put_ok a 4 w (by omega) (by omega) (by show _ < 4294967296; omega)
  have hl : (be a 4).length = 4 := be_length a 4
  generalize be a 4 = l at hp hl ⊢
  have HP := hide hp
  clear hp
  have hls : (bs l).size = 4 := by rw [bs_size, hl]
  go_enter Tryz.func16, Tryz.ntmps16
  go_wp2_with fail
  refine (unhide HP).mono ?_
  rintro e w1 ⟨rfl, b1⟩
  go_wp2_with fail
  go_loopw [14] (fun i wr => ∃ k : Nat, k ≤ 4 ∧ i = .int .i64 k ∧ wr.ownsRow w1.heap.size 9 1 (.slice (some ⟨w1.heap.size, 0, none⟩) 4 4) 4 (rowCells ten l k) ∧ Below w1.heap.size w1 wr) (fun i _ => 4 - (intOf i).toNat)
  case atStart =>
    refine ⟨0, Nat.zero_le _, rfl, ?_, (Below.refl _ _).alloc (Nat.le_refl _) _⟩
    rw [rowCells_start, hl, ← toList_madeCells_one]
    exact World.ownsRow_lit w1 _ 4 (Nat.le_refl _) (by unfold maxLen; omega) (by rw [size_madeCells, Nat.mul_one])
  case round =>
    obtain ⟨k, hk, rfl, hown, hb⟩ := hrel
    by_cases hlt : k < 4
    · have hkl : k < l.length := by omega
      have hix : ((bs l)[k]'(by omega)).toNat = (l[k]).toNat := rfl
      have hx8 : (l[k]).toNat < 256 := (l[k]).toNat_lt
      have hh := itoa_ok (l[k]).toNat wr (hw.next (b1.trans (hb.mono b1.size))) (l[k]).toNat_lt
      have HH := hide hh
      have hst := fun (w2 : World) (h : w2.ownsRow w1.heap.size 9 1 (.slice (some ⟨w1.heap.size, 0, none⟩) 4 4) 4 (rowCells ten l k)) => h.stored k (.string (bs (ten l[k])))
      rw [rowCells_step ten l k hkl] at hst
      have hcl : ∀ w2 : World, w2.ownsRow w1.heap.size 9 1 (.slice (some ⟨w1.heap.size, 0, none⟩) 4 4) 4 (rowCells ten l k) → ∃ u, w2.cell? ⟨w1.heap.size, k, none⟩ = some u := fun w2 h => by
        rw [h.cellAt k (by omega)]
        exact ⟨_, List.getElem?_eq_getElem (by rw [rowCells_length ten l k (by omega)]; omega)⟩
      have HST := hide hst
      have HCL := hide hcl
      clear hst hh hcl
      rw [show Lib.decDigits (l[k]).toNat = ten l[k] from rfl] at HH
      generalize bs (ten l[k]) = B at HH HST
      generalize (l[k]).toNat = x at HH hix hx8
      go_wp2_with fail
      refine (unhide HH).mono ?_
      rintro e w2 ⟨rfl, hb2⟩
      have hown2 := ownsRow_below hown hb2
      obtain ⟨u, hc⟩ := unhide HCL w2 hown2
      have hf := hown2.frozenAt k
      have h2 := hide (unhide HST w2 hown2)
      clear hown hown2
      have hb3 := hb.trans (hb2.mono hb.size)
      go_wp2_with fail
      go_roundw
      case rel => exact ⟨k + 1, by omega, by go_num, (unhide h2).1, hb3.grown (unhide h2).2 (Nat.le_trans (Nat.le_refl _) hb3.size) (fun j hj => by cases hj; exact Nat.le_refl _)⟩
      case measure => simp [intOf]; omega
    · obtain rfl : k = 4 := by omega
      have hcells : ∀ j (hj : j < l.length), wr.cell? ⟨w1.heap.size, j, none⟩ = some (.string (bs (ten l[j]))) := fun j hj => by
        rw [hown.cellAt j (by omega), ← hl, rowCells_end]
        simp [List.getElem?_eq_getElem hj]
      have hbk : w1.heap.size < wr.heap.size := by
        have := hcells 0 (by omega)
        exact block_lt_of_cell this
      have hj := join_of w1.heap.size 4 l ten 46 wr hcells hbk (by omega) (by omega) ten_length
      rw [hl] at hj
      have HJ := hide hj
      clear hj hown hcells
      go_wp2_with fail
      refine (unhide HJ).mono ?_
      rintro e w2 ⟨rfl, hb2⟩
      go_wp2_with fail
      go_ret
      exact ⟨rfl, bthen (b1.trans (hb.mono b1.size)) hb2⟩

/-- a MAC address is many's -/
def grp (m : Nat) : Bool := decide (m / 1099511627776 % 2 = 1)
theorem low_bit (m : Nat) (hm : m < 18446744073709551616) : bits BinOp.and IntKind.u64 ((m : Int) / 1099511627776) 1 = ((m / 1099511627776 % 2 : Nat) : Int) := by
  rw [show (m : Int) / 1099511627776 = ((m / 1099511627776 : Nat) : Int) by simp, show (1 : Int) = ((1 : Nat) : Int) from rfl, u64_and_nat _ _ (by omega) (by omega)]
  rw [show (1 : Nat) = 2 ^ 1 - 1 from rfl, Nat.and_two_pow_sub_one_eq_mod]
theorem group_any (m : Nat) (w : World) (hm : m < 18446744073709551616) :
    Calls Tryz.prog 18 #[.int .u64 m] w fun e w' => e = .returned (.bool (grp m)) ∧ w' = w := by
  have h := low_bit m hm
  go_enter Tryz.func18, Tryz.ntmps18
  go_wp2
  go_ret
  refine ⟨?_, rfl⟩
  show Ending.returned (Value.bool ((m : Int) / 1099511627776 % 2 == 1)) = _
  rw [show (m : Int) / 1099511627776 % 2 = ((m / 1099511627776 % 2 : Nat) : Int) by simp, show (((m / 1099511627776 % 2 : Nat) : Int) == 1) = decide (m / 1099511627776 % 2 = 1) from int_beq _ 1]
  rfl
/-- a host may have it -/
def ownH (m : Nat) : Bool := decide (m < 281474976710656) && !grp m && decide (m ≠ 0)
theorem own_any (m : Nat) (w : World) (hm : m < 18446744073709551616) :
    Calls Tryz.prog 20 #[.int .u64 m] w fun e w' => e = .returned (.bool (ownH m)) ∧ w' = w := by
  have hg := hide (group_any m w hm)
  clear hm
  unfold ownH
  generalize grp m = g at hg ⊢
  by_cases h : (m : Int) < 281474976710656
  · have hd : decide ((m : Int) < 281474976710656) = true := decide_eq_true h
    rw [decide_eq_true (show m < 281474976710656 by omega)]
    clear h
    cases g
    · by_cases h0 : m = 0
      · subst h0
        go_enter Tryz.func20, Tryz.ntmps20
        go_wp2_with fail
        refine (unhide hg).mono ?_
        rintro e w1 ⟨rfl, rfl⟩
        go_wp2_with fail
        go_ret
        exact ⟨rfl, rfl⟩
      · have h1 : ((m : Int) != 0) = true := by rw [bne_iff_ne]; omega
        rw [decide_eq_true h0]
        go_enter Tryz.func20, Tryz.ntmps20
        go_wp2_with fail
        refine (unhide hg).mono ?_
        rintro e w1 ⟨rfl, rfl⟩
        go_wp2_with fail
        go_ret
        exact ⟨rfl, rfl⟩
    · rw [show (true && !true && decide (m ≠ 0)) = false from rfl]
      go_enter Tryz.func20, Tryz.ntmps20
      go_wp2_with fail
      refine (unhide hg).mono ?_
      rintro e w1 ⟨rfl, rfl⟩
      go_wp2_with fail
      go_ret
      exact ⟨rfl, rfl⟩
  · have hd : decide ((m : Int) < 281474976710656) = false := decide_eq_false h
    rw [decide_eq_false (show ¬ m < 281474976710656 by omega), Bool.false_and, Bool.false_and]
    go_enter Tryz.func20, Tryz.ntmps20
    go_wp2_with fail
    go_ret
    exact ⟨rfl, rfl⟩
end Go.Proofs.YtmpkeakbcojdeaaGreatDoor
