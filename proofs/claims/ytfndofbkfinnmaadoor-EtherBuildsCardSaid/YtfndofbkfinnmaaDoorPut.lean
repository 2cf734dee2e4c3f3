/-
  The contract of octets.Put: v's n bytes and OK, where n is 1 to 8 and v below 256 to the n; else no bytes and ErrArg; no cell that was there before has turned.
-/
import Derived.Test.YtfndofbkfinnmaaDoorOwn
import Derived.Test.YtfndofbkfinnmaaDoorInfo
namespace Go.Proofs.YtfndofbkfinnmaaDoor
open Go.RowKit

theorem byteOf (v k : Nat) : (v : Int) / 2 ^ (8 * k) % 256 = ((v / 256 ^ k % 256 : Nat) : Int) := by
  have e : (2 : Nat) ^ (8 * k) = 256 ^ k := by rw [Nat.pow_mul]
  rw [← e]; simp

theorem put_ok (v n : Nat) (w : World) (h1 : 1 ≤ n) (h2 : n ≤ 8) (hv : v < 256 ^ n) :
    Calls Tryd.prog 31 #[.int .u64 v, .int .i64 n] w fun e w' => e = .returned (.tuple #[.string (bs (be v n)), .int .i64 0]) ∧ Below w.heap.size w w' := by
  obtain ⟨i0, hi, hz0, hz1, hz2⟩ := info_parts info5
  have hmk : ∀ W : World, (Instr.makeSlice 60 (.int .i64 (n : Int)) (.int .i64 (n : Int))).run Tryd.prog W = .ok (.slice (some ⟨W.heap.size, 0, none⟩) n n) (W.alloc (.cells (madeCells #[.int .u8 0] n) 5)) := fun W => by
    have h := run_make (P := Tryd.prog) W 60 5 i0 (.int .u8 0) Tryd.underlying60 hi hz0 .i64 .i64 (n : Int) (n : Int) (by omega) (by omega) (by rw [hz2]; omega) (by omega)
    rw [hz1] at h
    simpa [Value.cells] using h
  have HV : Hid (v < 256 ^ n) := hv
  clear hv hi hz0 hz1 hz2
  go_enter Tryd.func31, Tryd.ntmps31
  go_wp2_with (go_at_call 41; refine (fits_ok v n _ h1 h2 HV.out).mono ?_; rintro e w' ⟨rfl, rfl⟩)
  go_loopw [19] (fun i wr => ∃ k : Nat, k ≤ n ∧ i = .int .i64 k ∧ wr.ownsRow w'.heap.size 5 1 (.slice (some ⟨w'.heap.size, 0, none⟩) n n) n (putCells v n k) ∧ Below w'.heap.size w' wr) (fun i _ => n - (intOf i).toNat)
  case atStart =>
    refine ⟨0, Nat.zero_le _, rfl, ?_, (Below.refl _ _).alloc (Nat.le_refl _) _⟩
    rw [putCells_start, ← toList_madeCells_one]
    exact World.ownsRow_lit w' _ n (Nat.le_refl _) (by unfold maxLen; omega) (by rw [size_madeCells, Nat.mul_one])
  case round =>
    obtain ⟨k, hk, rfl, hown, hb⟩ := hrel
    by_cases hlt : k < n
    · have hc : ∃ u, wr.cell? ⟨w'.heap.size, n - 1 - k, none⟩ = some u := by
        rw [hown.cellAt (n - 1 - k) (by omega)]
        exact ⟨_, List.getElem?_eq_getElem (by rw [putCells_length v n k hk]; omega)⟩
      obtain ⟨u, hc⟩ := hc
      have hf := hown.frozenAt (n - 1 - k)
      have hst := hown.stored (n - 1 - k) (.int .u8 ((v : Int) / 2 ^ (8 * k) % 256))
      rw [byteOf, putCells_step v n k hlt, ← byteOf] at hst
      have HST := hide hst
      clear hst hown
      go_wp2
      go_roundw
      case rel => exact ⟨k + 1, by omega, by go_num, (unhide HST).1, hb.grown (unhide HST).2 (Nat.le_trans (Nat.le_refl _) hb.size) (fun j hj => by cases hj; exact Nat.le_refl _)⟩
      case measure => simp [intOf]; omega
    · obtain rfl : k = n := by omega
      rw [putCells_end] at hown
      have hcv := run_own_string (w := wr) (be v k) (base := w'.heap.size) (v := .slice (some ⟨w'.heap.size, 0, none⟩) k k) (by rw [be_length]; exact hown)
      clear hown
      go_wp2
      go_ret2
      exact ⟨rfl, hb⟩

theorem put_wide (v n : Int) (w : World) (hg : Et w) (h : n < 1 ∨ 8 < n) :
    Calls Tryd.prog 31 #[.int .u64 v, .int .i64 n] w fun e w' => e = .returned (.tuple #[.string ByteArray.empty, .int .i64 1]) ∧ Below w.heap.size w w' := by
  go_enter Tryd.func31, Tryd.ntmps31
  go_wp2_with (first | (go_at_call 41; refine (fits_wide _ _ _ h).mono ?_; rintro e w' ⟨rfl, rfl⟩) | (go_at_call 42; refine (number_any _ _ _ hg).mono ?_; rintro e w' ⟨rfl, hb⟩))
  go_ret2
  exact ⟨rfl, by assumption⟩
theorem put_great (v n : Nat) (w : World) (hg : Et w) (h1 : 1 ≤ n) (h2 : n ≤ 8) (hv : 256 ^ n ≤ v) :
    Calls Tryd.prog 31 #[.int .u64 v, .int .i64 n] w fun e w' => e = .returned (.tuple #[.string ByteArray.empty, .int .i64 1]) ∧ Below w.heap.size w w' := by
  have HV : Hid (256 ^ n ≤ v) := hv
  clear hv
  go_enter Tryd.func31, Tryd.ntmps31
  go_wp2_with (first | (go_at_call 41; refine (fits_great _ _ _ h1 h2 HV.out).mono ?_; rintro e w' ⟨rfl, rfl⟩) | (go_at_call 42; refine (number_any _ _ _ hg).mono ?_; rintro e w' ⟨rfl, hb⟩))
  go_ret2
  exact ⟨rfl, by assumption⟩
end Go.Proofs.YtfndofbkfinnmaaDoor
