/-
  What csum's texts stand on: octets.Put where the number goes in its bytes, gangwayref01.Bytes, a part of a text, two calls in a row; no cell that was there before has turned.
-/
import Derived.Test.YtljhgehlaehgnaaGreatDoorProg
import Derived.WalkKit
import Derived.Outline
import Derived.Lib.BufferRead
import Derived.Laws.BitsAllLaws
import Derived.RowKitTokens
import Derived.Below
import Derived.Test.YtljhgehlaehgnaaGreatDoorPlains5
import Derived.Test.YtljhgehlaehgnaaGreatDoorKit10
namespace Go.Proofs.YtljhgehlaehgnaaGreatDoor
open Go.RowKit

theorem width_ok (n : Int) (w : World) (h1 : 1 ≤ n) (h2 : n ≤ 8) : Calls Tryz.prog 83 #[.int .i64 n] w fun e w' => e = .returned .nilIface ∧ w' = w := by
  go_enter Tryz.func83, Tryz.ntmps83
  go_wp2
  go_ret
  exact ⟨rfl, rfl⟩
theorem run_slice_string_lh {P : Program} (w : World) (t : TypeId) (s : ByteArray) (ht : P.underlying t = some .string) (kl kh : IntKind) (l h : Int) (h0 : 0 ≤ l) (h1 : l ≤ h) (h2 : h ≤ s.size) :
    (Instr.slice t (.string s) (some (.int kl l)) (some (.int kh h)) none).run P w = .ok (.string (s.extract l.toNat h.toNat)) w := by
  have eh : (h.toNat : Int) = h := Int.toNat_of_nonneg (by omega)
  simp [Instr.slice, run_underlying ht, Instr.sliceBounds, run_sliceBound, *, (by omega : 0 ≤ h)]
theorem shifted (v n : Nat) : ((v : Int) / 2 ^ (8 * n) != 0) = decide (256 ^ n ≤ v) := by
  have e : (2 : Nat) ^ (8 * n) = 256 ^ n := by rw [Nat.pow_mul]
  have e2 : (v : Int) / 2 ^ (8 * n) = ((v / 256 ^ n : Nat) : Int) := by rw [← e]; simp
  rw [e2, Bool.eq_iff_iff]
  simp only [bne_iff_ne, ne_eq, Int.natCast_eq_zero, decide_eq_true_eq]
  rw [Nat.div_eq_zero_iff]
  have : 0 < 256 ^ n := Nat.pow_pos (by omega)
  omega
theorem fits_ok (v n : Nat) (w : World) (h1 : 1 ≤ n) (h2 : n ≤ 8) (hv : v < 256 ^ n) : Calls Tryz.prog 87 #[.int .u64 v, .int .i64 n] w fun e w' => e = .returned .nilIface ∧ w' = w := by
  have hd : ((v : Int) / 2 ^ (8 * n) != 0) = false := by rw [shifted]; simpa using hv
  clear hv
  go_enter Tryz.func87, Tryz.ntmps87
  go_wp2_with (go_at_call 83; refine (width_ok _ _ (by omega) (by omega)).mono ?_; rintro e w' ⟨rfl, rfl⟩)
  go_ret
  exact ⟨rfl, rfl⟩
theorem info5 : (Tryz.prog.info? 5).map (fun i => (i.zero, i.size, i.bytes)) = some (some (.int .u8 0), 1, 1) := by kernel_rfl
theorem run_own_string {w : World} {base : Nat} {v : Value} (l : List UInt8) (h : w.ownsRow base 5 1 v l.length (Lib.byteCells l)) :
    (convert 132 9 v).run Tryz.prog w = .ok (.string (bs l)) w := by
  rcases h.2 with ⟨rfl, h0⟩ | ⟨g, cap, cur, rfl, _, hg, _, _, _, htake⟩
  · have hl : l = [] := List.eq_nil_of_length_eq_zero h0
    subst hl
    exact Lib.run_convert_nil_bytes w 132 9 5 0 Tryz.underlying132 Tryz.underlying5 Tryz.underlying9
  · have hc := Lib.bytes_of_row (l := l) hg (by simpa using htake)
    exact run_convert_bytes_back w 132 9 5 ⟨g, 0, none⟩ cap l Tryz.underlying132 Tryz.underlying5 Tryz.underlying9 hc
theorem be_cons (v k : Nat) : be v (k + 1) = UInt8.ofNat (v / 256 ^ k % 256) :: be v k := by
  induction k generalizing v with
  | zero => simp [be]
  | succ k ih =>
    have e : v / 256 / 256 ^ k = v / 256 ^ (k + 1) := by rw [Nat.div_div_eq_div_mul, Nat.pow_succ, Nat.mul_comm]
    rw [be, ih, e]
    rfl
/-- what Put's row holds after k rounds -/
def putCells (v n k : Nat) : List Value := List.replicate (n - k) (.int .u8 0) ++ Lib.byteCells (be v k)
theorem putCells_start (v n : Nat) : putCells v n 0 = List.replicate n (.int .u8 0) := by simp [putCells, be, Lib.byteCells]
theorem putCells_end (v n : Nat) : putCells v n n = Lib.byteCells (be v n) := by simp [putCells]
theorem putCells_length (v n k : Nat) (h : k ≤ n) : (putCells v n k).length = n := by simp [putCells, Lib.byteCells_length, be_length]; omega
theorem putCells_step (v n k : Nat) (h : k < n) : (putCells v n k).set (n - 1 - k) (.int .u8 ((v / 256 ^ k % 256 : Nat) : Int)) = putCells v n (k + 1) := by
  have e : n - k = (n - 1 - k) + 1 := by omega
  have e2 : n - (k + 1) = n - 1 - k := by omega
  unfold putCells
  rw [e, e2, List.replicate_succ', List.append_assoc, List.set_append_right _ _ (by simp), List.length_replicate, Nat.sub_self, be_cons]
  simp [Lib.byteCells]
theorem byteOf (v k : Nat) : (v : Int) / 2 ^ (8 * k) % 256 = ((v / 256 ^ k % 256 : Nat) : Int) := by
  have e : (2 : Nat) ^ (8 * k) = 256 ^ k := by rw [Nat.pow_mul]
  rw [← e]; simp
theorem put_ok (v n : Nat) (w : World) (h1 : 1 ≤ n) (h2 : n ≤ 8) (hv : v < 256 ^ n) :
    Calls Tryz.prog 80 #[.int .u64 v, .int .i64 n] w fun e w' => e = .returned (.tuple #[.string (bs (be v n)), .int .i64 0]) ∧ Below w.heap.size w w' := by
  obtain ⟨i0, hi, hz0, hz1, hz2⟩ := info_parts info5
  have hmk : ∀ W : World, (Instr.makeSlice 132 (.int .i64 (n : Int)) (.int .i64 (n : Int))).run Tryz.prog W = .ok (.slice (some ⟨W.heap.size, 0, none⟩) n n) (W.alloc (.cells (madeCells #[.int .u8 0] n) 5)) := fun W => by
    have h := run_make (P := Tryz.prog) W 132 5 i0 (.int .u8 0) Tryz.underlying132 hi hz0 .i64 .i64 (n : Int) (n : Int) (by omega) (by omega) (by rw [hz2]; omega) (by omega)
    rw [hz1] at h
    simpa [Value.cells] using h
  have HV : Hid (v < 256 ^ n) := hv
  clear hv hi hz0 hz1 hz2
  go_enter Tryz.func80, Tryz.ntmps80
  go_wp2_with (go_at_call 87; refine (fits_ok v n _ h1 h2 HV.out).mono ?_; rintro e w' ⟨rfl, rfl⟩)
  go_loopw [19] (fun i wr => ∃ k : Nat, k ≤ n ∧ i = .int .i64 k ∧ wr.ownsRow w'.heap.size 5 1 (.slice (some ⟨w'.heap.size, 0, none⟩) n n) n (putCells v n k) ∧ Below w'.heap.size w' wr) (fun i _ => n - (intOf i).toNat)
  case atStart =>
    refine ⟨0, Nat.zero_le _, rfl, ?_, (Below.refl _ _).alloc (Nat.le_refl _) _⟩
    rw [putCells_start, ← toList_madeCells_one]
    exact World.ownsRow_lit w' _ n (Nat.le_refl _) (by unfold maxLen; omega) (by rw [size_madeCells, Nat.mul_one])
  case round =>
    obtain ⟨k, hk, rfl, hown, hb⟩ := hrel
    by_cases hlt : k < n
    · have hc : ∃ u, wr.cell? ⟨w'.heap.size, n - 1 - k, none⟩ = some u := by
        rw [hown.cellAt (n - 1 - k) (by omega)]
        exact ⟨_, List.getElem?_eq_getElem (by rw [putCells_length v n k hk]; omega)⟩
      obtain ⟨u, hc⟩ := hc
      have hf := hown.frozenAt (n - 1 - k)
      have hst := hown.stored (n - 1 - k) (.int .u8 ((v : Int) / 2 ^ (8 * k) % 256))
      rw [byteOf, putCells_step v n k hlt, ← byteOf] at hst
      have HST := hide hst
      clear hst hown
      go_wp2
      go_roundw
      case rel => exact ⟨k + 1, by omega, by go_num, (unhide HST).1, hb.grown (unhide HST).2 (Nat.le_trans (Nat.le_refl _) hb.size) (fun j hj => by cases hj; exact Nat.le_refl _)⟩
      case measure => simp [intOf]; omega
    · obtain rfl : k = n := by omega
      rw [putCells_end] at hown
      have hcv := run_own_string (w := wr) (be v k) (base := w'.heap.size) (v := .slice (some ⟨w'.heap.size, 0, none⟩) k k) (by rw [be_length]; exact hown)
      clear hown
      go_wp2
      go_ret2
      exact ⟨rfl, hb⟩
theorem bs_append (a b : List UInt8) : bs a ++ bs b = bs (a ++ b) := by
  apply ByteArray.ext
  simp [bs]
theorem one_string (wr : World) (u : Nat) : (convert 132 9 (.slice (some ⟨wr.heap.size, 0, none⟩) 1 1)).run Tryz.prog (wr.alloc (.cells #[.int .u8 ((u : Int) % 256)] 5)) = .ok (.string (bs [UInt8.ofNat (u % 256)])) (wr.alloc (.cells #[.int .u8 ((u : Int) % 256)] 5)) := by
  refine run_own_string (base := wr.heap.size) [UInt8.ofNat (u % 256)] ?_
  have h := World.ownsRow_lit (base := wr.heap.size) (e := 5) (size := 1) wr #[.int .u8 ((u : Int) % 256)] 1 (Nat.le_refl _) (by decide) rfl
  have e : Lib.byteCells [UInt8.ofNat (u % 256)] = [Value.int .u8 ((u : Int) % 256)] := by
    simp only [Lib.byteCells, List.map_cons, List.map_nil]
    rw [UInt8.toNat_ofNat_of_lt' (by show _ < 256; omega)]
    simp
  rw [e]; exact h
theorem and_mask (x : Int) (m : Nat) (hm : m < 9223372036854775808) : ∃ r : Nat, bits BinOp.and IntKind.i64 x (m : Int) = (r : Int) ∧ r ≤ m := by
  refine ⟨(BitVec.ofInt 64 x &&& BitVec.ofInt 64 (m : Int)).toNat, ?_, ?_⟩
  · have h : (BitVec.ofInt 64 x &&& BitVec.ofInt 64 (m : Int)).toNat ≤ m := by
      rw [BitVec.toNat_and, BitVec.ofInt_natCast, BitVec.toNat_ofNat]
      exact Nat.le_trans Nat.and_le_right (Nat.mod_le _ _)
    show IntKind.i64.wrap ((BitVec.ofInt 64 x &&& BitVec.ofInt 64 (m : Int)).toNat : Int) = _
    rw [IntKind.wrap_i64]
    omega
  · rw [BitVec.toNat_and, BitVec.ofInt_natCast, BitVec.toNat_ofNat]
    exact Nat.le_trans Nat.and_le_right (Nat.mod_le _ _)
theorem extract_all (s : ByteArray) : s.extract 0 s.size = s := by
  apply ByteArray.ext
  rw [ByteArray.data_extract]
  exact Array.extract_size
end Go.Proofs.YtljhgehlaehgnaaGreatDoor

