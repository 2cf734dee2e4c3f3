/-
  The contracts of octets.piece (where there are the bytes) and octets.fits.
-/
import Derived.Test.YtfndofbkfinnmaaDoorLeaf
import Derived.Test.YtfndofbkfinnmaaDoorPlain
namespace Go.Proofs.YtfndofbkfinnmaaDoor
open Go.RowKit

theorem run_slice_string_lh {P : Program} (w : World) (t : TypeId) (s : ByteArray) (ht : P.underlying t = some .string) (kl kh : IntKind) (l h : Int) (h0 : 0 ≤ l) (h1 : l ≤ h) (h2 : h ≤ s.size) :
    (Instr.slice t (.string s) (some (.int kl l)) (some (.int kh h)) none).run P w = .ok (.string (s.extract l.toNat h.toNat)) w := by
  have eh : (h.toNat : Int) = h := Int.toNat_of_nonneg (by omega)
  simp [Instr.slice, run_underlying ht, Instr.sliceBounds, run_sliceBound, *, (by omega : 0 ≤ h)]

set_option maxRecDepth 20000 in
theorem piece_ok (s : ByteArray) (a n : Nat) (w : World) (hs : s.size ≤ maxLen) (h : a + n ≤ s.size) :
    Calls Tryd.prog 49 #[.string s, .int .i64 a, .int .i64 n] w fun e w' => e = .returned (.tuple #[.string (s.extract a (a + n)), .nilIface]) ∧ w' = w := by
  unfold maxLen at hs
  have hsl := run_slice_string_lh (P := Tryd.prog) w 9 s Tryd.underlying9 .i64 .i64 (a : Int) ((a : Int) + (n : Int)) (by omega) (by omega) (by omega)
  rw [show ((a : Int) + (n : Int)).toNat = a + n from by omega, show (a : Int).toNat = a from by omega] at hsl
  go_enter Tryd.func49, Tryd.ntmps49
  go_wp2
  go_ret2
  exact ⟨rfl, rfl⟩

theorem fits_wide (v n : Int) (w : World) (h : n < 1 ∨ 8 < n) : Calls Tryd.prog 41 #[.int .u64 v, .int .i64 n] w fun e w' => e = .returned (.iface 104 (.agg #[.int .i64 n, .int .i64 1])) ∧ w' = w := by
  go_enter Tryd.func41, Tryd.ntmps41
  go_wp2_with (go_at_call 48; refine (width_bad _ _ h).mono ?_; rintro e w' ⟨rfl, rfl⟩)
  go_ret
  exact ⟨rfl, rfl⟩
theorem shifted (v n : Nat) : ((v : Int) / 2 ^ (8 * n) != 0) = decide (256 ^ n ≤ v) := by
  have e : (2 : Nat) ^ (8 * n) = 256 ^ n := by rw [Nat.pow_mul]
  have e2 : (v : Int) / 2 ^ (8 * n) = ((v / 256 ^ n : Nat) : Int) := by rw [← e]; simp
  rw [e2, Bool.eq_iff_iff]
  simp only [bne_iff_ne, ne_eq, Int.natCast_eq_zero, decide_eq_true_eq]
  rw [Nat.div_eq_zero_iff]
  have : 0 < 256 ^ n := Nat.pow_pos (by omega)
  omega
theorem fits_ok (v n : Nat) (w : World) (h1 : 1 ≤ n) (h2 : n ≤ 8) (hv : v < 256 ^ n) : Calls Tryd.prog 41 #[.int .u64 v, .int .i64 n] w fun e w' => e = .returned .nilIface ∧ w' = w := by
  have hd : ((v : Int) / 2 ^ (8 * n) != 0) = false := by rw [shifted]; simpa using hv
  clear hv
  go_enter Tryd.func41, Tryd.ntmps41
  go_wp2_with (go_at_call 48; refine (width_ok _ _ (by omega) (by omega)).mono ?_; rintro e w' ⟨rfl, rfl⟩)
  go_ret
  exact ⟨rfl, rfl⟩
theorem fits_great (v n : Nat) (w : World) (h1 : 1 ≤ n) (h2 : n ≤ 8) (hv : 256 ^ n ≤ v) : Calls Tryd.prog 41 #[.int .u64 v, .int .i64 n] w fun e w' => e = .returned (.iface 104 (.agg #[.int .i64 n, .int .i64 1])) ∧ w' = w := by
  have hd : ((v : Int) / 2 ^ (8 * n) != 0) = true := by rw [shifted]; simpa using hv
  clear hv
  go_enter Tryd.func41, Tryd.ntmps41
  go_wp2_with (go_at_call 48; refine (width_ok _ _ (by omega) (by omega)).mono ?_; rintro e w' ⟨rfl, rfl⟩)
  go_ret
  exact ⟨rfl, rfl⟩
end Go.Proofs.YtfndofbkfinnmaaDoor
