/-
  The contracts of strings.Clone and octets.Cut: the bytes as they were; no cell that was there before has turned.
-/
import Derived.Test.YtfndofbkfinnmaaDoorInfo
import Derived.Test.YtfndofbkfinnmaaDoorShelf
namespace Go.Proofs.YtfndofbkfinnmaaDoor
open Go.RowKit

theorem sclone_any (s : ByteArray) (w : World) (hlim : s.size ≤ 281474976710656) :
    Calls Tryd.prog 50 #[.string s] w fun e w' => e = .returned (.string s) ∧ Below w.heap.size w w' := by
  go_enter Tryd.func50, Tryd.ntmps50
  go_wp2_with (go_at_call 51; refine (clone_any s _ hlim).mono ?_; rintro e w' ⟨rfl, hb⟩)
  go_ret
  exact ⟨rfl, by assumption⟩

theorem cut_ok (s : ByteArray) (a n : Nat) (w : World) (hs : s.size ≤ 281474976710656) (h : a + n ≤ s.size) :
    Calls Tryd.prog 45 #[.string s, .int .i64 a, .int .i64 n] w fun e w' => e = .returned (.tuple #[.string (s.extract a (a + n)), .int .i64 0]) ∧ Below w.heap.size w w' := by
  have hm : s.size ≤ maxLen := by unfold maxLen; omega
  have hp : (s.extract a (a + n)).size ≤ 281474976710656 := by rw [ByteArray.size_extract]; omega
  go_enter Tryd.func45, Tryd.ntmps45
  go_wp2_with (first | (go_at_call 49; refine (piece_ok s a n _ hm h).mono ?_; rintro e w' ⟨rfl, rfl⟩) | (go_at_call 50; refine (sclone_any _ _ hp).mono ?_; rintro e w' ⟨rfl, hb⟩))
  go_ret2
  exact ⟨rfl, by assumption⟩
theorem cut_arg (s : ByteArray) (a n : Int) (w : World) (hg : Et w) (h : a < 0 ∨ n < 0) :
    Calls Tryd.prog 45 #[.string s, .int .i64 a, .int .i64 n] w fun e w' => e = .returned (.tuple #[.string ByteArray.empty, .int .i64 1]) ∧ Below w.heap.size w w' := by
  go_enter Tryd.func45, Tryd.ntmps45
  go_wp2_with (first | (go_at_call 49; refine (piece_arg s a n _ h).mono ?_; rintro e w' ⟨rfl, rfl⟩) | (go_at_call 42; refine (number_any _ _ _ hg).mono ?_; rintro e w' ⟨rfl, hb⟩))
  go_ret2
  exact ⟨rfl, by assumption⟩
theorem cut_short (s : ByteArray) (a n : Int) (w : World) (hg : Et w) (hs : s.size ≤ maxLen) (h0 : 0 ≤ a) (hn : 0 ≤ n) (ha : a ≤ 9223372036854775807) (h : (s.size : Int) - a < n) :
    Calls Tryd.prog 45 #[.string s, .int .i64 a, .int .i64 n] w fun e w' => e = .returned (.tuple #[.string ByteArray.empty, .int .i64 10]) ∧ Below w.heap.size w w' := by
  go_enter Tryd.func45, Tryd.ntmps45
  go_wp2_with (first | (go_at_call 49; refine (piece_short s a n _ hs h0 hn ha h).mono ?_; rintro e w' ⟨rfl, rfl⟩) | (go_at_call 42; refine (number_any _ _ _ hg).mono ?_; rintro e w' ⟨rfl, hb⟩))
  go_ret2
  exact ⟨rfl, by assumption⟩
end Go.Proofs.YtfndofbkfinnmaaDoor
