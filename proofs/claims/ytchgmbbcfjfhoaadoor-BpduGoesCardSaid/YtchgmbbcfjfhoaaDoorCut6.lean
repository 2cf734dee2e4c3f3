/-
  The contracts of strings.Clone and octets.Cut where there are the bytes: the bytes as they were; no cell that was there before has turned.
-/
import Derived.Test.YtchgmbbcfjfhoaaDoorGet5
import Derived.Test.YtchgmbbcfjfhoaaDoorShelf
namespace Go.Proofs.YtchgmbbcfjfhoaaDoor
open Go.RowKit

theorem sclone_any (s : ByteArray) (w : World) (hlim : s.size ≤ 281474976710656) :
    Calls Tryd.prog 75 #[.string s] w fun e w' => e = .returned (.string s) ∧ Below w.heap.size w w' := by
  go_enter Tryd.func75, Tryd.ntmps75
  go_wp2_with (go_at_call 76; refine (clone_any s _ hlim).mono ?_; rintro e w' ⟨rfl, hb⟩)
  go_ret
  exact ⟨rfl, by assumption⟩

theorem cut_ok (s : ByteArray) (a n : Nat) (w : World) (hs : s.size ≤ 281474976710656) (h : a + n ≤ s.size) :
    Calls Tryd.prog 72 #[.string s, .int .i64 a, .int .i64 n] w fun e w' => e = .returned (.tuple #[.string (s.extract a (a + n)), .int .i64 0]) ∧ Below w.heap.size w w' := by
  have hm : s.size ≤ maxLen := by unfold maxLen; omega
  have hp : (s.extract a (a + n)).size ≤ 281474976710656 := by rw [ByteArray.size_extract]; omega
  go_enter Tryd.func72, Tryd.ntmps72
  go_wp2_with (first | (go_at_call 63; refine (piece_ok s a n _ hm h).mono ?_; rintro e w' ⟨rfl, rfl⟩) | (go_at_call 75; refine (sclone_any _ _ hp).mono ?_; rintro e w' ⟨rfl, hb⟩))
  go_ret2
  exact ⟨rfl, by assumption⟩
end Go.Proofs.YtchgmbbcfjfhoaaDoor
