/-
  The contracts of strings.Clone and octets.Cut where there are the bytes: the bytes as they were; no cell that was there before has turned.
-/
import Derived.Test.YtocbpkceokgohaaDoorGet5
import Derived.Test.YtocbpkceokgohaaDoorShelf
namespace Go.Proofs.YtocbpkceokgohaaDoor
open Go.RowKit

theorem sclone_any (s : ByteArray) (w : World) (hlim : s.size ≤ 281474976710656) :
    Calls Tryd.prog 26 #[.string s] w fun e w' => e = .returned (.string s) ∧ Below w.heap.size w w' := by
  go_enter Tryd.func26, Tryd.ntmps26
  go_wp2_with (go_at_call 29; refine (clone_any s _ hlim).mono ?_; rintro e w' ⟨rfl, hb⟩)
  go_ret
  exact ⟨rfl, by assumption⟩

theorem cut_ok (s : ByteArray) (a n : Nat) (w : World) (hs : s.size ≤ 281474976710656) (h : a + n ≤ s.size) :
    Calls Tryd.prog 20 #[.string s, .int .i64 a, .int .i64 n] w fun e w' => e = .returned (.tuple #[.string (s.extract a (a + n)), .int .i64 0]) ∧ Below w.heap.size w w' := by
  have hm : s.size ≤ maxLen := by unfold maxLen; omega
  have hp : (s.extract a (a + n)).size ≤ 281474976710656 := by rw [ByteArray.size_extract]; omega
  go_enter Tryd.func20, Tryd.ntmps20
  go_wp2_with (first | (go_at_call 25; refine (piece_ok s a n _ hm h).mono ?_; rintro e w' ⟨rfl, rfl⟩) | (go_at_call 26; refine (sclone_any _ _ hp).mono ?_; rintro e w' ⟨rfl, hb⟩))
  go_ret2
  exact ⟨rfl, by assumption⟩
end Go.Proofs.YtocbpkceokgohaaDoor
