/-
  The contracts of octets.number, width and piece: what each hands back; no cell that was there before has turned.
-/
import Derived.Test.YtfndofbkfinnmaaDoorNum
import Derived.Outline
namespace Go.Proofs.YtfndofbkfinnmaaDoor
open Go.RowKit

/-- What the laid variable gives: errors.errorType holds its type's handle. -/
def Et (w : World) : Prop := w.cell? ⟨0, 0, none⟩ = some (.iface 87 (.agg #[.pointer (some ⟨1, 41, none⟩)]))

theorem Et.lt {w : World} (h : Et w) : 0 < w.heap.size := by
  unfold Et at h
  rcases Nat.eq_zero_or_pos w.heap.size with h0 | h1
  · simp [World.cell?, h0] at h
  · exact h1
theorem Et.below {w w' : World} {B : Nat} (h : Et w) (hb : Below B w w') (hB : 0 < B) : Et w' := by
  unfold Et at *
  rw [hb.cell (p := ⟨0, 0, none⟩) hB]; exact h
theorem Et.next {w w' : World} (h : Et w) (hb : Below w.heap.size w w') : Et w' := h.below hb h.lt

/-- errors.As at a fault, in the words that a caller wants. -/
theorem as_fault2 (n e : Int) (t : Addr) (old : Value) (w : World) (hg : Et w) (ht0 : w.cell? t = some old) (hf0 : w.frozen? t = false) :
    Calls Tryd.prog 30 #[.iface 104 (.agg #[.int .i64 n, .int .i64 e]), .iface 58 (.pointer (some t))] w fun ev w' => ev = .returned (.bool true) ∧ Below t.block w w' ∧ w'.cell? t = some (.int .i64 e) := by
  have htl : t.block < w.heap.size := by
    rcases Nat.lt_or_ge t.block w.heap.size with h | h
    · exact h
    · simp [World.cell?, Array.getElem?_eq_none h] at ht0
  refine (as_fault n e t old w hg ht0 hf0).mono fun ev w' ⟨h1, h2⟩ => ?_
  subst h2
  refine ⟨h1, ?_, ?_⟩
  · exact ((((((Below.refl _ _).alloc (by omega) _).alloc (by simp; omega) _).alloc (by simp; omega) _).alloc (by simp; omega) _).alloc (by simp; omega) _).setCell (Nat.le_refl _) _
  · have h : ∀ (W : World) (o : Value), W.cell? t = some o → (W.setCell t (.int .i64 e)).cell? t = some (.int .i64 e) := by
      intro W o hW
      exact World.cell?_setCell_same _ _ _ hW
    refine h _ old ?_
    rw [World.cell?_alloc_lt _ _ t (by simp; omega), World.cell?_alloc_lt _ _ t (by simp; omega), World.cell?_alloc_lt _ _ t (by simp; omega), World.cell?_alloc_lt _ _ t (by simp; omega), World.cell?_alloc_lt _ _ t htl]; exact ht0

theorem number_any (n e : Int) (w : World) (hg : Et w) :
    Calls Tryd.prog 42 #[.iface 104 (.agg #[.int .i64 n, .int .i64 e])] w fun ev w' => ev = .returned (.int .i64 e) ∧ Below w.heap.size w w' := by
  have hgA : Et (w.alloc (.cells #[.int .i64 0] 27)) := hg.next ((Below.refl _ _).alloc (Nat.le_refl _) _)
  go_enter Tryd.func42, Tryd.ntmps42
  go_wp2_with fail
  refine (as_fault2 n e _ (.int .i64 0) _ hgA (by simp) (by simp)).mono ?_
  rintro ev w' ⟨rfl, hb, hc⟩
  have hb2 : Below w.heap.size w w' := ((Below.refl _ _).alloc (Nat.le_refl _) _).trans hb
  clear hb hgA
  go_wp2
  go_ret
  exact ⟨rfl, hb2⟩

theorem width_ok (n : Int) (w : World) (h1 : 1 ≤ n) (h2 : n ≤ 8) : Calls Tryd.prog 48 #[.int .i64 n] w fun e w' => e = .returned .nilIface ∧ w' = w := by
  go_enter Tryd.func48, Tryd.ntmps48
  go_wp2
  go_ret
  exact ⟨rfl, rfl⟩
theorem width_bad (n : Int) (w : World) (h : n < 1 ∨ 8 < n) : Calls Tryd.prog 48 #[.int .i64 n] w fun e w' => e = .returned (.iface 104 (.agg #[.int .i64 n, .int .i64 1])) ∧ w' = w := by
  rcases h with h | h
  · go_enter Tryd.func48, Tryd.ntmps48
    go_wp2
    go_ret
    exact ⟨rfl, rfl⟩
  · have h' : ¬ n < 1 := by omega
    go_enter Tryd.func48, Tryd.ntmps48
    go_wp2
    go_ret
    exact ⟨rfl, rfl⟩

theorem piece_arg (s : ByteArray) (at_ n : Int) (w : World) (h : at_ < 0 ∨ n < 0) :
    Calls Tryd.prog 49 #[.string s, .int .i64 at_, .int .i64 n] w fun e w' => e = .returned (.tuple #[.string ByteArray.empty, .iface 104 (.agg #[.int .i64 at_, .int .i64 1])]) ∧ w' = w := by
  rcases h with h | h
  · go_enter Tryd.func49, Tryd.ntmps49
    go_wp2
    go_ret2
    exact ⟨rfl, rfl⟩
  · by_cases h' : at_ < 0
    · go_enter Tryd.func49, Tryd.ntmps49
      go_wp2
      go_ret2
      exact ⟨rfl, rfl⟩
    · go_enter Tryd.func49, Tryd.ntmps49
      go_wp2
      go_ret2
      exact ⟨rfl, rfl⟩
theorem piece_short (s : ByteArray) (at_ n : Int) (w : World) (hs : s.size ≤ maxLen) (h0 : 0 ≤ at_) (hn : 0 ≤ n) (ha : at_ ≤ 9223372036854775807) (h : (s.size : Int) - at_ < n) :
    Calls Tryd.prog 49 #[.string s, .int .i64 at_, .int .i64 n] w fun e w' => e = .returned (.tuple #[.string ByteArray.empty, .iface 104 (.agg #[.int .i64 at_, .int .i64 10])]) ∧ w' = w := by
  unfold maxLen at hs
  go_enter Tryd.func49, Tryd.ntmps49
  go_wp2
  go_ret2
  exact ⟨rfl, rfl⟩
end Go.Proofs.YtfndofbkfinnmaaDoor
