/-
  A text's first bytes, in the words in which a walk asks them; what is written is read, and back.
-/
import Derived.Test.YtmpkeakbcojdeaaGreatDoorRow2
namespace Go.Proofs.YtmpkeakbcojdeaaGreatDoor
open Go.RowKit

/-- p is what a law's first row makes of s: all of it, or its first 60 bytes -/
def Shortened (s p : ByteArray) : Prop :=
  s = p ∧ s.size ≤ 60 ∧ min (s.size : Int) 60 = (s.size : Int) ∧ s.extract 0 s.size = s ∨ s.extract 0 60 = p ∧ 60 < s.size ∧ min (s.size : Int) 60 = 60
theorem extract_all (s : ByteArray) : s.extract 0 s.size = s := by
  apply ByteArray.ext
  rw [ByteArray.data_extract]
  exact Array.extract_size
theorem shortened (s : ByteArray) : ∃ p : ByteArray, p.size ≤ 60 ∧ Shortened s p := by
  by_cases h : s.size ≤ 60
  · exact ⟨s, h, Or.inl ⟨rfl, h, by omega, extract_all s⟩⟩
  · exact ⟨s.extract 0 60, by rw [ByteArray.size_extract]; omega, Or.inr ⟨rfl, by omega, by omega⟩⟩
theorem num_be_mod (m n : Nat) : num (be m n) = m % 256 ^ n := by
  rw [← be_mod, num_be _ _ (Nat.mod_lt _ (Nat.pow_pos (by omega)))]
theorem be_six (l : List UInt8) (h : l.length = 6) : be (num l) 6 = l := by rw [← h]; exact be_num l
theorem be_four (l : List UInt8) (h : l.length = 4) : be (num l) 4 = l := by rw [← h]; exact be_num l
theorem join_short (l : List UInt8) (g : UInt8 → List UInt8) (x : UInt8) (hl : l.length ≤ 10) (hg : ∀ b, (g b).length ≤ 10) : (Lib.join (l.map g) [x]).length ≤ 1000 := by
  have hlen : ∀ l : List UInt8, Lib.lens (l.map g) ≤ 10 * l.length := by
    intro l
    induction l with
    | nil => simp [Lib.lens]
    | cons y r ih =>
      have e : Lib.lens (g y :: r.map g) = (g y).length + Lib.lens (r.map g) := by simp [Lib.lens]
      have h1 := hg y
      rw [List.map_cons, e, List.length_cons]; omega
  cases l with
  | nil => simp [Lib.join_nil]
  | cons y r =>
    have h1 := hlen (y :: r)
    rw [List.map_cons] at h1
    rw [List.map_cons, Lib.join_length, List.length_map]
    simp at h1 hl ⊢
    omega
/-- a contract that leaves what was there, behind w -/
theorem behind {P : Program} {f : FuncId} {args : Array Value} {w W : World} {v : Value} (hb : Below w.heap.size w W) (h : Calls P f args W fun e W' => e = .returned v ∧ Below W.heap.size W W') :
    Calls P f args W fun e W' => e = .returned v ∧ Below w.heap.size w W' := h.mono fun _ _ ⟨he, h'⟩ => ⟨he, bthen hb h'⟩
end Go.Proofs.YtmpkeakbcojdeaaGreatDoor
