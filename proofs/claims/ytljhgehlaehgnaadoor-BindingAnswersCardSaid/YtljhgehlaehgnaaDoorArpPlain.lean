/-
  Plain facts on messages that ask for an address, or tell it, as bytes: no program is named here.
-/
import Derived.Test.YtljhgehlaehgnaaDoorMacPlain
import Derived.Test.YtljhgehlaehgnaaDoorEtherBackPlain
namespace Go.Proofs.YtljhgehlaehgnaaDoor

/-- a message, in plain numbers -/
structure Ar where
  op : Int
  smac : Nat
  sip : Nat
  tmac : Nat
  tip : Nat
/-- no message -/
def Ar.none : Ar := ⟨0, 0, 0, 0, 0⟩
/-- may a message be: 0, or the error's number -/
def Ar.check (a : Ar) : Int := if a.op < 1 ∨ 2 < a.op ∨ ownH a.smac = false ∨ 281474976710656 ≤ a.tmac then 51 else 0
/-- what every message begins with -/
def arpHead : List UInt8 := [0, 1, 8, 0, 6, 4]
/-- a message's bytes, whatever it is (op as two bytes) -/
def Ar.bytes (a : Ar) : List UInt8 := arpHead ++ (be a.op.toNat 2 ++ (be a.smac 6 ++ (be a.sip 4 ++ (be a.tmac 6 ++ be a.tip 4))))
theorem Ar.bytes_length (a : Ar) : a.bytes.length = 28 := by unfold Ar.bytes arpHead; simp [be_length]
/-- the message of 28 bytes -/
def Ar.of (s : List UInt8) : Ar := ⟨(num ((s.drop 6).take 2) : Nat), num ((s.drop 8).take 6), num ((s.drop 14).take 4), num ((s.drop 18).take 6), num ((s.drop 24).take 4)⟩
/-- the message of bytes, and the error's number -/
def Ar.parse (s : List UInt8) : Ar × Int :=
  if s.length < 28 then (.none, 50)
  else if s.take 6 ≠ arpHead ∨ (Ar.of s).check ≠ 0 then (.none, 51)
  else (Ar.of s, 0)
theorem arp_check_spec {a : Ar} (h : a.check = 0) : 1 ≤ a.op ∧ a.op ≤ 2 ∧ ownH a.smac = true ∧ a.tmac < 281474976710656 := by
  unfold Ar.check at h
  split at h
  · cases h
  · rename_i h1
    refine ⟨by omega, by omega, ?_, by omega⟩
    cases e : ownH a.smac
    · exact absurd (Or.inr (Or.inr (Or.inl e))) h1
    · rfl
theorem arp_check_of {a : Ar} (h1 : 1 ≤ a.op) (h2 : a.op ≤ 2) (h3 : ownH a.smac = true) (h4 : a.tmac < 281474976710656) : a.check = 0 := by
  unfold Ar.check
  rw [h3]
  exact if_neg (by simp; omega)
theorem own_lt {m : Nat} (h : ownH m = true) : m < 281474976710656 := by
  unfold ownH at h
  simp only [Bool.and_eq_true, decide_eq_true_eq] at h
  exact h.1.1
theorem pow4 : (256 : Nat) ^ 4 = 4294967296 := by decide
theorem num_four_lt (l : List UInt8) (h : l.length = 4) : num l < 4294967296 := by have := num_lt l; rw [h, pow4] at this; exact this
theorem be_four (l : List UInt8) (h : l.length = 4) : be (num l) 4 = l := by rw [← h]; exact be_num l
/-- the parts of a message's bytes, whatever stands behind -/
theorem arp_parts (a : Ar) (more : List UInt8) : (a.bytes ++ more).take 6 = arpHead ∧ ((a.bytes ++ more).drop 6).take 2 = be a.op.toNat 2 ∧ ((a.bytes ++ more).drop 8).take 6 = be a.smac 6 ∧ ((a.bytes ++ more).drop 14).take 4 = be a.sip 4 ∧
    ((a.bytes ++ more).drop 18).take 6 = be a.tmac 6 ∧ ((a.bytes ++ more).drop 24).take 4 = be a.tip 4 := by
  have e : a.bytes ++ more = arpHead ++ (be a.op.toNat 2 ++ (be a.smac 6 ++ (be a.sip 4 ++ (be a.tmac 6 ++ (be a.tip 4 ++ more))))) := by unfold Ar.bytes; simp
  have d6 : (a.bytes ++ more).drop 6 = be a.op.toNat 2 ++ (be a.smac 6 ++ (be a.sip 4 ++ (be a.tmac 6 ++ (be a.tip 4 ++ more)))) := by rw [e]; exact drop_front rfl
  have d8 : (a.bytes ++ more).drop 8 = be a.smac 6 ++ (be a.sip 4 ++ (be a.tmac 6 ++ (be a.tip 4 ++ more))) := by rw [show 8 = 6 + 2 from rfl, ← List.drop_drop, d6]; exact drop_front (be_length _ _)
  have d14 : (a.bytes ++ more).drop 14 = be a.sip 4 ++ (be a.tmac 6 ++ (be a.tip 4 ++ more)) := by rw [show 14 = 8 + 6 from rfl, ← List.drop_drop, d8]; exact drop_front (be_length _ _)
  have d18 : (a.bytes ++ more).drop 18 = be a.tmac 6 ++ (be a.tip 4 ++ more) := by rw [show 18 = 14 + 4 from rfl, ← List.drop_drop, d14]; exact drop_front (be_length _ _)
  have d24 : (a.bytes ++ more).drop 24 = be a.tip 4 ++ more := by rw [show 24 = 18 + 6 from rfl, ← List.drop_drop, d18]; exact drop_front (be_length _ _)
  refine ⟨?_, ?_, ?_, ?_, ?_, ?_⟩
  · rw [e]; exact take_front rfl
  · rw [d6]; exact take_front (be_length _ _)
  · rw [d8]; exact take_front (be_length _ _)
  · rw [d14]; exact take_front (be_length _ _)
  · rw [d18]; exact take_front (be_length _ _)
  · rw [d24]; exact take_front (be_length _ _)
/-- what is built is read as it was, whatever stands behind -/
theorem arp_of_bytes (a : Ar) (more : List UInt8) (h1 : 0 ≤ a.op ∧ a.op < 65536) (h2 : a.smac < 281474976710656) (h3 : a.sip < 4294967296) (h4 : a.tmac < 281474976710656) (h5 : a.tip < 4294967296) : Ar.of (a.bytes ++ more) = a := by
  obtain ⟨_, p2, p3, p4, p5, p6⟩ := arp_parts a more
  unfold Ar.of
  rw [p2, p3, p4, p5, p6, num_be _ _ (by rw [pow2]; omega), num_be _ _ (by rw [pow6]; exact h2), num_be _ _ (by rw [pow4]; exact h3), num_be _ _ (by rw [pow6]; exact h4), num_be _ _ (by rw [pow4]; exact h5), show ((a.op.toNat : Nat) : Int) = a.op by omega]
theorem arp_back (a : Ar) (more : List UInt8) (h : a.check = 0) (h3 : a.sip < 4294967296) (h5 : a.tip < 4294967296) : Ar.parse (a.bytes ++ more) = (a, 0) := by
  have c := arp_check_spec h
  have e := arp_of_bytes a more (by omega) (own_lt c.2.2.1) h3 c.2.2.2 h5
  unfold Ar.parse
  rw [if_neg (by rw [List.length_append, Ar.bytes_length]; omega), e, if_neg (by rw [(arp_parts a more).1, h]; simp)]
/-- what is read, built, is the first 28 bytes -/
theorem arp_bytes_of (s : List UInt8) (h : 28 ≤ s.length) (hh : s.take 6 = arpHead) : (Ar.of s).bytes = s.take 28 := by
  have l2 : ((s.drop 6).take 2).length = 2 := by rw [List.length_take, List.length_drop]; omega
  have l3 : ((s.drop 8).take 6).length = 6 := by rw [List.length_take, List.length_drop]; omega
  have l4 : ((s.drop 14).take 4).length = 4 := by rw [List.length_take, List.length_drop]; omega
  have l5 : ((s.drop 18).take 6).length = 6 := by rw [List.length_take, List.length_drop]; omega
  have l6 : ((s.drop 24).take 4).length = 4 := by rw [List.length_take, List.length_drop]; omega
  have e : s.take 28 = s.take 6 ++ ((s.drop 6).take 2 ++ ((s.drop 8).take 6 ++ ((s.drop 14).take 4 ++ ((s.drop 18).take 6 ++ (s.drop 24).take 4)))) := by
    have a : ∀ (n m : Nat), (s.drop n).take m ++ (s.drop (n + m)).take (28 - (n + m)) = (s.drop n).take (m + (28 - (n + m))) := fun n m => by rw [← List.drop_drop, ← List.take_add]
    have b0 : s.take 6 ++ (s.drop 6).take 22 = s.take 28 := by have := a 0 6; simpa using this
    have b1 := a 6 2
    have b2 := a 8 6
    have b3 := a 14 4
    have b4 := a 18 6
    simp only [Nat.reduceAdd, Nat.reduceSub] at b1 b2 b3 b4
    rw [← b0, ← b1, ← b2, ← b3, ← b4]
  unfold Ar.bytes Ar.of
  simp only
  rw [show ((num ((s.drop 6).take 2) : Nat) : Int).toNat = num ((s.drop 6).take 2) by omega, be_two _ l2, be_six' _ l3, be_four _ l4, be_six' _ l5, be_four _ l6, e, hh]
theorem arp_told {s : List UInt8} {r : Ar} (h : Ar.parse s = (r, 0)) : 28 ≤ s.length ∧ r.check = 0 ∧ r.bytes = s.take 28 ∧ r.sip < 4294967296 ∧ r.tip < 4294967296 := by
  unfold Ar.parse at h
  split at h
  · simp at h
  · rename_i h1
    split at h
    · simp at h
    · rename_i h2
      simp only [Prod.mk.injEq, and_true] at h
      subst h
      have hh : s.take 6 = arpHead := Decidable.byContradiction fun e => h2 (Or.inl e)
      have hc : (Ar.of s).check = 0 := Decidable.byContradiction fun e => h2 (Or.inr e)
      exact ⟨by omega, hc, arp_bytes_of s (by omega) hh, num_four_lt _ (by rw [List.length_take, List.length_drop]; omega), num_four_lt _ (by rw [List.length_take, List.length_drop]; omega)⟩
end Go.Proofs.YtljhgehlaehgnaaDoor
