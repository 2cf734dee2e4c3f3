/-
  Plain facts on Ethernet frames as bytes: no program is named here.
-/
import Derived.Test.YtbacbfgacepaaaaPlain
namespace Go.Proofs.Ytbacbfgacepaaaa

/-- a frame, in plain numbers -/
structure Fr where
  dst : Nat
  src : Nat
  has : Bool
  pri : Int
  dei : Bool
  vid : Int
  ty : Int
  body : List UInt8
/-- no frame -/
def Fr.none : Fr := ⟨0, 0, false, 0, false, 0, 0, []⟩
/-- may a tag be -/
def tagOk (has : Bool) (pri : Int) (dei : Bool) (vid : Int) : Bool := if has then decide (0 ≤ pri ∧ pri ≤ 7 ∧ 0 ≤ vid ∧ vid ≤ 4095) else decide (pri = 0 ∧ dei = false ∧ vid = 0)
/-- how many bytes a frame has -/
def Fr.size (f : Fr) : Nat := 14 + f.body.length + (if f.has then 4 else 0)
/-- may a frame be: 0, or the error's number -/
def Fr.check (f : Fr) : Int :=
  if 281474976710656 ≤ f.dst ∨ 281474976710656 ≤ f.src ∨ tagOk f.has f.pri f.dei f.vid = false then 41
  else if f.ty ≠ 0 ∧ (f.ty < 1536 ∨ 65535 < f.ty ∨ f.ty = 33024) then 41
  else if f.ty = 0 ∧ 1500 < f.body.length then 40
  else if 1600 < f.size then 41
  else 0
/-- a tag's two bytes as a number -/
def tagNum (pri : Int) (dei : Bool) (vid : Int) : Nat := pri.toNat * 8192 + (if dei then 4096 else 0) + vid.toNat
/-- a tag's four bytes -/
def Fr.tagB (f : Fr) : List UInt8 := if f.has then [129, 0] ++ be (tagNum f.pri f.dei f.vid) 2 else []
/-- the number that stands where the type does -/
def Fr.tl (f : Fr) : Nat := if f.ty = 0 then f.body.length else f.ty.toNat
/-- a frame's bytes -/
def Fr.bytes (f : Fr) : List UInt8 := be f.dst 6 ++ be f.src 6 ++ f.tagB ++ be f.tl 2 ++ f.body
theorem Fr.bytes_length (f : Fr) : f.bytes.length = f.size := by
  unfold Fr.bytes Fr.size Fr.tagB
  cases f.has <;> simp [be_length] <;> omega
/-- what is told of a type, or a length, and what is left -/
def bodyOf (f : Fr) (t : Nat) (rest : List UInt8) : Fr × Int :=
  if t = 33024 ∨ 1500 < t ∧ t < 1536 then (.none, 41)
  else if 1500 < t then ({ f with ty := t, body := rest }, 0)
  else if rest.length < t then (.none, 40)
  else ({ f with ty := 0, body := rest.take t }, 0)
/-- the frame of bytes, and the error's number -/
def Fr.parse (s : List UInt8) : Fr × Int :=
  if 1600 < s.length then (.none, 41)
  else if s.length < 14 then (.none, 40)
  else
    if num ((s.drop 12).take 2) = 33024 then
      if s.length < 18 then (.none, 40)
      else bodyOf ⟨num (s.take 6), num ((s.drop 6).take 6), true, (num ((s.drop 14).take 2) / 8192 : Nat), decide (num ((s.drop 14).take 2) / 4096 % 2 = 1), (num ((s.drop 14).take 2) % 4096 : Nat), 0, []⟩ (num ((s.drop 16).take 2)) (s.drop 18)
    else bodyOf ⟨num (s.take 6), num ((s.drop 6).take 6), false, 0, false, 0, 0, []⟩ (num ((s.drop 12).take 2)) (s.drop 14)

theorem check_spec (f : Fr) (h : f.check = 0) : f.dst < 281474976710656 ∧ f.src < 281474976710656 ∧ tagOk f.has f.pri f.dei f.vid = true ∧ (f.ty = 0 ∧ f.body.length ≤ 1500 ∨ 1536 ≤ f.ty ∧ f.ty ≤ 65535 ∧ f.ty ≠ 33024) ∧ f.size ≤ 1600 := by
  unfold Fr.check at h
  split at h
  · cases h
  · rename_i h1
    split at h
    · cases h
    · split at h
      · cases h
      · split at h
        · cases h
        · have ht : tagOk f.has f.pri f.dei f.vid = true := by
            cases e : tagOk f.has f.pri f.dei f.vid
            · exact absurd (Or.inr (Or.inr e)) h1
            · rfl
          refine ⟨by omega, by omega, ht, ?_, by omega⟩
          by_cases z : f.ty = 0
          · left; omega
          · right; omega
theorem check_of (f : Fr) (h1 : f.dst < 281474976710656) (h2 : f.src < 281474976710656) (h3 : tagOk f.has f.pri f.dei f.vid = true) (h4 : f.ty = 0 ∧ f.body.length ≤ 1500 ∨ 1536 ≤ f.ty ∧ f.ty ≤ 65535 ∧ f.ty ≠ 33024) (h5 : f.size ≤ 1600) : f.check = 0 := by
  unfold Fr.check
  rw [if_neg (by rw [h3]; simp; omega), if_neg (by omega), if_neg (by omega), if_neg (by omega)]
theorem take_be (a : List UInt8) (v n : Nat) (r : List UInt8) : ((a ++ be v n ++ r).drop a.length).take n = be v n := by
  rw [List.append_assoc, List.drop_left, List.take_append_of_le_length (by rw [be_length]; exact Nat.le_refl _), List.take_of_length_le (by rw [be_length]; exact Nat.le_refl _)]
theorem pow6 : (256 : Nat) ^ 6 = 281474976710656 := by decide
theorem pow2 : (256 : Nat) ^ 2 = 65536 := by decide
end Go.Proofs.Ytbacbfgacepaaaa
