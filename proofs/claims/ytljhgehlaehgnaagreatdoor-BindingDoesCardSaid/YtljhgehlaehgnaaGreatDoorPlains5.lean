/-
  Plain facts on bytes, numbers and digits: no program is named here.
  Plain facts on MAC addresses: no program is named here.
  Plain facts on Ethernet frames as bytes: no program is named here.
  Plain facts: what is built is parsed as it was; what is parsed, built, is the beginning of the bytes; no program is named here.
  Plain facts on messages that ask for an address, or tell it, as bytes: no program is named here.
-/
import Derived.Test.YtljhgehlaehgnaaGreatDoorAgPlain
namespace Go.Proofs.YtljhgehlaehgnaaGreatDoor

/-- v's n lowest bytes, the greatest one first. -/
def be (v : Nat) : Nat → List UInt8
  | 0 => []
  | n + 1 => be (v / 256) n ++ [UInt8.ofNat (v % 256)]
theorem be_length (v n : Nat) : (be v n).length = n := by
  induction n generalizing v with
  | zero => rfl
  | succ n ih => simp [be, ih]
/-- the number of bytes, the greatest one first -/
def num (l : List UInt8) : Nat := l.foldl (fun a c => a * 256 + c.toNat) 0
theorem num_snoc (l : List UInt8) (c : UInt8) : num (l ++ [c]) = num l * 256 + c.toNat := by simp [num]
theorem num_lt (l : List UInt8) : num l < 256 ^ l.length := by
  obtain ⟨m, rfl⟩ : ∃ m, m = l.reverse := ⟨_, rfl⟩
  rw [← List.reverse_reverse l]
  induction l.reverse with
  | nil => simp [num]
  | cons c m ih =>
    have hc := c.toNat_lt
    rw [List.reverse_cons, num_snoc, List.length_append, Nat.pow_add]
    simp only [List.length_cons, List.length_nil, Nat.zero_add, Nat.pow_one]
    omega
theorem num_be (v n : Nat) (h : v < 256 ^ n) : num (be v n) = v := by
  induction n generalizing v with
  | zero => simp at h; subst h; rfl
  | succ n ih =>
    have h1 : v / 256 < 256 ^ n := by rw [Nat.div_lt_iff_lt_mul (by omega)]; rw [Nat.pow_succ] at h; exact h
    rw [be, num_snoc, ih _ h1]
    simp
    omega
theorem be_num (l : List UInt8) : be (num l) l.length = l := by
  obtain ⟨m, hm⟩ : ∃ m, m = l.reverse := ⟨_, rfl⟩
  rw [show l = m.reverse from by rw [hm, List.reverse_reverse]]
  clear hm
  induction m with
  | nil => rfl
  | cons c m ih =>
    have hc := c.toNat_lt
    rw [List.reverse_cons, num_snoc, List.length_append]
    show be (num m.reverse * 256 + c.toNat) (m.reverse.length + 1) = _
    rw [be]
    have e1 : (num m.reverse * 256 + c.toNat) / 256 = num m.reverse := by omega
    have e2 : (num m.reverse * 256 + c.toNat) % 256 = c.toNat := by omega
    rw [e1, e2, ih]
    simp
/-- one byte more ahead -/
theorem be_head (v n : Nat) (h : v < 256 ^ n) : be v (n + 1) = 0 :: be v n := by
  induction n generalizing v with
  | zero => simp at h; subst h; rfl
  | succ n ih =>
    have h1 : v / 256 < 256 ^ n := by rw [Nat.div_lt_iff_lt_mul (by omega)]; rw [Nat.pow_succ] at h; exact h
    rw [be, ih _ h1]
    rfl
/-- the string of bytes -/
def bs (l : List UInt8) : ByteArray := ⟨l.toArray⟩
theorem bs_size (l : List UInt8) : (bs l).size = l.length := by simp [bs, ByteArray.size]
theorem bs_toList (l : List UInt8) : (bs l).data.toList = l := by simp [bs]
theorem bs_of (s : ByteArray) : bs s.data.toList = s := by cases s; simp [bs]
theorem bs_inj {a b : List UInt8} (h : bs a = bs b) : a = b := by
  have := congrArg (fun x : ByteArray => x.data.toList) h
  simpa [bs] using this
theorem extract_toList (s : ByteArray) (a b : Nat) : (s.extract a b).data.toList = (s.data.toList.drop a).take (b - a) := by
  rw [ByteArray.data_extract, Array.toList_extract, List.extract_eq_take_drop]
theorem size_toList (s : ByteArray) : s.data.toList.length = s.size := by rw [Array.length_toList]; rfl
end Go.Proofs.YtljhgehlaehgnaaGreatDoor
namespace Go.Proofs.YtljhgehlaehgnaaGreatDoor

/-- a MAC address is many's -/
def grp (m : Nat) : Bool := decide (m / 1099511627776 % 2 = 1)
/-- a host may have it -/
def ownH (m : Nat) : Bool := decide (m < 281474976710656) && !grp m && decide (m ≠ 0)
theorem int_beq (a b : Nat) : ((a : Int) == (b : Int)) = decide (a = b) := by
  by_cases h : a = b
  · subst h; simp
  · rw [decide_eq_false h, beq_eq_false_iff_ne]; omega
end Go.Proofs.YtljhgehlaehgnaaGreatDoor
namespace Go.Proofs.YtljhgehlaehgnaaGreatDoor

/-- a frame, in plain numbers -/
structure Fr where
  dst : Nat
  src : Nat
  has : Bool
  pri : Int
  dei : Bool
  vid : Int
  ty : Int
  body : List UInt8
/-- no frame -/
def Fr.none : Fr := ⟨0, 0, false, 0, false, 0, 0, []⟩
/-- may a tag be -/
def tagOk (has : Bool) (pri : Int) (dei : Bool) (vid : Int) : Bool := if has then decide (0 ≤ pri ∧ pri ≤ 7 ∧ 0 ≤ vid ∧ vid ≤ 4095) else decide (pri = 0 ∧ dei = false ∧ vid = 0)
/-- how many bytes a frame has -/
def Fr.size (f : Fr) : Nat := 14 + f.body.length + (if f.has then 4 else 0)
/-- may a frame be: 0, or the error's number -/
def Fr.check (f : Fr) : Int :=
  if 281474976710656 ≤ f.dst ∨ 281474976710656 ≤ f.src ∨ tagOk f.has f.pri f.dei f.vid = false then 41
  else if f.ty ≠ 0 ∧ (f.ty < 1536 ∨ 65535 < f.ty ∨ f.ty = 33024) then 41
  else if f.ty = 0 ∧ 1500 < f.body.length then 40
  else if 1600 < f.size then 41
  else 0
/-- a tag's two bytes as a number -/
def tagNum (pri : Int) (dei : Bool) (vid : Int) : Nat := pri.toNat * 8192 + (if dei then 4096 else 0) + vid.toNat
/-- a tag's four bytes -/
def Fr.tagB (f : Fr) : List UInt8 := if f.has then [129, 0] ++ be (tagNum f.pri f.dei f.vid) 2 else []
/-- the number that stands where the type does -/
def Fr.tl (f : Fr) : Nat := if f.ty = 0 then f.body.length else f.ty.toNat
/-- a frame's bytes -/
def Fr.bytes (f : Fr) : List UInt8 := be f.dst 6 ++ be f.src 6 ++ f.tagB ++ be f.tl 2 ++ f.body
theorem Fr.bytes_length (f : Fr) : f.bytes.length = f.size := by
  unfold Fr.bytes Fr.size Fr.tagB
  cases f.has <;> simp [be_length] <;> omega
/-- what is told of a type, or a length, and what is left -/
def bodyOf (f : Fr) (t : Nat) (rest : List UInt8) : Fr × Int :=
  if t = 33024 ∨ 1500 < t ∧ t < 1536 then (.none, 41)
  else if 1500 < t then ({ f with ty := t, body := rest }, 0)
  else if rest.length < t then (.none, 40)
  else ({ f with ty := 0, body := rest.take t }, 0)
/-- the frame of bytes, and the error's number -/
def Fr.parse (s : List UInt8) : Fr × Int :=
  if 1600 < s.length then (.none, 41)
  else if s.length < 14 then (.none, 40)
  else
    if num ((s.drop 12).take 2) = 33024 then
      if s.length < 18 then (.none, 40)
      else bodyOf ⟨num (s.take 6), num ((s.drop 6).take 6), true, (num ((s.drop 14).take 2) / 8192 : Nat), decide (num ((s.drop 14).take 2) / 4096 % 2 = 1), (num ((s.drop 14).take 2) % 4096 : Nat), 0, []⟩ (num ((s.drop 16).take 2)) (s.drop 18)
    else bodyOf ⟨num (s.take 6), num ((s.drop 6).take 6), false, 0, false, 0, 0, []⟩ (num ((s.drop 12).take 2)) (s.drop 14)

theorem check_spec (f : Fr) (h : f.check = 0) : f.dst < 281474976710656 ∧ f.src < 281474976710656 ∧ tagOk f.has f.pri f.dei f.vid = true ∧ (f.ty = 0 ∧ f.body.length ≤ 1500 ∨ 1536 ≤ f.ty ∧ f.ty ≤ 65535 ∧ f.ty ≠ 33024) ∧ f.size ≤ 1600 := by
  unfold Fr.check at h
  split at h
  · cases h
  · rename_i h1
    split at h
    · cases h
    · split at h
      · cases h
      · split at h
        · cases h
        · have ht : tagOk f.has f.pri f.dei f.vid = true := by
            cases e : tagOk f.has f.pri f.dei f.vid
            · exact absurd (Or.inr (Or.inr e)) h1
            · rfl
          refine ⟨by omega, by omega, ht, ?_, by omega⟩
          by_cases z : f.ty = 0
          · left; omega
          · right; omega
theorem check_of (f : Fr) (h1 : f.dst < 281474976710656) (h2 : f.src < 281474976710656) (h3 : tagOk f.has f.pri f.dei f.vid = true) (h4 : f.ty = 0 ∧ f.body.length ≤ 1500 ∨ 1536 ≤ f.ty ∧ f.ty ≤ 65535 ∧ f.ty ≠ 33024) (h5 : f.size ≤ 1600) : f.check = 0 := by
  unfold Fr.check
  rw [if_neg (by rw [h3]; simp; omega), if_neg (by omega), if_neg (by omega), if_neg (by omega)]
theorem take_be (a : List UInt8) (v n : Nat) (r : List UInt8) : ((a ++ be v n ++ r).drop a.length).take n = be v n := by
  rw [List.append_assoc, List.drop_left, List.take_append_of_le_length (by rw [be_length]; exact Nat.le_refl _), List.take_of_length_le (by rw [be_length]; exact Nat.le_refl _)]
theorem pow6 : (256 : Nat) ^ 6 = 281474976710656 := by decide
theorem pow2 : (256 : Nat) ^ 2 = 65536 := by decide
end Go.Proofs.YtljhgehlaehgnaaGreatDoor
namespace Go.Proofs.YtljhgehlaehgnaaGreatDoor

theorem drop_front {a r : List UInt8} {n : Nat} (h : a.length = n) : (a ++ r).drop n = r := by subst h; exact List.drop_left
theorem take_front {a r : List UInt8} {n : Nat} (h : a.length = n) : (a ++ r).take n = a := by subst h; exact List.take_left
theorem tagNum_lt {pri vid : Int} {dei : Bool} (h : tagOk true pri dei vid = true) : tagNum pri dei vid < 65536 ∧ ((tagNum pri dei vid / 8192 : Nat) : Int) = pri ∧ decide (tagNum pri dei vid / 4096 % 2 = 1) = dei ∧ ((tagNum pri dei vid % 4096 : Nat) : Int) = vid := by
  have h' : 0 ≤ pri ∧ pri ≤ 7 ∧ 0 ≤ vid ∧ vid ≤ 4095 := by simpa [tagOk] using h
  unfold tagNum
  cases dei
  · simp only [Bool.false_eq_true, if_false]
    refine ⟨by omega, by omega, ?_, by omega⟩
    exact decide_eq_false (by omega)
  · simp only [if_true]
    refine ⟨by omega, by omega, ?_, by omega⟩
    exact decide_eq_true (by omega)
theorem tl_lt {f : Fr} (h : f.check = 0) : f.tl < 65536 ∧ f.tl ≠ 33024 ∧ (f.ty = 0 → f.tl = f.body.length ∧ f.tl ≤ 1500) ∧ (f.ty ≠ 0 → ((f.tl : Nat) : Int) = f.ty ∧ 1536 ≤ f.tl) := by
  have c := check_spec f h
  unfold Fr.tl
  by_cases z : f.ty = 0
  · rw [if_pos z]; omega
  · rw [if_neg z]; omega
/-- what stands behind the addresses, read again -/
theorem bodyOf_built (f g : Fr) (more : List UInt8) (h : f.check = 0) : bodyOf g f.tl (f.body ++ more) = ({ g with ty := f.ty, body := if f.ty = 0 then f.body else f.body ++ more }, 0) := by
  have t := tl_lt h
  unfold bodyOf
  by_cases z : f.ty = 0
  · have t3 := t.2.2.1 z
    rw [if_neg (by omega), if_neg (by omega), if_neg (by rw [List.length_append]; omega), t3.1, List.take_left, if_pos z, z]
  · have t4 := t.2.2.2 z
    rw [if_neg (by omega), if_pos (by omega), if_neg z, t4.1]
theorem parse_built (f : Fr) (more : List UInt8) (h : f.check = 0) (hs : f.size + more.length ≤ 1600) : Fr.parse (f.bytes ++ more) = ({ f with body := if f.ty = 0 then f.body else f.body ++ more }, 0) := by
  have c := check_spec f h
  have t := tl_lt h
  have hl : (f.bytes ++ more).length = f.size + more.length := by rw [List.length_append, Fr.bytes_length]
  have n1 : num (be f.dst 6) = f.dst := num_be _ _ (by rw [pow6]; exact c.1)
  have n2 : num (be f.src 6) = f.src := num_be _ _ (by rw [pow6]; exact c.2.1)
  have n3 : num (be f.tl 2) = f.tl := num_be _ _ (by rw [pow2]; exact t.1)
  have B := bodyOf_built f
  cases hh : f.has
  · have e : f.bytes ++ more = be f.dst 6 ++ (be f.src 6 ++ (be f.tl 2 ++ (f.body ++ more))) := by
      unfold Fr.bytes Fr.tagB; rw [hh]; simp
    have hz : f.size = 14 + f.body.length := by unfold Fr.size; rw [hh]; rfl
    have d6 : (f.bytes ++ more).drop 6 = be f.src 6 ++ (be f.tl 2 ++ (f.body ++ more)) := by rw [e]; exact drop_front (be_length _ _)
    have d12 : (f.bytes ++ more).drop 12 = be f.tl 2 ++ (f.body ++ more) := by rw [show 12 = 6 + 6 from rfl, ← List.drop_drop, d6]; exact drop_front (be_length _ _)
    have d14 : (f.bytes ++ more).drop 14 = f.body ++ more := by rw [show 14 = 12 + 2 from rfl, ← List.drop_drop, d12]; exact drop_front (be_length _ _)
    have t6 : (f.bytes ++ more).take 6 = be f.dst 6 := by rw [e]; exact take_front (be_length _ _)
    unfold Fr.parse
    rw [if_neg (by omega), if_neg (by omega), d12, take_front (be_length _ _), n3, if_neg t.2.1, t6, n1, d6, take_front (be_length _ _), n2, d14, B _ more h]
    have tg := c.2.2.1
    rw [hh] at tg
    have tg' : f.pri = 0 ∧ f.dei = false ∧ f.vid = 0 := by simpa [tagOk] using tg
    rw [tg'.1, tg'.2.1, tg'.2.2]
  · have tg := c.2.2.1
    rw [hh] at tg
    have tn := tagNum_lt tg
    have n4 : num (be (tagNum f.pri f.dei f.vid) 2) = tagNum f.pri f.dei f.vid := num_be _ _ (by rw [pow2]; exact tn.1)
    have e : f.bytes ++ more = be f.dst 6 ++ (be f.src 6 ++ ([129, 0] ++ (be (tagNum f.pri f.dei f.vid) 2 ++ (be f.tl 2 ++ (f.body ++ more))))) := by
      unfold Fr.bytes Fr.tagB; rw [hh]; simp
    have hz : f.size = 18 + f.body.length := by unfold Fr.size; rw [hh]; simp; omega
    have d6 : (f.bytes ++ more).drop 6 = be f.src 6 ++ ([129, 0] ++ (be (tagNum f.pri f.dei f.vid) 2 ++ (be f.tl 2 ++ (f.body ++ more)))) := by rw [e]; exact drop_front (be_length _ _)
    have d12 : (f.bytes ++ more).drop 12 = [129, 0] ++ (be (tagNum f.pri f.dei f.vid) 2 ++ (be f.tl 2 ++ (f.body ++ more))) := by rw [show 12 = 6 + 6 from rfl, ← List.drop_drop, d6]; exact drop_front (be_length _ _)
    have d14 : (f.bytes ++ more).drop 14 = be (tagNum f.pri f.dei f.vid) 2 ++ (be f.tl 2 ++ (f.body ++ more)) := by rw [show 14 = 12 + 2 from rfl, ← List.drop_drop, d12]; exact drop_front rfl
    have d16 : (f.bytes ++ more).drop 16 = be f.tl 2 ++ (f.body ++ more) := by rw [show 16 = 14 + 2 from rfl, ← List.drop_drop, d14]; exact drop_front (be_length _ _)
    have d18 : (f.bytes ++ more).drop 18 = f.body ++ more := by rw [show 18 = 16 + 2 from rfl, ← List.drop_drop, d16]; exact drop_front (be_length _ _)
    have t6 : (f.bytes ++ more).take 6 = be f.dst 6 := by rw [e]; exact take_front (be_length _ _)
    unfold Fr.parse
    rw [if_neg (by omega), if_neg (by omega), d12, take_front (a := [129, 0]) (n := 2) rfl, if_pos (by decide), if_neg (by omega), t6, n1, d6, take_front (be_length _ _), n2, d14, take_front (be_length _ _), n4, d16, take_front (be_length _ _), n3, d18, B _ more h, tn.2.1, tn.2.2.1, tn.2.2.2]
/-- as it was -/
theorem parse_back (f : Fr) (h : f.check = 0) : Fr.parse f.bytes = (f, 0) := by
  have c := check_spec f h
  have p := parse_built f [] h (by simpa using c.2.2.2.2)
  rw [List.append_nil, List.append_nil] at p
  rw [p]
  cases f
  simp

theorem split2 (l : List UInt8) (n : Nat) : l = l.take n ++ l.drop n := (List.take_append_drop n l).symm
theorem be_two (l : List UInt8) (h : l.length = 2) : be (num l) 2 = l := by rw [← h]; exact be_num l
theorem be_six' (l : List UInt8) (h : l.length = 6) : be (num l) 6 = l := by rw [← h]; exact be_num l
theorem num_two_lt (l : List UInt8) (h : l.length = 2) : num l < 65536 := by have := num_lt l; rw [h, pow2] at this; exact this
theorem num_six_lt (l : List UInt8) (h : l.length = 6) : num l < 281474976710656 := by have := num_lt l; rw [h, pow6] at this; exact this
/-- a type, or a length, and a body, that are told -/
theorem bodyOf_told (g r : Fr) (t : Nat) (rest : List UInt8) (ht : t < 65536) (h : bodyOf g t rest = (r, 0)) :
    ∃ more, rest = r.body ++ more ∧ (r.ty ≠ 0 → more = []) ∧ r.tl = t ∧ r = { g with ty := r.ty, body := r.body } ∧ (r.ty = 0 ∧ r.body.length ≤ 1500 ∨ 1536 ≤ r.ty ∧ r.ty ≤ 65535 ∧ r.ty ≠ 33024) := by
  unfold bodyOf at h
  split at h
  · simp at h
  · split at h
    · simp only [Prod.mk.injEq, and_true] at h
      subst h
      refine ⟨[], by simp, fun _ => rfl, ?_, rfl, Or.inr ?_⟩
      · unfold Fr.tl
        show (if (t : Int) = 0 then _ else (t : Int).toNat) = t
        rw [if_neg (by omega)]; omega
      · show 1536 ≤ (t : Int) ∧ (t : Int) ≤ 65535 ∧ (t : Int) ≠ 33024
        omega
    · split at h
      · simp at h
      · simp only [Prod.mk.injEq, and_true] at h
        subst h
        have hl : (rest.take t).length = t := by rw [List.length_take]; omega
        refine ⟨rest.drop t, (List.take_append_drop t rest).symm, fun z => absurd rfl z, ?_, rfl, Or.inl ⟨rfl, ?_⟩⟩
        · unfold Fr.tl
          show (if (0 : Int) = 0 then (rest.take t).length else _) = t
          rw [if_pos rfl, hl]
        · show (rest.take t).length ≤ 1500
          omega
theorem tag_told (n : Nat) (h : n < 65536) : tagOk true ((n / 8192 : Nat) : Int) (decide (n / 4096 % 2 = 1)) ((n % 4096 : Nat) : Int) = true ∧ tagNum ((n / 8192 : Nat) : Int) (decide (n / 4096 % 2 = 1)) ((n % 4096 : Nat) : Int) = n := by
  constructor
  · unfold tagOk
    rw [if_pos rfl]
    exact decide_eq_true (by omega)
  · unfold tagNum
    by_cases z : n / 4096 % 2 = 1
    · rw [decide_eq_true z]; simp only [if_true]; omega
    · rw [decide_eq_false z]; simp only [Bool.false_eq_true, if_false]; omega
/-- what is parsed may be, and, built, is the beginning of the bytes -/
theorem built_parse (s : List UInt8) (r : Fr) (h : Fr.parse s = (r, 0)) : r.check = 0 ∧ ∃ more, s = r.bytes ++ more ∧ (r.ty ≠ 0 → more = []) := by
  unfold Fr.parse at h
  split at h
  · simp at h
  · rename_i h16
    split at h
    · simp at h
    · rename_i h14
      have l1 : (s.take 6).length = 6 := by rw [List.length_take]; omega
      have l2 : ((s.drop 6).take 6).length = 6 := by rw [List.length_take, List.length_drop]; omega
      have l3 : ((s.drop 12).take 2).length = 2 := by rw [List.length_take, List.length_drop]; omega
      have e0 : s = s.take 6 ++ ((s.drop 6).take 6 ++ ((s.drop 12).take 2 ++ s.drop 14)) := by
        conv => lhs; rw [split2 s 6, split2 (s.drop 6) 6, List.drop_drop, split2 (s.drop (6 + 6)) 2, List.drop_drop]
      split at h
      · rename_i h81
        split at h
        · simp at h
        · rename_i h18
          have l4 : ((s.drop 14).take 2).length = 2 := by rw [List.length_take, List.length_drop]; omega
          have l5 : ((s.drop 16).take 2).length = 2 := by rw [List.length_take, List.length_drop]; omega
          have e1 : s.drop 14 = (s.drop 14).take 2 ++ ((s.drop 16).take 2 ++ s.drop 18) := by
            conv => lhs; rw [split2 (s.drop 14) 2, List.drop_drop, split2 (s.drop (14 + 2)) 2, List.drop_drop]
          obtain ⟨more, m1, m2, m3, m4, m5⟩ := bodyOf_told _ _ _ _ (num_two_lt _ l5) h
          have tt := tag_told _ (num_two_lt _ l4)
          have e81 : (s.drop 12).take 2 = [129, 0] := by
            have := be_two _ l3
            rw [h81] at this
            rw [← this]; rfl
          have hbytes : s = r.bytes ++ more := by
            rw [e0, e1, m1, e81]
            unfold Fr.bytes Fr.tagB
            rw [m3, be_two _ l5]
            rw [m4]
            show _ = be (num (s.take 6)) 6 ++ be (num ((s.drop 6).take 6)) 6 ++ (if true = true then [129, 0] ++ be (tagNum _ _ _) 2 else []) ++ _ ++ r.body ++ more
            rw [if_pos rfl, tt.2, be_six' _ l1, be_six' _ l2, be_two _ l4]
            simp
          refine ⟨check_of r ?_ ?_ ?_ m5 ?_, more, hbytes, m2⟩
          · rw [m4]; exact num_six_lt _ l1
          · rw [m4]; exact num_six_lt _ l2
          · rw [m4]; exact tt.1
          · have := congrArg List.length hbytes
            rw [List.length_append, Fr.bytes_length] at this
            omega
      · rename_i h81
        obtain ⟨more, m1, m2, m3, m4, m5⟩ := bodyOf_told _ _ _ _ (num_two_lt _ l3) h
        have hbytes : s = r.bytes ++ more := by
          rw [e0, m1]
          unfold Fr.bytes Fr.tagB
          rw [m3, be_two _ l3]
          rw [m4]
          show _ = be (num (s.take 6)) 6 ++ be (num ((s.drop 6).take 6)) 6 ++ (if false = true then [129, 0] ++ be (tagNum _ _ _) 2 else []) ++ _ ++ r.body ++ more
          rw [if_neg (by decide), be_six' _ l1, be_six' _ l2]
          simp
        refine ⟨check_of r ?_ ?_ ?_ m5 ?_, more, hbytes, m2⟩
        · rw [m4]; exact num_six_lt _ l1
        · rw [m4]; exact num_six_lt _ l2
        · rw [m4]; rfl
        · have := congrArg List.length hbytes
          rw [List.length_append, Fr.bytes_length] at this
          omega
/-- a tag more: four bytes more, behind the addresses -/
theorem tags_bytes (f g : Fr) (hf : f.has = false) (hg : g.has = true) (h1 : g.dst = f.dst) (h2 : g.src = f.src) (h3 : g.ty = f.ty) (h4 : g.body = f.body) :
    g.bytes.length = f.bytes.length + 4 ∧ 14 ≤ f.bytes.length ∧ g.bytes.take 12 = f.bytes.take 12 ∧ (g.bytes.drop 12).take 2 = [129, 0] ∧ g.bytes.drop 16 = f.bytes.drop 12 := by
  have e1 : f.bytes = (be f.dst 6 ++ be f.src 6) ++ (be f.tl 2 ++ f.body) := by unfold Fr.bytes Fr.tagB; rw [hf]; simp
  have e2 : g.bytes = (be f.dst 6 ++ be f.src 6) ++ ([129, 0] ++ (be (tagNum g.pri g.dei g.vid) 2 ++ (be f.tl 2 ++ f.body))) := by
    have : g.tl = f.tl := by unfold Fr.tl; rw [h3, h4]
    unfold Fr.bytes Fr.tagB; rw [hg, h1, h2, this, h4]; simp
  have l12 : (be f.dst 6 ++ be f.src 6).length = 12 := by rw [List.length_append, be_length, be_length]
  have d12 : g.bytes.drop 12 = [129, 0] ++ (be (tagNum g.pri g.dei g.vid) 2 ++ (be f.tl 2 ++ f.body)) := by rw [e2]; exact drop_front l12
  have d14 : g.bytes.drop 14 = be (tagNum g.pri g.dei g.vid) 2 ++ (be f.tl 2 ++ f.body) := by rw [show 14 = 12 + 2 from rfl, ← List.drop_drop, d12]; exact drop_front rfl
  have d16 : g.bytes.drop 16 = be f.tl 2 ++ f.body := by rw [show 16 = 14 + 2 from rfl, ← List.drop_drop, d14]; exact drop_front (be_length _ _)
  refine ⟨?_, ?_, ?_, ?_, ?_⟩
  · rw [e1, e2]; simp [be_length]; omega
  · rw [e1]; simp [be_length]; omega
  · rw [e1, e2, take_front l12, take_front l12]
  · rw [d12]; exact take_front rfl
  · rw [d16, e1]; exact (drop_front l12).symm
end Go.Proofs.YtljhgehlaehgnaaGreatDoor
namespace Go.Proofs.YtljhgehlaehgnaaGreatDoor

/-- a message, in plain numbers -/
structure Ar where
  op : Int
  smac : Nat
  sip : Nat
  tmac : Nat
  tip : Nat
/-- no message -/
def Ar.none : Ar := ⟨0, 0, 0, 0, 0⟩
/-- may a message be: 0, or the error's number -/
def Ar.check (a : Ar) : Int := if a.op < 1 ∨ 2 < a.op ∨ ownH a.smac = false ∨ 281474976710656 ≤ a.tmac then 51 else 0
/-- what every message begins with -/
def arpHead : List UInt8 := [0, 1, 8, 0, 6, 4]
/-- a message's bytes, whatever it is (op as two bytes) -/
def Ar.bytes (a : Ar) : List UInt8 := arpHead ++ (be a.op.toNat 2 ++ (be a.smac 6 ++ (be a.sip 4 ++ (be a.tmac 6 ++ be a.tip 4))))
theorem Ar.bytes_length (a : Ar) : a.bytes.length = 28 := by unfold Ar.bytes arpHead; simp [be_length]
/-- the message of 28 bytes -/
def Ar.of (s : List UInt8) : Ar := ⟨(num ((s.drop 6).take 2) : Nat), num ((s.drop 8).take 6), num ((s.drop 14).take 4), num ((s.drop 18).take 6), num ((s.drop 24).take 4)⟩
/-- the message of bytes, and the error's number -/
def Ar.parse (s : List UInt8) : Ar × Int :=
  if s.length < 28 then (.none, 50)
  else if s.take 6 ≠ arpHead ∨ (Ar.of s).check ≠ 0 then (.none, 51)
  else (Ar.of s, 0)
theorem arp_check_spec {a : Ar} (h : a.check = 0) : 1 ≤ a.op ∧ a.op ≤ 2 ∧ ownH a.smac = true ∧ a.tmac < 281474976710656 := by
  unfold Ar.check at h
  split at h
  · cases h
  · rename_i h1
    refine ⟨by omega, by omega, ?_, by omega⟩
    cases e : ownH a.smac
    · exact absurd (Or.inr (Or.inr (Or.inl e))) h1
    · rfl
theorem arp_check_of {a : Ar} (h1 : 1 ≤ a.op) (h2 : a.op ≤ 2) (h3 : ownH a.smac = true) (h4 : a.tmac < 281474976710656) : a.check = 0 := by
  unfold Ar.check
  rw [h3]
  exact if_neg (by simp; omega)
theorem own_lt {m : Nat} (h : ownH m = true) : m < 281474976710656 := by
  unfold ownH at h
  simp only [Bool.and_eq_true, decide_eq_true_eq] at h
  exact h.1.1
theorem pow4 : (256 : Nat) ^ 4 = 4294967296 := by decide
theorem num_four_lt (l : List UInt8) (h : l.length = 4) : num l < 4294967296 := by have := num_lt l; rw [h, pow4] at this; exact this
theorem be_four (l : List UInt8) (h : l.length = 4) : be (num l) 4 = l := by rw [← h]; exact be_num l
/-- the parts of a message's bytes, whatever stands behind -/
theorem arp_parts (a : Ar) (more : List UInt8) : (a.bytes ++ more).take 6 = arpHead ∧ ((a.bytes ++ more).drop 6).take 2 = be a.op.toNat 2 ∧ ((a.bytes ++ more).drop 8).take 6 = be a.smac 6 ∧ ((a.bytes ++ more).drop 14).take 4 = be a.sip 4 ∧
    ((a.bytes ++ more).drop 18).take 6 = be a.tmac 6 ∧ ((a.bytes ++ more).drop 24).take 4 = be a.tip 4 := by
  have e : a.bytes ++ more = arpHead ++ (be a.op.toNat 2 ++ (be a.smac 6 ++ (be a.sip 4 ++ (be a.tmac 6 ++ (be a.tip 4 ++ more))))) := by unfold Ar.bytes; simp
  have d6 : (a.bytes ++ more).drop 6 = be a.op.toNat 2 ++ (be a.smac 6 ++ (be a.sip 4 ++ (be a.tmac 6 ++ (be a.tip 4 ++ more)))) := by rw [e]; exact drop_front rfl
  have d8 : (a.bytes ++ more).drop 8 = be a.smac 6 ++ (be a.sip 4 ++ (be a.tmac 6 ++ (be a.tip 4 ++ more))) := by rw [show 8 = 6 + 2 from rfl, ← List.drop_drop, d6]; exact drop_front (be_length _ _)
  have d14 : (a.bytes ++ more).drop 14 = be a.sip 4 ++ (be a.tmac 6 ++ (be a.tip 4 ++ more)) := by rw [show 14 = 8 + 6 from rfl, ← List.drop_drop, d8]; exact drop_front (be_length _ _)
  have d18 : (a.bytes ++ more).drop 18 = be a.tmac 6 ++ (be a.tip 4 ++ more) := by rw [show 18 = 14 + 4 from rfl, ← List.drop_drop, d14]; exact drop_front (be_length _ _)
  have d24 : (a.bytes ++ more).drop 24 = be a.tip 4 ++ more := by rw [show 24 = 18 + 6 from rfl, ← List.drop_drop, d18]; exact drop_front (be_length _ _)
  refine ⟨?_, ?_, ?_, ?_, ?_, ?_⟩
  · rw [e]; exact take_front rfl
  · rw [d6]; exact take_front (be_length _ _)
  · rw [d8]; exact take_front (be_length _ _)
  · rw [d14]; exact take_front (be_length _ _)
  · rw [d18]; exact take_front (be_length _ _)
  · rw [d24]; exact take_front (be_length _ _)
/-- what is built is read as it was, whatever stands behind -/
theorem arp_of_bytes (a : Ar) (more : List UInt8) (h1 : 0 ≤ a.op ∧ a.op < 65536) (h2 : a.smac < 281474976710656) (h3 : a.sip < 4294967296) (h4 : a.tmac < 281474976710656) (h5 : a.tip < 4294967296) : Ar.of (a.bytes ++ more) = a := by
  obtain ⟨_, p2, p3, p4, p5, p6⟩ := arp_parts a more
  unfold Ar.of
  rw [p2, p3, p4, p5, p6, num_be _ _ (by rw [pow2]; omega), num_be _ _ (by rw [pow6]; exact h2), num_be _ _ (by rw [pow4]; exact h3), num_be _ _ (by rw [pow6]; exact h4), num_be _ _ (by rw [pow4]; exact h5), show ((a.op.toNat : Nat) : Int) = a.op by omega]
theorem arp_back (a : Ar) (more : List UInt8) (h : a.check = 0) (h3 : a.sip < 4294967296) (h5 : a.tip < 4294967296) : Ar.parse (a.bytes ++ more) = (a, 0) := by
  have c := arp_check_spec h
  have e := arp_of_bytes a more (by omega) (own_lt c.2.2.1) h3 c.2.2.2 h5
  unfold Ar.parse
  rw [if_neg (by rw [List.length_append, Ar.bytes_length]; omega), e, if_neg (by rw [(arp_parts a more).1, h]; simp)]
/-- what is read, built, is the first 28 bytes -/
theorem arp_bytes_of (s : List UInt8) (h : 28 ≤ s.length) (hh : s.take 6 = arpHead) : (Ar.of s).bytes = s.take 28 := by
  have l2 : ((s.drop 6).take 2).length = 2 := by rw [List.length_take, List.length_drop]; omega
  have l3 : ((s.drop 8).take 6).length = 6 := by rw [List.length_take, List.length_drop]; omega
  have l4 : ((s.drop 14).take 4).length = 4 := by rw [List.length_take, List.length_drop]; omega
  have l5 : ((s.drop 18).take 6).length = 6 := by rw [List.length_take, List.length_drop]; omega
  have l6 : ((s.drop 24).take 4).length = 4 := by rw [List.length_take, List.length_drop]; omega
  have e : s.take 28 = s.take 6 ++ ((s.drop 6).take 2 ++ ((s.drop 8).take 6 ++ ((s.drop 14).take 4 ++ ((s.drop 18).take 6 ++ (s.drop 24).take 4)))) := by
    have a : ∀ (n m : Nat), (s.drop n).take m ++ (s.drop (n + m)).take (28 - (n + m)) = (s.drop n).take (m + (28 - (n + m))) := fun n m => by rw [← List.drop_drop, ← List.take_add]
    have b0 : s.take 6 ++ (s.drop 6).take 22 = s.take 28 := by have := a 0 6; simpa using this
    have b1 := a 6 2
    have b2 := a 8 6
    have b3 := a 14 4
    have b4 := a 18 6
    simp only [Nat.reduceAdd, Nat.reduceSub] at b1 b2 b3 b4
    rw [← b0, ← b1, ← b2, ← b3, ← b4]
  unfold Ar.bytes Ar.of
  simp only
  rw [show ((num ((s.drop 6).take 2) : Nat) : Int).toNat = num ((s.drop 6).take 2) by omega, be_two _ l2, be_six' _ l3, be_four _ l4, be_six' _ l5, be_four _ l6, e, hh]
theorem arp_told {s : List UInt8} {r : Ar} (h : Ar.parse s = (r, 0)) : 28 ≤ s.length ∧ r.check = 0 ∧ r.bytes = s.take 28 ∧ r.sip < 4294967296 ∧ r.tip < 4294967296 := by
  unfold Ar.parse at h
  split at h
  · simp at h
  · rename_i h1
    split at h
    · simp at h
    · rename_i h2
      simp only [Prod.mk.injEq, and_true] at h
      subst h
      have hh : s.take 6 = arpHead := Decidable.byContradiction fun e => h2 (Or.inl e)
      have hc : (Ar.of s).check = 0 := Decidable.byContradiction fun e => h2 (Or.inr e)
      exact ⟨by omega, hc, arp_bytes_of s (by omega) hh, num_four_lt _ (by rw [List.length_take, List.length_drop]; omega), num_four_lt _ (by rw [List.length_take, List.length_drop]; omega)⟩
end Go.Proofs.YtljhgehlaehgnaaGreatDoor
