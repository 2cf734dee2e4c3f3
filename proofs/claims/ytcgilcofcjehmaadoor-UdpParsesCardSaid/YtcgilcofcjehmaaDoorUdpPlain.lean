/-
  Plain facts on datagrams as bytes: what is built is parsed as it was, between the same addresses and these the other way round; cut short it is none; with another address its sum is wrong: no function of udp is named here.
-/
import Derived.Test.YtcgilcofcjehmaaDoorHead7
namespace Go.Proofs.YtcgilcofcjehmaaDoor

/-- a datagram, in plain numbers -/
structure Ud where
  src : Int
  dst : Int
  noSum : Bool
  body : List UInt8
/-- no datagram -/
def Ud.none : Ud := ⟨0, 0, false, []⟩
/-- may a datagram be -/
abbrev Ud.ok (u : Ud) : Prop := (0 ≤ u.src ∧ u.src ≤ 65535) ∧ (0 ≤ u.dst ∧ u.dst ≤ 65535) ∧ u.body.length ≤ 65507
/-- may a datagram be: 0, or the error's number -/
def Ud.check (u : Ud) : Int := if u.ok then 0 else 71
theorem check_ok {u : Ud} : u.check = 0 ↔ u.ok := by
  unfold Ud.check
  constructor
  · intro h
    split at h
    · assumption
    · cases h
  · intro h; exact if_pos h
/-- the bytes ahead of the sum -/
def Ud.fore (u : Ud) : List UInt8 := be u.src.toNat 2 ++ (be u.dst.toNat 2 ++ be (8 + u.body.length) 2)
theorem Ud.fore_length (u : Ud) : u.fore.length = 6 := by unfold Ud.fore; simp [be_length]
/-- the word that tells a sum -/
def told (c : Nat) : Nat := if c = 0 then 65535 else c
/-- what a sum goes over, with a word in its place -/
def Ud.over (u : Ud) (s d c : Nat) : List UInt8 := headB s d 17 (8 + u.body.length) ++ (u.fore ++ (be c 2 ++ u.body))
/-- the sum -/
def Ud.sum (u : Ud) (s d : Nat) : Nat := if u.noSum then 0 else told (ck (u.over s d 0))
/-- a datagram's bytes with a sum -/
def Ud.with (u : Ud) (c : Nat) (t : List UInt8) : List UInt8 := u.fore ++ (be c 2 ++ t)
/-- a datagram's bytes -/
def Ud.bytes (u : Ud) (s d : Nat) : List UInt8 := u.with (u.sum s d) u.body
theorem Ud.with_length (u : Ud) (c : Nat) (t : List UInt8) : (u.with c t).length = 8 + t.length := by unfold Ud.with; simp [be_length, Ud.fore_length]; omega
theorem Ud.bytes_length (u : Ud) (s d : Nat) : (u.bytes s d).length = 8 + u.body.length := u.with_length _ _
theorem told_le (c : Nat) (h : c ≤ 65535) : 1 ≤ told c ∧ told c ≤ 65535 := by unfold told; split <;> omega
theorem Ud.sum_le (u : Ud) (s d : Nat) : u.sum s d ≤ 65535 := by
  unfold Ud.sum
  split
  · decide
  · exact (told_le _ (ck_le _)).2
theorem Ud.sum_zero (u : Ud) (s d : Nat) : u.sum s d = 0 ↔ u.noSum = true := by
  unfold Ud.sum
  constructor
  · intro h
    split at h
    · assumption
    · have := (told_le _ (ck_le (u.over s d 0))).1; omega
  · intro h; rw [if_pos h]
/-- the bytes, if it may be -/
def Ud.built (u : Ud) (s d : Nat) : List UInt8 := if u.check = 0 then u.bytes s d else []
theorem tot_two' (e : Nat) (he : e < 65536) : tot (be e 2) = e := by
  have : be e 2 = [UInt8.ofNat (e / 256 % 256), UInt8.ofNat (e % 256)] := rfl
  rw [this]
  show 256 * (UInt8.ofNat (e / 256 % 256)).toNat + (UInt8.ofNat (e % 256)).toNat + 0 = e
  rw [UInt8.toNat_ofNat_of_lt' (by show _ < 256; omega), UInt8.toNat_ofNat_of_lt' (by show _ < 256; omega)]
  omega
/-- so many bytes from a place on, as a number -/
def nm (s : List UInt8) (a n : Nat) : Nat := num ((s.drop a).take n)
theorem nm_lt (s : List UInt8) (a n : Nat) : nm s a n < 256 ^ n := by
  have h := num_lt ((s.drop a).take n)
  exact Nat.lt_of_lt_of_le h (Nat.pow_le_pow_right (by decide) (by rw [List.length_take]; omega))
theorem nm2_lt (s : List UInt8) (a : Nat) : nm s a 2 < 65536 := nm_lt s a 2
theorem drop_fr {a r : List UInt8} {n : Nat} (h : a.length = n) : (a ++ r).drop n = r := by subst h; exact List.drop_left
theorem take_fr {a r : List UInt8} {n : Nat} (h : a.length = n) : (a ++ r).take n = a := by subst h; exact List.take_left
theorem be_nm (s : List UInt8) (a n : Nat) (h : a + n ≤ s.length) : be (nm s a n) n = (s.drop a).take n := by
  have l : ((s.drop a).take n).length = n := by rw [List.length_take, List.length_drop]; omega
  have := be_num ((s.drop a).take n)
  rw [l] at this
  exact this

/-- the datagram of bytes -/
def Ud.of (l : List UInt8) : Ud := ⟨(nm l 0 2 : Nat), (nm l 2 2 : Nat), decide (nm l 6 2 = 0), (l.drop 8).take (nm l 4 2 - 8)⟩
/-- the kind of what is wrong with bytes: 0, if nothing is -/
def kindOf (s d : Nat) (l : List UInt8) : Nat :=
  if l.length < 8 then 1
  else if nm l 4 2 < 8 then 5
  else if l.length < nm l 4 2 then 2
  else if nm l 6 2 ≠ 0 ∧ fold (tot (headB s d 17 (nm l 4 2) ++ l.take (nm l 4 2))) ≠ 65535 then 6
  else 0
/-- a kind's number -/
def numOf (k : Nat) : Int := if k = 0 then 0 else if k ≤ 2 then 70 else if k ≤ 5 then 71 else 72
theorem kindOf_le (s d : Nat) (l : List UInt8) : kindOf s d l ≤ 6 := by
  unfold kindOf
  repeat (first | decide | split)
/-- the datagram of bytes, and the error's number -/
def Ud.parse (s d : Nat) (l : List UInt8) : Ud × Int := if kindOf s d l = 0 then (Ud.of l, 0) else (.none, numOf (kindOf s d l))
theorem kind_spec {s d : Nat} {l : List UInt8} (h : kindOf s d l = 0) : 8 ≤ l.length ∧ 8 ≤ nm l 4 2 ∧ nm l 4 2 ≤ l.length := by
  unfold kindOf at h
  split at h
  · cases h
  · split at h
    · cases h
    · split at h
      · cases h
      · omega
theorem Ud.fore_nums (u : Ud) (c : Nat) (t : List UInt8) (h : u.ok) (hc : c < 65536) :
    nm (u.with c t) 0 2 = u.src.toNat ∧ nm (u.with c t) 2 2 = u.dst.toNat ∧ nm (u.with c t) 4 2 = 8 + u.body.length ∧ nm (u.with c t) 6 2 = c ∧ (u.with c t).drop 8 = t := by
  have e : u.with c t = be u.src.toNat 2 ++ (be u.dst.toNat 2 ++ (be (8 + u.body.length) 2 ++ (be c 2 ++ t))) := by
    unfold Ud.with Ud.fore; simp only [List.append_assoc]
  have step : ∀ {s a t : List UInt8} {n k : Nat}, s.drop n = a ++ t → a.length = k → s.drop (n + k) = t := fun h hk => by rw [← List.drop_drop, h]; exact drop_fr hk
  have d0 : (u.with c t).drop 0 = _ := e
  have d2 := step (n := 0) (k := 2) d0 (be_length _ _)
  have d4 := step (n := 0 + 2) (k := 2) d2 (be_length _ _)
  have d6 := step (k := 2) d4 (be_length _ _)
  have d8 := step (k := 2) d6 (be_length _ _)
  obtain ⟨h1, h2, h3⟩ := h
  have go : ∀ {t : List UInt8} (v n : Nat), v < 256 ^ n → num ((be v n ++ t).take n) = v := fun v n hv => by rw [take_fr (be_length _ _), num_be v n hv]
  refine ⟨?_, ?_, ?_, ?_, d8⟩
  · unfold nm; rw [d0]; exact go _ _ (by omega)
  · unfold nm; rw [d2]; exact go _ _ (by omega)
  · unfold nm; rw [d4]; exact go _ _ (by omega)
  · unfold nm; rw [d6]; exact go _ _ (by omega)
theorem Ud.with_take (u : Ud) (c : Nat) (t : List UInt8) (n : Nat) : (u.with c t).take (8 + n) = u.with c (t.take n) := by
  unfold Ud.with
  rw [← List.append_assoc, ← List.append_assoc, List.take_append]
  have l : (u.fore ++ be c 2).length = 8 := by rw [List.length_append, Ud.fore_length, be_length]
  rw [l, List.take_of_length_le (by rw [l]; omega), show 8 + n - 8 = n by omega]
/-- the kind of a datagram's bytes, with a sum, whatever stands behind -/
theorem kind_with (u : Ud) (c : Nat) (t : List UInt8) (s d : Nat) (h : u.ok) (hc : c < 65536) (ht : u.body.length ≤ t.length) (hb : t.take u.body.length = u.body) :
    kindOf s d (u.with c t) = if c ≠ 0 ∧ fold (tot (u.over s d c)) ≠ 65535 then 6 else 0 := by
  obtain ⟨n0, n2, n4, n6, d8⟩ := u.fore_nums c t h hc
  unfold kindOf
  rw [u.with_length, n4, n6, if_neg (by omega), if_neg (by omega), if_neg (by omega), u.with_take, hb]
  rfl
theorem kind_short (u : Ud) (c : Nat) (t : List UInt8) (s d : Nat) (h : u.ok) (hc : c < 65536) (ht : t.length < u.body.length) : kindOf s d (u.with c t) = 2 := by
  obtain ⟨n0, n2, n4, n6, d8⟩ := u.fore_nums c t h hc
  unfold kindOf
  rw [u.with_length, n4, if_neg (by omega), if_neg (by omega), if_pos (by omega)]
theorem of_with (u : Ud) (s d : Nat) (t : List UInt8) (h : u.ok) (hb : t.take u.body.length = u.body) : Ud.of (u.with (u.sum s d) t) = u := by
  obtain ⟨n0, n2, n4, n6, d8⟩ := u.fore_nums (u.sum s d) t h (by have := u.sum_le s d; omega)
  have e : decide (u.sum s d = 0) = u.noSum := by
    rw [Bool.eq_iff_iff, decide_eq_true_eq]; exact u.sum_zero s d
  unfold Ud.of
  rw [n0, n2, n4, n6, d8, e, show 8 + u.body.length - 8 = u.body.length by omega, hb, Int.toNat_of_nonneg h.1.1, Int.toNat_of_nonneg h.2.1.1]
/-- the words of what a sum goes over -/
def Ud.rest (u : Ud) : Nat := tot ([0] ++ be 17 1 ++ be (8 + u.body.length) 2) + tot u.fore + tot u.body
theorem Ud.tot_over (u : Ud) (s d c : Nat) (hc : c < 65536) : tot (u.over s d c) = tot (be s 4) + tot (be d 4) + u.rest + c := by
  unfold Ud.over Ud.rest
  have e : headB s d 17 (8 + u.body.length) = be s 4 ++ (be d 4 ++ ([0] ++ be 17 1 ++ be (8 + u.body.length) 2)) := by unfold headB; simp only [List.append_assoc]
  rw [tot_append _ _ (by rw [headB_length]), tot_append _ _ (by rw [Ud.fore_length]), tot_append _ _ (by rw [be_length]), tot_two' c hc, e, tot_append _ _ (by rw [be_length]), tot_append _ _ (by rw [be_length])]
  omega
theorem right_told (T : Nat) : fold (T + told (65535 - fold T)) = 65535 := by
  by_cases h : T = 0
  · subst h; decide
  · have h1 := fold_pos T h
    unfold told
    by_cases z : 65535 - fold T = 0
    · rw [if_pos z]
      exact fold_is _ _ (by omega) (by omega) (by omega) (by omega)
    · rw [if_neg z]
      exact fold_is _ _ (by omega) (by omega) (by omega) (by omega)
/-- the sum is right, between the same addresses and these the other way round -/
theorem Ud.right (u : Ud) (s d : Nat) (hn : u.noSum = false) : fold (tot (u.over s d (u.sum s d))) = 65535 ∧ fold (tot (u.over d s (u.sum s d))) = 65535 := by
  have hl : u.sum s d < 65536 := by have := u.sum_le s d; omega
  have e : u.sum s d = told (65535 - fold (tot (be s 4) + tot (be d 4) + u.rest)) := by
    unfold Ud.sum ck
    rw [if_neg (by rw [hn]; decide), u.tot_over s d 0 (by decide), Nat.add_zero]
  have r := right_told (tot (be s 4) + tot (be d 4) + u.rest)
  rw [u.tot_over s d _ hl, u.tot_over d s _ hl, Nat.add_comm (tot (be d 4)), e]
  exact ⟨r, r⟩
theorem kind_bytes (u : Ud) (s d : Nat) (t : List UInt8) (h : u.ok) (ht : u.body.length ≤ t.length) (hb : t.take u.body.length = u.body) :
    kindOf s d (u.with (u.sum s d) t) = 0 ∧ kindOf d s (u.with (u.sum s d) t) = 0 := by
  have hl : u.sum s d < 65536 := by have := u.sum_le s d; omega
  rw [kind_with u _ t s d h hl ht hb, kind_with u _ t d s h hl ht hb]
  by_cases hn : u.noSum = true
  · have := (u.sum_zero s d).2 hn
    exact ⟨if_neg fun x => x.1 this, if_neg fun x => x.1 this⟩
  · have r := u.right s d (by simpa using hn)
    exact ⟨if_neg fun x => x.2 r.1, if_neg fun x => x.2 r.2⟩
/-- what is built is parsed as it was, between the same addresses and these the other way round, whatever stands behind -/
theorem parse_built (u : Ud) (s d : Nat) (r : List UInt8) (h : u.ok) : Ud.parse s d (u.bytes s d ++ r) = (u, 0) ∧ Ud.parse d s (u.bytes s d ++ r) = (u, 0) := by
  have e : u.bytes s d ++ r = u.with (u.sum s d) (u.body ++ r) := by unfold Ud.bytes Ud.with; simp only [List.append_assoc]
  have k := kind_bytes u s d (u.body ++ r) h (by rw [List.length_append]; omega) List.take_left
  rw [e]
  unfold Ud.parse
  rw [if_pos k.1, if_pos k.2, of_with u s d _ h List.take_left]
  exact ⟨rfl, rfl⟩
/-- without a sum any addresses do -/
theorem parse_none (u : Ud) (s d a b : Nat) (h : u.ok) (hn : u.noSum = true) : Ud.parse a b (u.bytes s d) = (u, 0) := by
  have hz := (u.sum_zero s d).2 hn
  have k := kind_with u (u.sum s d) u.body a b h (by omega) (Nat.le_refl _) (List.take_length)
  rw [if_neg fun x => x.1 hz] at k
  unfold Ud.parse Ud.bytes
  rw [if_pos k, of_with u s d _ h List.take_length]
/-- without its last byte it is none -/
theorem parse_short (u : Ud) (s d a b : Nat) (h : u.ok) : Ud.parse a b ((u.bytes s d).take (7 + u.body.length)) = (.none, 70) := by
  have hl : u.sum s d < 65536 := by have := u.sum_le s d; omega
  unfold Ud.parse
  by_cases z : u.body.length = 0
  · have k : kindOf a b ((u.bytes s d).take (7 + u.body.length)) = 1 := by
      unfold kindOf
      rw [if_pos (by rw [List.length_take]; omega)]
    rw [k]; rfl
  · have k : kindOf a b ((u.bytes s d).take (7 + u.body.length)) = 2 := by
      unfold Ud.bytes
      rw [show 7 + u.body.length = 8 + (u.body.length - 1) by omega, u.with_take]
      exact kind_short u _ _ a b h hl (by rw [List.length_take]; omega)
    rw [k]; rfl
theorem tot_four (s : Nat) (h : s < 4294967296) : tot (be s 4) = s / 65536 + s % 65536 := by
  have : be s 4 = [UInt8.ofNat (s / 256 / 256 / 256 % 256), UInt8.ofNat (s / 256 / 256 % 256), UInt8.ofNat (s / 256 % 256), UInt8.ofNat (s % 256)] := rfl
  rw [this]
  show 256 * (UInt8.ofNat (s / 256 / 256 / 256 % 256)).toNat + (UInt8.ofNat (s / 256 / 256 % 256)).toNat + (256 * (UInt8.ofNat (s / 256 % 256)).toNat + (UInt8.ofNat (s % 256)).toNat + 0) = _
  rw [UInt8.toNat_ofNat_of_lt' (by show _ < 256; omega), UInt8.toNat_ofNat_of_lt' (by show _ < 256; omega), UInt8.toNat_ofNat_of_lt' (by show _ < 256; omega), UInt8.toNat_ofNat_of_lt' (by show _ < 256; omega)]
  omega
theorem xor_one (s : Nat) : s ^^^ 1 = s + 1 - 2 * (s % 2) := by
  have h1 : (s ^^^ 1) / 2 = s / 2 := by
    have := Nat.xor_div_two (a := s) (b := 1)
    rw [this]; simp
  have h2 : (s ^^^ 1) % 2 = (s + 1) % 2 := by
    have := Nat.xor_mod_two_pow (a := s) (b := 1) (n := 1)
    rw [Nat.pow_one] at this
    rw [this]
    rcases Nat.mod_two_eq_zero_or_one s with z | z <;> rw [z] <;> simp <;> omega
  omega
/-- with an address that is another one the sum is wrong -/
theorem parse_other (u : Ud) (s d : Nat) (h : u.ok) (hn : u.noSum = false) (hs : s < 4294967296) : Ud.parse (s ^^^ 1) d (u.bytes s d) = (.none, 72) := by
  have hl : u.sum s d < 65536 := by have := u.sum_le s d; omega
  have hz : u.sum s d ≠ 0 := fun x => by have := (u.sum_zero s d).1 x; rw [hn] at this; cases this
  have r := (u.right s d hn).1
  rw [u.tot_over _ _ _ hl, tot_four s hs] at r
  have x := xor_one s
  have hx : s ^^^ 1 < 4294967296 := by omega
  have ne : fold (tot (u.over (s ^^^ 1) d (u.sum s d))) ≠ 65535 := by
    rw [u.tot_over _ _ _ hl, tot_four _ hx]
    generalize s ^^^ 1 = y at *
    have e1 : y / 65536 = s / 65536 := by omega
    have e2 : y % 65536 = s % 65536 + 1 ∨ y % 65536 + 1 = s % 65536 := by omega
    rw [e1]
    clear x hx e1
    generalize tot (be d 4) = D at *
    generalize u.rest = R at *
    generalize u.sum s d = c at *
    generalize s / 65536 = A at *
    generalize s % 65536 = B at *
    generalize y % 65536 = B' at *
    clear hs
    intro q
    have f1 := fold_pos (A + B + D + R + c) (by omega)
    have f2 := fold_pos (A + B' + D + R + c) (by omega)
    rw [r] at f1
    rw [q] at f2
    omega
  have k := kind_with u (u.sum s d) u.body (s ^^^ 1) d h hl (Nat.le_refl _) (List.take_length)
  rw [if_pos ⟨hz, ne⟩] at k
  unfold Ud.parse Ud.bytes
  rw [k]; rfl
end Go.Proofs.YtcgilcofcjehmaaDoor
