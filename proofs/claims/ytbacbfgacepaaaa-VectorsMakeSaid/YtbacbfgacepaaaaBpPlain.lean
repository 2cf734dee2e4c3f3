/-
  Plain facts on bridges' messages as bytes: what is built is parsed as it was, whatever stands behind; what is parsed may be; cut short it is none: no program is named here.
-/
import Derived.Test.YtbacbfgacepaaaaMacPlain
import Derived.Test.YtbacbfgacepaaaaEtherBackPlain
namespace Go.Proofs.Ytbacbfgacepaaaa

/-- a bridges' message, in plain numbers -/
structure Bp where
  kind : Int
  change : Bool
  propose : Bool
  learn : Bool
  forward : Bool
  agree : Bool
  ack : Bool
  role : Int
  root : Nat
  cost : Int
  bridge : Nat
  port : Int
  age : Int
  maxAge : Int
  hello : Int
  delay : Int
/-- no message -/
def Bp.none : Bp := ⟨0, false, false, false, false, false, false, 0, 0, 0, 0, 0, 0, 0, 0, 0⟩
/-- the message that something has changed -/
def Bp.turn : Bp := ⟨128, false, false, false, false, false, false, 0, 0, 0, 0, 0, 0, 0, 0, 0⟩
/-- each number has room in its bytes -/
abbrev Bp.room (b : Bp) : Prop := (0 ≤ b.role ∧ b.role ≤ 3) ∧ (0 ≤ b.cost ∧ b.cost ≤ 4294967295) ∧ (0 ≤ b.port ∧ b.port ≤ 65535) ∧ (0 ≤ b.age ∧ b.age ≤ 65535) ∧ (0 ≤ b.maxAge ∧ b.maxAge ≤ 65535) ∧ (0 ≤ b.hello ∧ b.hello ≤ 65535) ∧ (0 ≤ b.delay ∧ b.delay ≤ 65535)
/-- no flag but two -/
abbrev Bp.few (b : Bp) : Prop := b.propose = false ∧ b.learn = false ∧ b.forward = false ∧ b.agree = false ∧ b.role = 0
/-- nothing but its kind -/
abbrev Bp.bare (b : Bp) : Prop := b = { Bp.none with kind := b.kind }
/-- may a message be -/
def Bp.ok (b : Bp) : Prop := b = Bp.turn ∨ b.kind = 0 ∧ b.room ∧ b.few ∨ b.kind = 2 ∧ b.room
/-- the flags -/
def Bp.flags (b : Bp) : Nat := b.change.toNat + 2 * b.propose.toNat + 4 * b.role.toNat + 16 * b.learn.toNat + 32 * b.forward.toNat + 64 * b.agree.toNat + 128 * b.ack.toNat
theorem bool_is {x : Bool} {n : Nat} (h : n = x.toNat) : decide (n = 1) = x := by subst h; cases x <;> rfl
theorem Bp.flags_back (b : Bp) (h : 0 ≤ b.role ∧ b.role ≤ 3) : b.flags < 256 ∧ decide (b.flags % 2 = 1) = b.change ∧ decide (b.flags / 2 % 2 = 1) = b.propose ∧ ((b.flags / 4 % 4 : Nat) : Int) = b.role ∧
    decide (b.flags / 16 % 2 = 1) = b.learn ∧ decide (b.flags / 32 % 2 = 1) = b.forward ∧ decide (b.flags / 64 % 2 = 1) = b.agree ∧ decide (b.flags / 128 = 1) = b.ack := by
  have h1 := b.change.toNat_le
  have h2 := b.propose.toNat_le
  have h3 := b.learn.toNat_le
  have h4 := b.forward.toNat_le
  have h5 := b.agree.toNat_le
  have h6 := b.ack.toNat_le
  unfold Bp.flags
  exact ⟨by omega, bool_is (by omega), bool_is (by omega), by omega, bool_is (by omega), bool_is (by omega), bool_is (by omega), bool_is (by omega)⟩
/-- what every message begins with -/
def bpHead : List UInt8 := [66, 66, 3, 0, 0]
/-- what a long message tells, from the flags on -/
def Bp.fields (b : Bp) : List UInt8 := be b.flags 1 ++ (be b.root 8 ++ (be b.cost.toNat 4 ++ (be b.bridge 8 ++ (be b.port.toNat 2 ++ (be b.age.toNat 2 ++ (be b.maxAge.toNat 2 ++ (be b.hello.toNat 2 ++ be b.delay.toNat 2)))))))
theorem Bp.fields_length (b : Bp) : b.fields.length = 31 := by unfold Bp.fields; simp [be_length]
/-- a message's bytes -/
def Bp.bytes (b : Bp) : List UInt8 := if b.kind = 128 then bpHead ++ [0, 128] else if b.kind = 0 then bpHead ++ ([0, 0] ++ b.fields) else bpHead ++ ([2, 2] ++ (b.fields ++ [0]))
theorem Bp.bytes_length (b : Bp) : b.bytes.length = if b.kind = 128 then 7 else if b.kind = 0 then 38 else 39 := by
  unfold Bp.bytes bpHead
  split
  · rfl
  · split <;> simp [Bp.fields_length]
/-- so many bytes from a place on, as a number -/
def nm (s : List UInt8) (a n : Nat) : Nat := num ((s.drop a).take n)
theorem nm_lt (s : List UInt8) (a n : Nat) : nm s a n < 256 ^ n := by
  have h := num_lt ((s.drop a).take n)
  exact Nat.lt_of_lt_of_le h (Nat.pow_le_pow_right (by decide) (by rw [List.length_take]; omega))
theorem nm1_lt (s : List UInt8) (a : Nat) : nm s a 1 < 256 := nm_lt s a 1
theorem nm2_lt (s : List UInt8) (a : Nat) : nm s a 2 < 65536 := nm_lt s a 2
theorem nm4_lt (s : List UInt8) (a : Nat) : nm s a 4 < 4294967296 := nm_lt s a 4
theorem nm8_lt (s : List UInt8) (a : Nat) : nm s a 8 < 18446744073709551616 := nm_lt s a 8
/-- the message of 38 bytes -/
def Bp.conf (l : List UInt8) : Bp := ⟨0, decide (nm l 7 1 % 2 = 1), false, false, false, false, decide (nm l 7 1 / 128 = 1), 0, nm l 8 8, (nm l 16 4 : Nat), nm l 20 8, (nm l 28 2 : Nat), (nm l 30 2 : Nat), (nm l 32 2 : Nat), (nm l 34 2 : Nat), (nm l 36 2 : Nat)⟩
/-- the message of 39 bytes -/
def Bp.rap (l : List UInt8) : Bp := ⟨2, decide (nm l 7 1 % 2 = 1), decide (nm l 7 1 / 2 % 2 = 1), decide (nm l 7 1 / 16 % 2 = 1), decide (nm l 7 1 / 32 % 2 = 1), decide (nm l 7 1 / 64 % 2 = 1), decide (nm l 7 1 / 128 = 1), (nm l 7 1 / 4 % 4 : Nat), nm l 8 8, (nm l 16 4 : Nat), nm l 20 8, (nm l 28 2 : Nat), (nm l 30 2 : Nat), (nm l 32 2 : Nat), (nm l 34 2 : Nat), (nm l 36 2 : Nat)⟩
/-- the message of bytes, and the error's number -/
def Bp.parse (l : List UInt8) : Bp × Int :=
  if l.length < 7 then (.none, 90)
  else if l.take 5 ≠ bpHead then (.none, 91)
  else if nm l 5 2 = 128 then (.turn, 0)
  else if nm l 5 2 = 0 then if l.length < 38 then (.none, 90) else (.conf l, 0)
  else if nm l 5 2 = 514 then if l.length < 39 then (.none, 90) else (.rap l, 0)
  else (.none, 91)
/-- the numbers of a long message's bytes -/
theorem Bp.nums (b : Bp) (k0 k1 : UInt8) (t : List UInt8) (h : b.room) (hr : b.root < 18446744073709551616) (hb : b.bridge < 18446744073709551616) :
    (bpHead ++ ([k0, k1] ++ (b.fields ++ t))).take 5 = bpHead ∧ nm (bpHead ++ ([k0, k1] ++ (b.fields ++ t))) 5 2 = num [k0, k1] ∧
    nm (bpHead ++ ([k0, k1] ++ (b.fields ++ t))) 7 1 = b.flags ∧ nm (bpHead ++ ([k0, k1] ++ (b.fields ++ t))) 8 8 = b.root ∧ ((nm (bpHead ++ ([k0, k1] ++ (b.fields ++ t))) 16 4 : Nat) : Int) = b.cost ∧
    nm (bpHead ++ ([k0, k1] ++ (b.fields ++ t))) 20 8 = b.bridge ∧ ((nm (bpHead ++ ([k0, k1] ++ (b.fields ++ t))) 28 2 : Nat) : Int) = b.port ∧ ((nm (bpHead ++ ([k0, k1] ++ (b.fields ++ t))) 30 2 : Nat) : Int) = b.age ∧
    ((nm (bpHead ++ ([k0, k1] ++ (b.fields ++ t))) 32 2 : Nat) : Int) = b.maxAge ∧ ((nm (bpHead ++ ([k0, k1] ++ (b.fields ++ t))) 34 2 : Nat) : Int) = b.hello ∧ ((nm (bpHead ++ ([k0, k1] ++ (b.fields ++ t))) 36 2 : Nat) : Int) = b.delay := by
  obtain ⟨l, hl⟩ : ∃ l, l = bpHead ++ ([k0, k1] ++ (b.fields ++ t)) := ⟨_, rfl⟩
  have step : ∀ {s a t : List UInt8} {n k : Nat}, s.drop n = a ++ t → a.length = k → s.drop (n + k) = t := fun h hk => by rw [← List.drop_drop, h]; exact drop_front hk
  have e : l = bpHead ++ ([k0, k1] ++ (be b.flags 1 ++ (be b.root 8 ++ (be b.cost.toNat 4 ++ (be b.bridge 8 ++ (be b.port.toNat 2 ++ (be b.age.toNat 2 ++ (be b.maxAge.toNat 2 ++ (be b.hello.toNat 2 ++ (be b.delay.toNat 2 ++ t)))))))))) := by
    rw [hl]; unfold Bp.fields; simp only [List.append_assoc]
  have hf := (b.flags_back h.1).1
  obtain ⟨h1, h2, h3, h4, h5, h6, h7⟩ := h
  rw [← hl]
  clear hl
  have d0 : l.drop 0 = _ := e
  have d5 := step (n := 0) (k := 5) d0 rfl
  have d7 := step (n := 0 + 5) (k := 2) d5 rfl
  have d8 := step (k := 1) d7 (be_length _ _)
  have d16 := step (k := 8) d8 (be_length _ _)
  have d20 := step (k := 4) d16 (be_length _ _)
  have d28 := step (k := 8) d20 (be_length _ _)
  have d30 := step (k := 2) d28 (be_length _ _)
  have d32 := step (k := 2) d30 (be_length _ _)
  have d34 := step (k := 2) d32 (be_length _ _)
  have d36 := step (k := 2) d34 (be_length _ _)
  have go : ∀ {t : List UInt8} (v n : Nat), v < 256 ^ n → num ((be v n ++ t).take n) = v := fun v n hv => by rw [take_front (be_length _ _), num_be v n hv]
  refine ⟨?_, ?_, ?_, ?_, ?_, ?_, ?_, ?_, ?_, ?_, ?_⟩
  · rw [e]; exact take_front rfl
  · unfold nm; rw [d5]; exact congrArg num (take_front rfl)
  · unfold nm; rw [d7]; exact go _ _ hf
  · unfold nm; rw [d8]; exact go _ _ hr
  · unfold nm; rw [d16, go _ _ (by omega)]; omega
  · unfold nm; rw [d20]; exact go _ _ hb
  · unfold nm; rw [d28, go _ _ (by omega)]; omega
  · unfold nm; rw [d30, go _ _ (by omega)]; omega
  · unfold nm; rw [d32, go _ _ (by omega)]; omega
  · unfold nm; rw [d34, go _ _ (by omega)]; omega
  · unfold nm; rw [d36, go _ _ (by omega)]; omega
/-- what is built is parsed as it was, whatever stands behind -/
theorem Bp.parse_built (b : Bp) (r : List UInt8) (h : b.ok) (hr : b.root < 18446744073709551616) (hb : b.bridge < 18446744073709551616) : Bp.parse (b.bytes ++ r) = (b, 0) := by
  rcases h with rfl | ⟨k, h, f⟩ | ⟨k, h⟩
  · have e : Bp.turn.bytes ++ r = bpHead ++ ([0, 128] ++ r) := rfl
    have l : (bpHead ++ ([0, 128] ++ r)).length = 7 + r.length := by simp [bpHead]; omega
    have n5 : nm (bpHead ++ ([0, 128] ++ r)) 5 2 = 128 := by
      unfold nm
      rw [drop_front (a := bpHead) (n := 5) rfl, take_front (a := [0, 128]) (n := 2) rfl]; rfl
    rw [e]
    unfold Bp.parse
    rw [if_neg (by omega), if_neg (by rw [take_front (a := bpHead) (n := 5) rfl]; simp), if_pos n5]
  · have e : b.bytes ++ r = bpHead ++ ([0, 0] ++ (b.fields ++ r)) := by
      unfold Bp.bytes; rw [if_neg (by omega), if_pos k]; simp only [List.append_assoc]
    obtain ⟨n0, n5, n7, n8, n16, n20, n28, n30, n32, n34, n36⟩ := b.nums 0 0 r h hr hb
    obtain ⟨_, b1, _, _, _, _, _, b7⟩ := b.flags_back h.1
    have l : (bpHead ++ ([0, 0] ++ (b.fields ++ r))).length = 38 + r.length := by simp [bpHead, Bp.fields_length]; omega
    have z : num [0, 0] = 0 := rfl
    rw [e]
    unfold Bp.parse
    rw [if_neg (by omega), if_neg (by rw [n0]; simp), n5, z, if_neg (by decide), if_pos rfl, if_neg (by omega)]
    unfold Bp.conf
    rw [n7, n8, n16, n20, n28, n30, n32, n34, n36, b1, b7]
    obtain ⟨f1, f2, f3, f4, f5⟩ := f
    cases b
    simp only at k f1 f2 f3 f4 f5
    subst k f1 f2 f3 f4 f5
    rfl
  · have e : b.bytes ++ r = bpHead ++ ([2, 2] ++ (b.fields ++ (0 :: r))) := by
      unfold Bp.bytes; rw [if_neg (by omega), if_neg (by omega)]; simp only [List.append_assoc, List.cons_append, List.nil_append]
    obtain ⟨n0, n5, n7, n8, n16, n20, n28, n30, n32, n34, n36⟩ := b.nums 2 2 (0 :: r) h hr hb
    obtain ⟨_, b1, b2, b3, b4, b5, b6, b7⟩ := b.flags_back h.1
    have l : (bpHead ++ ([2, 2] ++ (b.fields ++ (0 :: r)))).length = 39 + r.length := by simp [bpHead, Bp.fields_length]; omega
    have z : num [2, 2] = 514 := rfl
    rw [e]
    unfold Bp.parse
    rw [if_neg (by omega), if_neg (by rw [n0]; simp), n5, z, if_neg (by decide), if_neg (by decide), if_pos rfl, if_neg (by omega)]
    unfold Bp.rap
    rw [n7, n8, n16, n20, n28, n30, n32, n34, n36, b1, b2, b3, b4, b5, b6, b7]
    cases b
    simp only at k
    subst k
    rfl
theorem Bp.parse_back (b : Bp) (h : b.ok) (hr : b.root < 18446744073709551616) (hb : b.bridge < 18446744073709551616) : Bp.parse b.bytes = (b, 0) := by
  have := b.parse_built [] h hr hb
  rwa [List.append_nil] at this
/-- what is parsed may be, and has no more bytes; what is none is none -/
theorem Bp.parsed (l : List UInt8) : ((Bp.parse l).2 = 0 ∧ (Bp.parse l).1.ok ∧ (Bp.parse l).1.bytes.length ≤ l.length ∨ ((Bp.parse l).2 = 90 ∨ (Bp.parse l).2 = 91) ∧ (Bp.parse l).1 = .none) ∧
    (Bp.parse l).1.root < 18446744073709551616 ∧ (Bp.parse l).1.bridge < 18446744073709551616 := by
  have c1 := nm1_lt l 7
  have c4 := nm4_lt l 16
  have p1 := nm2_lt l 28
  have p2 := nm2_lt l 30
  have p3 := nm2_lt l 32
  have p4 := nm2_lt l 34
  have p5 := nm2_lt l 36
  unfold Bp.parse
  split
  · exact ⟨Or.inr ⟨Or.inl rfl, rfl⟩, by decide, by decide⟩
  · split
    · exact ⟨Or.inr ⟨Or.inr rfl, rfl⟩, by decide, by decide⟩
    · split
      · exact ⟨Or.inl ⟨rfl, Or.inl rfl, by show 7 ≤ l.length; omega⟩, by decide, by decide⟩
      · split
        · split
          · exact ⟨Or.inr ⟨Or.inl rfl, rfl⟩, by decide, by decide⟩
          · refine ⟨Or.inl ⟨rfl, Or.inr (Or.inl ⟨rfl, ?_, rfl, rfl, rfl, rfl, rfl⟩), ?_⟩, nm8_lt l 8, nm8_lt l 20⟩
            · unfold Bp.room Bp.conf; simp only; omega
            · rw [Bp.bytes_length]; show 38 ≤ l.length; omega
        · split
          · split
            · exact ⟨Or.inr ⟨Or.inl rfl, rfl⟩, by decide, by decide⟩
            · refine ⟨Or.inl ⟨rfl, Or.inr (Or.inr ⟨rfl, ?_⟩), ?_⟩, nm8_lt l 8, nm8_lt l 20⟩
              · unfold Bp.room Bp.rap; simp only; omega
              · rw [Bp.bytes_length]; show 39 ≤ l.length; omega
          · exact ⟨Or.inr ⟨Or.inr rfl, rfl⟩, by decide, by decide⟩
/-- cut short it is none -/
theorem Bp.parse_short (b : Bp) (n : Nat) (h : b.ok) (hn : n < b.bytes.length) (hr : b.root < 18446744073709551616) (hb : b.bridge < 18446744073709551616) : Bp.parse (b.bytes.take n) = (.none, 90) := by
  have hl : (b.bytes.take n).length = n := by rw [List.length_take]; omega
  have hbl := b.bytes_length
  by_cases s : n < 7
  · unfold Bp.parse
    rw [if_pos (by omega)]
  · have t5 : (b.bytes.take n).take 5 = b.bytes.take 5 := by rw [List.take_take, Nat.min_eq_left (by omega)]
    have t7 : nm (b.bytes.take n) 5 2 = nm b.bytes 5 2 := by
      unfold nm; rw [List.drop_take, List.take_take, Nat.min_eq_left (by omega)]
    rcases h with rfl | ⟨k, h, f⟩ | ⟨k, h⟩
    · exact absurd hn (by show ¬ n < 7; omega)
    · rw [if_neg (by omega), if_pos k] at hbl
      have e : b.bytes = bpHead ++ ([0, 0] ++ (b.fields ++ [])) := by
        unfold Bp.bytes; rw [if_neg (by omega), if_pos k, List.append_nil]
      obtain ⟨n0, n5, _⟩ := b.nums 0 0 [] h hr hb
      rw [← e] at n0 n5
      have z : num [0, 0] = 0 := rfl
      unfold Bp.parse
      rw [if_neg (by omega), if_neg (by rw [t5, n0]; simp), t7, n5, z, if_neg (by decide), if_pos rfl, if_pos (by omega)]
    · rw [if_neg (by omega), if_neg (by omega)] at hbl
      have e : b.bytes = bpHead ++ ([2, 2] ++ (b.fields ++ [0])) := by
        unfold Bp.bytes; rw [if_neg (by omega), if_neg (by omega)]
      obtain ⟨n0, n5, _⟩ := b.nums 2 2 [0] h hr hb
      rw [← e] at n0 n5
      have z : num [2, 2] = 514 := rfl
      unfold Bp.parse
      rw [if_neg (by omega), if_neg (by rw [t5, n0]; simp), t7, n5, z, if_neg (by decide), if_neg (by decide), if_pos rfl, if_pos (by omega)]
end Go.Proofs.Ytbacbfgacepaaaa
