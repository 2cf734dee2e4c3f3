/-
  Plain facts on IPv4 packets as bytes: what is built is parsed as it was, what is parsed, built, is the beginning of the bytes, what is older is right, and one byte that is another one: no program is named here.
-/
import Derived.Test.YtojipoifjioglaaDoorPlain
import Derived.Test.YtojipoifjioglaaDoorCsumPlain
namespace Go.Proofs.YtojipoifjioglaaDoor

/-- a packet, in plain numbers -/
structure Pk where
  tos : Int
  id : Int
  whole : Bool
  more : Bool
  off : Int
  ttl : Int
  proto : Int
  src : Nat
  dst : Nat
  body : List UInt8
/-- no packet -/
def Pk.none : Pk := ⟨0, 0, false, false, 0, 0, 0, 0, 0, []⟩
/-- may a packet be -/
abbrev Pk.ok (p : Pk) : Prop := (0 ≤ p.tos ∧ p.tos ≤ 255) ∧ (0 ≤ p.ttl ∧ p.ttl ≤ 255) ∧ (0 ≤ p.proto ∧ p.proto ≤ 255) ∧ (0 ≤ p.id ∧ p.id ≤ 65535) ∧ (0 ≤ p.off ∧ p.off ≤ 8191) ∧ p.body.length ≤ 65515
/-- may a packet be: 0, or the error's number -/
def Pk.check (p : Pk) : Int := if p.ok then 0 else 61
theorem check_ok {p : Pk} : p.check = 0 ↔ p.ok := by
  unfold Pk.check
  constructor
  · intro h
    split at h
    · assumption
    · cases h
  · intro h; exact if_pos h
/-- the word of the flags -/
def Pk.flags (p : Pk) : Nat := p.off.toNat + (if p.whole then 16384 else 0) + (if p.more then 8192 else 0)
/-- the bytes ahead of the checksum -/
def Pk.fore (p : Pk) : List UInt8 := be 69 1 ++ (be p.tos.toNat 1 ++ (be (20 + p.body.length) 2 ++ (be p.id.toNat 2 ++ (be p.flags 2 ++ (be p.ttl.toNat 1 ++ be p.proto.toNat 1)))))
/-- the bytes between the checksum and the body -/
def Pk.aft (p : Pk) : List UInt8 := be p.src 4 ++ be p.dst 4
theorem Pk.fore_length (p : Pk) : p.fore.length = 10 := by unfold Pk.fore; simp [be_length]
theorem Pk.aft_length (p : Pk) : p.aft.length = 8 := by unfold Pk.aft; simp [be_length]
/-- the first twenty bytes, with a checksum -/
def Pk.head (p : Pk) (c : Nat) : List UInt8 := p.fore ++ (be c 2 ++ p.aft)
theorem Pk.head_length (p : Pk) (c : Nat) : (p.head c).length = 20 := by unfold Pk.head; simp [be_length, Pk.fore_length, Pk.aft_length]
/-- the checksum -/
def Pk.sum (p : Pk) : Nat := 65535 - fold (tot p.fore + tot p.aft)
theorem Pk.sum_le (p : Pk) : p.sum ≤ 65535 := Nat.sub_le _ _
/-- a packet's bytes -/
def Pk.bytes (p : Pk) : List UInt8 := p.head p.sum ++ p.body
theorem Pk.bytes_length (p : Pk) : p.bytes.length = 20 + p.body.length := by unfold Pk.bytes; rw [List.length_append, Pk.head_length]
/-- a packet's bytes, if it may be -/
def Pk.built (p : Pk) : List UInt8 := if p.check = 0 then p.bytes else []
/-- a checksum that is right -/
def Pk.right (p : Pk) (c : Nat) : Prop := c < 65536 ∧ fold (tot p.fore + c + tot p.aft) = 65535
theorem tot_two' (e : Nat) (he : e < 65536) : tot (be e 2) = e := by
  have : be e 2 = [UInt8.ofNat (e / 256 % 256), UInt8.ofNat (e % 256)] := rfl
  rw [this]
  show 256 * (UInt8.ofNat (e / 256 % 256)).toNat + (UInt8.ofNat (e % 256)).toNat + 0 = e
  rw [UInt8.toNat_ofNat_of_lt' (by show _ < 256; omega), UInt8.toNat_ofNat_of_lt' (by show _ < 256; omega)]
  omega
theorem Pk.tot_head (p : Pk) (c : Nat) (h : c < 65536) : tot (p.head c) = tot p.fore + c + tot p.aft := by
  unfold Pk.head
  rw [tot_append _ _ (by rw [Pk.fore_length]), tot_append _ _ (by rw [be_length]), tot_two' c h]
  omega
theorem Pk.right_sum (p : Pk) : p.right p.sum := by
  refine ⟨by have := p.sum_le; omega, ?_⟩
  have := fold_seal (tot p.fore + tot p.aft)
  unfold Pk.sum
  rw [← this]
  congr 1
  omega
theorem Pk.fore_pos (p : Pk) : 17664 ≤ tot p.fore := by
  have : p.fore = UInt8.ofNat 69 :: UInt8.ofNat (p.tos.toNat % 256) :: (be (20 + p.body.length) 2 ++ (be p.id.toNat 2 ++ (be p.flags 2 ++ (be p.ttl.toNat 1 ++ be p.proto.toNat 1)))) := rfl
  rw [this]
  show 17664 ≤ 256 * (UInt8.ofNat 69).toNat + (UInt8.ofNat (p.tos.toNat % 256)).toNat + tot _
  rw [show (UInt8.ofNat 69).toNat = 69 from rfl]
  omega
/-- so many bytes from a place on, as a number -/
def nm (s : List UInt8) (a n : Nat) : Nat := num ((s.drop a).take n)
theorem nm_lt (s : List UInt8) (a n : Nat) : nm s a n < 256 ^ n := by
  have h := num_lt ((s.drop a).take n)
  exact Nat.lt_of_lt_of_le h (Nat.pow_le_pow_right (by decide) (by rw [List.length_take]; omega))
theorem nm1_lt (s : List UInt8) (a : Nat) : nm s a 1 < 256 := nm_lt s a 1
theorem nm2_lt (s : List UInt8) (a : Nat) : nm s a 2 < 65536 := nm_lt s a 2
theorem nm4_lt (s : List UInt8) (a : Nat) : nm s a 4 < 4294967296 := nm_lt s a 4
/-- the packet of bytes -/
def Pk.of (s : List UInt8) : Pk :=
  ⟨(nm s 1 1 : Nat), (nm s 4 2 : Nat), decide (nm s 6 2 / 16384 % 2 = 1), decide (nm s 6 2 / 8192 % 2 = 1), (nm s 6 2 % 8192 : Nat), (nm s 8 1 : Nat), (nm s 9 1 : Nat), nm s 12 4, nm s 16 4, (s.drop 20).take (nm s 2 2 - 20)⟩
/-- what is wrong with bytes: 0, or the error's number -/
def flawOf (s : List UInt8) : Int :=
  if s.length < 20 then 60
  else if nm s 0 1 ≠ 69 then 61
  else if fold (tot (s.take 20)) ≠ 65535 then 62
  else if nm s 2 2 < 20 then 61
  else if 32768 ≤ nm s 6 2 then 61
  else if s.length < nm s 2 2 then 60
  else 0
/-- the packet of bytes, and the error's number -/
def Pk.parse (s : List UInt8) : Pk × Int := if flawOf s = 0 then (Pk.of s, 0) else (.none, flawOf s)
/-- the checksum, patched -/
def patched (c o : Nat) : Nat := 65535 - fold ((65535 - c) + (65535 - o) + (o - 256))
/-- bytes with a Ttl 1 less -/
def grown (s : List UInt8) : List UInt8 := s.take 8 ++ (be (nm s 8 2 - 256) 2 ++ (be (patched (nm s 10 2) (nm s 8 2)) 2 ++ s.drop 12))
/-- what is older, and the error's number -/
def olderOf (s : List UInt8) : List UInt8 × Int := if flawOf s = 0 then (if nm s 8 1 = 0 then ([], 61) else (grown s, 0)) else ([], flawOf s)

theorem drop_fr {a r : List UInt8} {n : Nat} (h : a.length = n) : (a ++ r).drop n = r := by subst h; exact List.drop_left
theorem take_fr {a r : List UInt8} {n : Nat} (h : a.length = n) : (a ++ r).take n = a := by subst h; exact List.take_left
/-- where the parts of a packet's bytes begin -/
theorem head_drops (p : Pk) (c : Nat) (r : List UInt8) :
    (p.head c ++ r).drop 1 = be p.tos.toNat 1 ++ (be (20 + p.body.length) 2 ++ (be p.id.toNat 2 ++ (be p.flags 2 ++ (be p.ttl.toNat 1 ++ (be p.proto.toNat 1 ++ (be c 2 ++ (be p.src 4 ++ (be p.dst 4 ++ r)))))))) ∧
    (p.head c ++ r).drop 2 = be (20 + p.body.length) 2 ++ (be p.id.toNat 2 ++ (be p.flags 2 ++ (be p.ttl.toNat 1 ++ (be p.proto.toNat 1 ++ (be c 2 ++ (be p.src 4 ++ (be p.dst 4 ++ r))))))) ∧
    (p.head c ++ r).drop 4 = be p.id.toNat 2 ++ (be p.flags 2 ++ (be p.ttl.toNat 1 ++ (be p.proto.toNat 1 ++ (be c 2 ++ (be p.src 4 ++ (be p.dst 4 ++ r)))))) ∧
    (p.head c ++ r).drop 6 = be p.flags 2 ++ (be p.ttl.toNat 1 ++ (be p.proto.toNat 1 ++ (be c 2 ++ (be p.src 4 ++ (be p.dst 4 ++ r))))) ∧
    (p.head c ++ r).drop 8 = be p.ttl.toNat 1 ++ (be p.proto.toNat 1 ++ (be c 2 ++ (be p.src 4 ++ (be p.dst 4 ++ r)))) ∧
    (p.head c ++ r).drop 9 = be p.proto.toNat 1 ++ (be c 2 ++ (be p.src 4 ++ (be p.dst 4 ++ r))) ∧
    (p.head c ++ r).drop 10 = be c 2 ++ (be p.src 4 ++ (be p.dst 4 ++ r)) ∧
    (p.head c ++ r).drop 12 = be p.src 4 ++ (be p.dst 4 ++ r) ∧
    (p.head c ++ r).drop 16 = be p.dst 4 ++ r ∧
    (p.head c ++ r).drop 20 = r := by
  have e : p.head c ++ r = be 69 1 ++ (be p.tos.toNat 1 ++ (be (20 + p.body.length) 2 ++ (be p.id.toNat 2 ++ (be p.flags 2 ++ (be p.ttl.toNat 1 ++ (be p.proto.toNat 1 ++ (be c 2 ++ (be p.src 4 ++ (be p.dst 4 ++ r))))))))) := by
    unfold Pk.head Pk.fore Pk.aft; simp only [List.append_assoc]
  have step : ∀ {s a t : List UInt8} {n k : Nat}, s.drop n = a ++ t → a.length = k → s.drop (n + k) = t := fun h hk => by rw [← List.drop_drop, h]; exact drop_fr hk
  have d1 := step (n := 0) (k := 1) e (be_length _ _)
  have d2 := step (n := 0 + 1) (k := 1) d1 (be_length _ _)
  have d4 := step (k := 2) d2 (be_length _ _)
  have d6 := step (k := 2) d4 (be_length _ _)
  have d8 := step (k := 2) d6 (be_length _ _)
  have d9 := step (k := 1) d8 (be_length _ _)
  have d10 := step (k := 1) d9 (be_length _ _)
  have d12 := step (k := 2) d10 (be_length _ _)
  have d16 := step (k := 4) d12 (be_length _ _)
  have d20 := step (k := 4) d16 (be_length _ _)
  exact ⟨d1, d2, d4, d6, d8, d9, d10, d12, d16, d20⟩
theorem flags_lt {p : Pk} (h : p.ok) : p.flags < 32768 ∧ decide (p.flags / 16384 % 2 = 1) = p.whole ∧ decide (p.flags / 8192 % 2 = 1) = p.more ∧ ((p.flags % 8192 : Nat) : Int) = p.off := by
  have := h.2.2.2.2.1
  unfold Pk.flags
  cases p.whole <;> cases p.more
  · simp only [Bool.false_eq_true, if_false]
    exact ⟨by omega, decide_eq_false (by omega), decide_eq_false (by omega), by omega⟩
  · simp only [Bool.false_eq_true, if_false, if_true]
    exact ⟨by omega, decide_eq_false (by omega), decide_eq_true (by omega), by omega⟩
  · simp only [Bool.false_eq_true, if_false, if_true]
    exact ⟨by omega, decide_eq_true (by omega), decide_eq_false (by omega), by omega⟩
  · simp only [if_true]
    exact ⟨by omega, decide_eq_true (by omega), decide_eq_true (by omega), by omega⟩
/-- the numbers in a packet's bytes -/
theorem head_nums (p : Pk) (c : Nat) (r : List UInt8) (h : p.ok) (hc : c < 65536) (hs : p.src < 4294967296) (hd : p.dst < 4294967296) :
    nm (p.head c ++ r) 0 1 = 69 ∧ nm (p.head c ++ r) 1 1 = p.tos.toNat ∧ nm (p.head c ++ r) 2 2 = 20 + p.body.length ∧ nm (p.head c ++ r) 4 2 = p.id.toNat ∧ nm (p.head c ++ r) 6 2 = p.flags ∧
    nm (p.head c ++ r) 8 1 = p.ttl.toNat ∧ nm (p.head c ++ r) 9 1 = p.proto.toNat ∧ nm (p.head c ++ r) 10 2 = c ∧ nm (p.head c ++ r) 12 4 = p.src ∧ nm (p.head c ++ r) 16 4 = p.dst := by
  obtain ⟨d1, d2, d4, d6, d8, d9, d10, d12, d16, d20⟩ := head_drops p c r
  have f := (flags_lt h).1
  obtain ⟨h1, h2, h3, h4, h5, h6⟩ := h
  have go : ∀ {t : List UInt8} (v n : Nat), v < 256 ^ n → num ((be v n ++ t).take n) = v := fun v n hv => by rw [take_fr (be_length _ _), num_be v n hv]
  refine ⟨?_, ?_, ?_, ?_, ?_, ?_, ?_, ?_, ?_, ?_⟩
  · have e : (p.head c ++ r).drop 0 = be 69 1 ++ (be p.tos.toNat 1 ++ (be (20 + p.body.length) 2 ++ (be p.id.toNat 2 ++ (be p.flags 2 ++ (be p.ttl.toNat 1 ++ (be p.proto.toNat 1 ++ (be c 2 ++ (be p.src 4 ++ (be p.dst 4 ++ r))))))))) := by
      unfold Pk.head Pk.fore Pk.aft; simp only [List.append_assoc, List.drop_zero]
    unfold nm; rw [e]; exact go _ _ (by decide)
  · unfold nm; rw [d1]; exact go _ _ (by omega)
  · unfold nm; rw [d2]; exact go _ _ (by omega)
  · unfold nm; rw [d4]; exact go _ _ (by omega)
  · unfold nm; rw [d6]; exact go _ _ (by omega)
  · unfold nm; rw [d8]; exact go _ _ (by omega)
  · unfold nm; rw [d9]; exact go _ _ (by omega)
  · unfold nm; rw [d10]; exact go _ _ (by omega)
  · unfold nm; rw [d12]; exact go _ _ (by omega)
  · unfold nm; rw [d16]; exact go _ _ (by omega)
theorem head_take (p : Pk) (c : Nat) (r : List UInt8) : (p.head c ++ r).take 20 = p.head c := take_fr (Pk.head_length p c)
/-- a packet's bytes have no flaw, whatever stands behind -/
theorem flaw_head (p : Pk) (c : Nat) (r : List UInt8) (h : p.ok) (hc : p.right c) (hs : p.src < 4294967296) (hd : p.dst < 4294967296) : flawOf (p.head c ++ r) = if r.length < p.body.length then 60 else 0 := by
  obtain ⟨n0, n1, n2, n4, n6, n8, n9, n10, n12, n16⟩ := head_nums p c r h hc.1 hs hd
  have f := (flags_lt h).1
  unfold flawOf
  rw [if_neg (by rw [List.length_append, Pk.head_length]; omega), if_neg (by rw [n0]; decide), if_neg (by rw [head_take, Pk.tot_head p c hc.1, hc.2]; decide), if_neg (by rw [n2]; omega), if_neg (by rw [n6]; omega), n2, List.length_append, Pk.head_length]
  by_cases z : r.length < p.body.length
  · rw [if_pos z, if_pos (by omega)]
  · rw [if_neg z, if_neg (by omega)]
theorem of_head (p : Pk) (c : Nat) (r : List UInt8) (h : p.ok) (hc : c < 65536) (hs : p.src < 4294967296) (hd : p.dst < 4294967296) : Pk.of (p.head c ++ (p.body ++ r)) = p := by
  obtain ⟨n0, n1, n2, n4, n6, n8, n9, n10, n12, n16⟩ := head_nums p c (p.body ++ r) h hc hs hd
  have d20 := (head_drops p c (p.body ++ r)).2.2.2.2.2.2.2.2.2
  obtain ⟨f1, f2, f3, f4⟩ := flags_lt h
  obtain ⟨h1, h2, h3, h4, h5, h6⟩ := h
  unfold Pk.of
  rw [n1, n2, n4, n6, n8, n9, n12, n16, d20, f2, f3, f4, show 20 + p.body.length - 20 = p.body.length by omega, List.take_left, Int.toNat_of_nonneg h1.1, Int.toNat_of_nonneg h4.1, Int.toNat_of_nonneg h2.1, Int.toNat_of_nonneg h3.1]
theorem parse_head (p : Pk) (c : Nat) (r : List UInt8) (h : p.ok) (hc : p.right c) (hs : p.src < 4294967296) (hd : p.dst < 4294967296) : Pk.parse (p.head c ++ (p.body ++ r)) = (p, 0) := by
  have f := flaw_head p c (p.body ++ r) h hc hs hd
  rw [if_neg (by rw [List.length_append]; omega)] at f
  unfold Pk.parse
  rw [if_pos f, of_head p c r h hc.1 hs hd]
/-- what is built is parsed as it was, whatever stands behind -/
theorem parse_built (p : Pk) (r : List UInt8) (h : p.check = 0) (hs : p.src < 4294967296) (hd : p.dst < 4294967296) : Pk.parse (p.bytes ++ r) = (p, 0) := by
  unfold Pk.bytes
  rw [List.append_assoc]
  exact parse_head p p.sum r (check_ok.1 h) p.right_sum hs hd
theorem flaw_spec {s : List UInt8} (h : flawOf s = 0) : 20 ≤ s.length ∧ nm s 0 1 = 69 ∧ fold (tot (s.take 20)) = 65535 ∧ 20 ≤ nm s 2 2 ∧ nm s 6 2 < 32768 ∧ nm s 2 2 ≤ s.length := by
  unfold flawOf at h
  split at h
  · cases h
  · split at h
    · cases h
    · split at h
      · cases h
      · split at h
        · cases h
        · split at h
          · cases h
          · split at h
            · cases h
            · rename_i a b c d e f
              exact ⟨by omega, Decidable.byContradiction b, Decidable.byContradiction c, by omega, by omega, by omega⟩
theorem of_ok {s : List UInt8} (h : flawOf s = 0) : (Pk.of s).ok ∧ (Pk.of s).src < 4294967296 ∧ (Pk.of s).dst < 4294967296 ∧ (Pk.of s).body.length = nm s 2 2 - 20 := by
  obtain ⟨h1, _, _, h4, h5, h6⟩ := flaw_spec h
  have l : (Pk.of s).body.length = nm s 2 2 - 20 := by
    show ((s.drop 20).take (nm s 2 2 - 20)).length = _
    rw [List.length_take, List.length_drop]; omega
  have a1 := nm1_lt s 1
  have a2 := nm2_lt s 4
  have a3 := nm1_lt s 8
  have a4 := nm1_lt s 9
  have a5 := nm2_lt s 2
  refine ⟨⟨?_, ?_, ?_, ?_, ?_, ?_⟩, nm4_lt s 12, nm4_lt s 16, l⟩
  · show 0 ≤ ((nm s 1 1 : Nat) : Int) ∧ ((nm s 1 1 : Nat) : Int) ≤ 255; omega
  · show 0 ≤ ((nm s 8 1 : Nat) : Int) ∧ ((nm s 8 1 : Nat) : Int) ≤ 255; omega
  · show 0 ≤ ((nm s 9 1 : Nat) : Int) ∧ ((nm s 9 1 : Nat) : Int) ≤ 255; omega
  · show 0 ≤ ((nm s 4 2 : Nat) : Int) ∧ ((nm s 4 2 : Nat) : Int) ≤ 65535; omega
  · show 0 ≤ ((nm s 6 2 % 8192 : Nat) : Int) ∧ ((nm s 6 2 % 8192 : Nat) : Int) ≤ 8191; omega
  · rw [l]; omega
theorem be_nm (s : List UInt8) (a n : Nat) (h : a + n ≤ s.length) : be (nm s a n) n = (s.drop a).take n := by
  have l : ((s.drop a).take n).length = n := by rw [List.length_take, List.length_drop]; omega
  have := be_num ((s.drop a).take n)
  rw [l] at this
  exact this
theorem flags_of (f : Nat) (h : f < 32768) : f % 8192 + (if decide (f / 16384 % 2 = 1) = true then 16384 else 0) + (if decide (f / 8192 % 2 = 1) = true then 8192 else 0) = f := by
  simp only [decide_eq_true_eq]
  split <;> split <;> omega
/-- what is parsed, built with its own checksum, is the beginning of the bytes -/
theorem head_of {s : List UInt8} (h : flawOf s = 0) : (Pk.of s).fore = s.take 10 ∧ (Pk.of s).aft = (s.drop 12).take 8 := by
  obtain ⟨h1, h2, h3, h4, h5, h6⟩ := flaw_spec h
  have l := (of_ok h).2.2.2
  have cat : ∀ a n m, (s.drop a).take n ++ (s.drop (a + n)).take m = (s.drop a).take (n + m) := fun a n m => by rw [← List.drop_drop, ← List.take_add]
  have fl : (Pk.of s).flags = nm s 6 2 := flags_of _ h5
  constructor
  · unfold Pk.fore
    rw [fl, l, show 20 + (nm s 2 2 - 20) = nm s 2 2 by omega, ← h2]
    show be (nm s 0 1) 1 ++ (be ((nm s 1 1 : Nat) : Int).toNat 1 ++ (be (nm s 2 2) 2 ++ (be ((nm s 4 2 : Nat) : Int).toNat 2 ++ (be (nm s 6 2) 2 ++ (be ((nm s 8 1 : Nat) : Int).toNat 1 ++ be ((nm s 9 1 : Nat) : Int).toNat 1))))) = s.take 10
    simp only [Int.toNat_natCast]
    rw [be_nm s 0 1 (by omega), be_nm s 1 1 (by omega), be_nm s 2 2 (by omega), be_nm s 4 2 (by omega), be_nm s 6 2 (by omega), be_nm s 8 1 (by omega), be_nm s 9 1 (by omega)]
    rw [cat 8 1 1, cat 6 2 2, cat 4 2 4, cat 2 2 6, cat 1 1 8, cat 0 1 9, List.drop_zero]
  · unfold Pk.aft
    show be (nm s 12 4) 4 ++ be (nm s 16 4) 4 = _
    rw [be_nm s 12 4 (by omega), be_nm s 16 4 (by omega), cat 12 4 4]
theorem take_parts {s : List UInt8} (h : 20 ≤ s.length) : s.take 20 = s.take 10 ++ (be (nm s 10 2) 2 ++ (s.drop 12).take 8) := by
  have cat : ∀ a n m, (s.drop a).take n ++ (s.drop (a + n)).take m = (s.drop a).take (n + m) := fun a n m => by rw [← List.drop_drop, ← List.take_add]
  rw [be_nm s 10 2 (by omega), cat 10 2 8]
  have := cat 0 10 10
  simpa using this.symm
theorem right_of {s : List UInt8} (h : flawOf s = 0) : (Pk.of s).right (nm s 10 2) ∧ (Pk.of s).head (nm s 10 2) = s.take 20 := by
  obtain ⟨h1, h2, h3, h4, h5, h6⟩ := flaw_spec h
  obtain ⟨e1, e2⟩ := head_of h
  have e : (Pk.of s).head (nm s 10 2) = s.take 20 := by unfold Pk.head; rw [e1, e2, take_parts h1]
  refine ⟨⟨nm2_lt s 10, ?_⟩, e⟩
  rw [← Pk.tot_head _ _ (nm2_lt s 10), e, h3]
/-- two right checksums are one, but for 0 and 65535 -/
theorem sum_one {p : Pk} {c : Nat} (h : p.right c) : p.sum = c ∨ p.sum = 0 ∧ c = 65535 := by
  obtain ⟨h1, h2⟩ := h
  have hp := p.fore_pos
  have a := fold_pos (tot p.fore + tot p.aft) (by omega)
  have b := fold_pos (tot p.fore + c + tot p.aft) (by omega)
  unfold Pk.sum
  omega
/-- what is parsed and built -/
theorem told_of {s : List UInt8} (h : flawOf s = 0) : (Pk.of s).bytes = s.take 10 ++ (be (Pk.of s).sum 2 ++ ((s.drop 12).take (nm s 2 2 - 12))) := by
  obtain ⟨h1, h2, h3, h4, h5, h6⟩ := flaw_spec h
  obtain ⟨e1, e2⟩ := head_of h
  have cat : ∀ a n m, (s.drop a).take n ++ (s.drop (a + n)).take m = (s.drop a).take (n + m) := fun a n m => by rw [← List.drop_drop, ← List.take_add]
  have c := cat 12 8 (nm s 2 2 - 20)
  rw [show 8 + (nm s 2 2 - 20) = nm s 2 2 - 12 by omega] at c
  unfold Pk.bytes Pk.head
  rw [e1, e2, ← c, List.append_assoc, List.append_assoc]
  rfl
/-- what is older -/
theorem grown_head (p : Pk) (c : Nat) (r : List UInt8) (h : p.ok) (hc : p.right c) (hs : p.src < 4294967296) (hd : p.dst < 4294967296) (ht : 1 ≤ p.ttl) :
    ∃ d, ({ p with ttl := p.ttl - 1 } : Pk).right d ∧ grown (p.head c ++ r) = ({ p with ttl := p.ttl - 1 } : Pk).head d ++ r := by
  obtain ⟨n0, n1, n2, n4, n6, n8, n9, n10, n12, n16⟩ := head_nums p c r h hc.1 hs hd
  obtain ⟨d1, d2, d4, d6, d8, d9, d10, d12, d16, d20⟩ := head_drops p c r
  have h2 := h.2.1
  have h3 := h.2.2.1
  have w8 : nm (p.head c ++ r) 8 2 = p.ttl.toNat * 256 + p.proto.toNat := by
    unfold nm
    rw [d8, ← List.append_assoc, take_fr (by simp [be_length])]
    show num (be p.ttl.toNat 1 ++ ([] ++ [UInt8.ofNat (p.proto.toNat % 256)])) = _
    rw [List.nil_append, num_snoc, num_be _ _ (by omega), UInt8.toNat_ofNat_of_lt' (by show _ < 256; omega)]
    omega
  have t8 : (p.head c ++ r).take 8 = be 69 1 ++ (be p.tos.toNat 1 ++ (be (20 + p.body.length) 2 ++ (be p.id.toNat 2 ++ be p.flags 2))) := by
    have e : p.head c ++ r = (be 69 1 ++ (be p.tos.toNat 1 ++ (be (20 + p.body.length) 2 ++ (be p.id.toNat 2 ++ be p.flags 2)))) ++ (be p.ttl.toNat 1 ++ (be p.proto.toNat 1 ++ (be c 2 ++ (be p.src 4 ++ (be p.dst 4 ++ r))))) := by
      unfold Pk.head Pk.fore Pk.aft; simp only [List.append_assoc]
    rw [e]; exact take_fr (by simp [be_length])
  have b2 : be ((p.ttl.toNat - 1) * 256 + p.proto.toNat) 2 = be (p.ttl - 1).toNat 1 ++ be p.proto.toNat 1 := by
    show (([] ++ [UInt8.ofNat (((p.ttl.toNat - 1) * 256 + p.proto.toNat) / 256 % 256)]) ++ [UInt8.ofNat (((p.ttl.toNat - 1) * 256 + p.proto.toNat) % 256)] : List UInt8) = ([] ++ [UInt8.ofNat ((p.ttl - 1).toNat % 256)]) ++ ([] ++ [UInt8.ofNat (p.proto.toNat % 256)])
    rw [show ((p.ttl.toNat - 1) * 256 + p.proto.toNat) / 256 % 256 = (p.ttl - 1).toNat % 256 by omega, show ((p.ttl.toNat - 1) * 256 + p.proto.toNat) % 256 = p.proto.toNat % 256 by omega]
    rfl
  refine ⟨patched c (p.ttl.toNat * 256 + p.proto.toNat), ⟨Nat.lt_of_le_of_lt (Nat.sub_le _ _) (by decide), ?_⟩, ?_⟩
  · have f1 : ∀ t : Int, tot ({ p with ttl := t } : Pk).fore = tot (be 69 1 ++ (be p.tos.toNat 1 ++ (be (20 + p.body.length) 2 ++ (be p.id.toNat 2 ++ be p.flags 2)))) + tot (be t.toNat 1 ++ be p.proto.toNat 1) := fun t => by
      rw [← tot_append _ _ (by simp [be_length])]
      unfold Pk.fore Pk.flags
      simp only [List.append_assoc]
    have f2 : ∀ t : Int, 0 ≤ t → t ≤ 255 → tot (be t.toNat 1 ++ be p.proto.toNat 1) = 256 * t.toNat + p.proto.toNat := fun t t0 t1 => by
      show 256 * (UInt8.ofNat (t.toNat % 256)).toNat + (UInt8.ofNat (p.proto.toNat % 256)).toNat + 0 = _
      rw [UInt8.toNat_ofNat_of_lt' (by show _ < 256; omega), UInt8.toNat_ofNat_of_lt' (by show _ < 256; omega)]
      omega
    have g0 : tot p.fore = _ := f1 p.ttl
    have g1 := f1 (p.ttl - 1)
    rw [f2 _ (by omega) (by omega)] at g0 g1
    have g2 : ({ p with ttl := p.ttl - 1 } : Pk).aft = p.aft := rfl
    have hp := ({ p with ttl := p.ttl - 1 } : Pk).fore_pos
    obtain ⟨hc1, hc2⟩ := hc
    have b := fold_pos (tot p.fore + c + tot p.aft) (by omega)
    rw [g1] at hp
    rw [g1, g2]
    rw [g0] at hc2 b
    generalize tot (be 69 1 ++ (be p.tos.toNat 1 ++ (be (20 + p.body.length) 2 ++ (be p.id.toNat 2 ++ be p.flags 2)))) = A at *
    generalize tot p.aft = B at *
    unfold patched
    have q := fold_pos ((65535 - c) + (65535 - (p.ttl.toNat * 256 + p.proto.toNat)) + (p.ttl.toNat * 256 + p.proto.toNat - 256)) (by omega)
    generalize fold ((65535 - c) + (65535 - (p.ttl.toNat * 256 + p.proto.toNat)) + (p.ttl.toNat * 256 + p.proto.toNat - 256)) = F at *
    exact fold_is _ _ (by omega) (by omega) (by omega) (by omega)
  · unfold grown
    rw [t8, w8, n10, d12, show p.ttl.toNat * 256 + p.proto.toNat - 256 = (p.ttl.toNat - 1) * 256 + p.proto.toNat by omega, b2]
    unfold Pk.head Pk.fore Pk.aft Pk.flags
    simp only [List.append_assoc]
theorem older_head (p : Pk) (c : Nat) (r : List UInt8) (h : p.ok) (hc : p.right c) (hs : p.src < 4294967296) (hd : p.dst < 4294967296) (hr : p.body.length ≤ r.length) :
    (p.ttl = 0 → olderOf (p.head c ++ r) = ([], 61)) ∧ (1 ≤ p.ttl → olderOf (p.head c ++ r) = (grown (p.head c ++ r), 0)) := by
  have n8 := (head_nums p c r h hc.1 hs hd).2.2.2.2.2.1
  have f := flaw_head p c r h hc hs hd
  rw [if_neg (by omega)] at f
  unfold olderOf
  rw [if_pos f, n8]
  exact ⟨fun z => by rw [if_pos (by omega)], fun z => by rw [if_neg (by omega)]⟩
/-- cut short anywhere it is none -/
theorem flaw_short (p : Pk) (k : Nat) (h : p.ok) (hs : p.src < 4294967296) (hd : p.dst < 4294967296) (hk : k < p.bytes.length) : flawOf (p.bytes.take k) = 60 := by
  rw [Pk.bytes_length] at hk
  by_cases z : k < 20
  · unfold flawOf
    rw [if_pos (by rw [List.length_take]; omega)]
  · have e : p.bytes.take k = p.head p.sum ++ p.body.take (k - 20) := by
      unfold Pk.bytes
      rw [List.take_append, Pk.head_length, List.take_of_length_le (by rw [Pk.head_length]; omega)]
    rw [e, flaw_head p p.sum _ h p.right_sum hs hd, if_pos (by rw [List.length_take]; omega)]
/-- one byte of the first twenty that is another one -/
theorem flaw_spoilt (p : Pk) (k : Nat) (c : UInt8) (hk : k < 20) (hl : k < p.bytes.length) (hc : c ≠ p.bytes[k]) : flawOf (p.bytes.set k c) ≠ 0 := by
  intro h
  obtain ⟨h1, h2, h3, h4, h5, h6⟩ := flaw_spec h
  have hkh : k < (p.head p.sum).length := by rw [Pk.head_length]; exact hk
  have e : (p.bytes.set k c).take 20 = (p.head p.sum).set k c := by
    unfold Pk.bytes
    rw [List.set_append_left _ _ hkh]
    exact take_fr (by rw [List.length_set, Pk.head_length])
  have eb : p.bytes[k] = (p.head p.sum)[k] := by unfold Pk.bytes; exact List.getElem_append_left hkh
  rw [e] at h3
  have t := tot_set (p.head p.sum) k c hkh
  have r := p.right_sum
  rw [Pk.tot_head _ _ r.1] at t
  rw [← eb] at t
  have hp := p.fore_pos
  have b := fold_pos (tot p.fore + p.sum + tot p.aft) (by omega)
  rw [r.2] at b
  have x1 := c.toNat_lt
  have x2 := (p.bytes[k]).toNat_lt
  have ne : c.toNat ≠ (p.bytes[k]).toNat := fun x => hc (UInt8.toNat_inj.1 x)
  generalize (p.bytes[k]).toNat = y at *
  generalize c.toNat = x at *
  generalize tot ((p.head p.sum).set k c) = T at *
  by_cases z : T = 0
  · rw [z] at h3; exact absurd h3 (by decide)
  · have q := fold_pos T z
    rw [h3] at q
    split at t <;> omega
end Go.Proofs.YtojipoifjioglaaDoor
