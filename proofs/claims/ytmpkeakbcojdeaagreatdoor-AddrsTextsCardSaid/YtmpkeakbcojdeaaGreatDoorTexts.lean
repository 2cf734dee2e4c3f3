/-
  Plain facts on texts of parts with a sign between each two: no program is named here.
-/
import Derived.Test.YtmpkeakbcojdeaaGreatDoorUnhex
import Derived.Lib.Split
import Derived.Lib.Join
import Derived.Lib.ItoaNum
import Derived.Lib.ParseIntB
namespace Go.Proofs.YtmpkeakbcojdeaaGreatDoor

theorem index_out (c : UInt8) : ∀ p : List UInt8, c ∉ p → Lib.index p [c] = -1
  | [], _ => rfl
  | b :: l, h => by
    have hb : ¬ c = b := fun e => h (by simp [e])
    have hl : c ∉ l := fun e => h (List.mem_cons_of_mem _ e)
    unfold Lib.index
    rw [index_out c l hl]
    simp [List.isPrefixOf, hb]
theorem index_in (c : UInt8) (r : List UInt8) : ∀ p : List UInt8, c ∉ p → Lib.index (p ++ c :: r) [c] = p.length
  | [], _ => by
    show Lib.index (c :: r) [c] = 0
    unfold Lib.index
    simp [List.isPrefixOf]
  | b :: l, h => by
    have hb : ¬ c = b := fun e => h (by simp [e])
    have hl : c ∉ l := fun e => h (List.mem_cons_of_mem _ e)
    show Lib.index (b :: (l ++ c :: r)) [c] = _
    unfold Lib.index
    rw [index_in c r l hl]
    have : ((l.length : Int) == -1) = false := by rw [beq_eq_false_iff_ne]; omega
    simp [List.isPrefixOf, hb, this]
theorem index_parts (c : UInt8) (s : List UInt8) (h : Lib.index s [c] ≠ -1) : ∃ p r : List UInt8, s = p ++ c :: r ∧ c ∉ p ∧ Lib.index s [c] = p.length := by
  by_cases hm : c ∈ s
  · obtain ⟨p, r, rfl, hp⟩ := List.eq_append_cons_of_mem hm
    exact ⟨p, r, rfl, hp, index_in c r p hp⟩
  · exact absurd (index_out c s hm) h

theorem join_more (x y : List UInt8) (r : List (List UInt8)) (sep : List UInt8) : Lib.join (x :: y :: r) sep = x ++ sep ++ Lib.join (y :: r) sep := by
  rw [Lib.join_cons, Lib.join_cons]
  simp [Lib.joinTail]
theorem splitK_cons (c : UInt8) (k : Nat) (s : List UInt8) : ∃ y r, Lib.splitK [c] 0 k s = y :: r := by
  cases k with
  | zero => exact ⟨s, [], rfl⟩
  | succ k =>
    unfold Lib.splitK
    split
    · exact ⟨_, _, rfl⟩
    · exact ⟨_, _, rfl⟩
theorem splitK_none (c : UInt8) (k : Nat) (s : List UInt8) (h : Lib.index s [c] = -1) : Lib.splitK [c] 0 k s = [s] := by
  cases k with
  | zero => rfl
  | succ k => unfold Lib.splitK; rw [h]; rfl
theorem splitK_at (c : UInt8) (k : Nat) (p r : List UInt8) (h : Lib.index (p ++ c :: r) [c] = p.length) : Lib.splitK [c] 0 (k + 1) (p ++ c :: r) = p :: Lib.splitK [c] 0 k r := by
  rw [Lib.splitK, h]
  have : ((p.length : Int) == -1) = false := by rw [beq_eq_false_iff_ne]; omega
  rw [this]
  simp [List.drop_append, List.drop_of_length_le]
/-- the parts, put together, are the text -/
theorem join_split (c : UInt8) : ∀ (k : Nat) (s : List UInt8), Lib.join (Lib.splitK [c] 0 k s) [c] = s
  | 0, s => Lib.join_one s [c]
  | k + 1, s => by
    by_cases h : Lib.index s [c] = -1
    · rw [splitK_none c _ s h, Lib.join_one]
    · obtain ⟨p, r, rfl, _, hi⟩ := index_parts c s h
      rw [splitK_at c k p r hi]
      obtain ⟨y, t, hy⟩ := splitK_cons c k r
      have ih := join_split c k r
      rw [hy] at ih ⊢
      rw [join_more, ih]
      simp
/-- parts without the sign, put together, come apart as they were -/
theorem split_join (c : UInt8) : ∀ (r : List (List UInt8)) (x : List UInt8) (k : Nat), (∀ p ∈ x :: r, c ∉ p) → r.length ≤ k → Lib.splitK [c] 0 k (Lib.join (x :: r) [c]) = x :: r
  | [], x, k, h, _ => by rw [Lib.join_one]; exact splitK_none c k x (index_out c x (h x (by simp)))
  | y :: r, x, k, h, hk => by
    obtain ⟨k, rfl⟩ : ∃ j, k = j + 1 := ⟨k - 1, by simp at hk; omega⟩
    have e : x ++ [c] ++ Lib.join (y :: r) [c] = x ++ c :: Lib.join (y :: r) [c] := by simp
    rw [join_more, e, splitK_at c k _ _ (index_in c _ x (h x (by simp)))]
    rw [split_join c r y k (fun p hp => h p (List.mem_cons_of_mem _ hp)) (by simpa using hk)]

/-- each part told by f, all or none -/
def ones (f : List UInt8 → Option UInt8) : List (List UInt8) → Option (List UInt8)
  | [] => some []
  | p :: r => match f p with
    | none => none
    | some c => (ones f r).map (c :: ·)
theorem ones_map (f : List UInt8 → Option UInt8) (g : UInt8 → List UInt8) (hf : ∀ c, f (g c) = some c) : ∀ l : List UInt8, ones f (l.map g) = some l
  | [] => rfl
  | c :: l => by rw [List.map_cons, ones, hf c]; simp [ones_map f g hf l]
theorem ones_some (f : List UInt8 → Option UInt8) (g : UInt8 → List UInt8) (hg : ∀ p c, f p = some c → p = g c) : ∀ (ps : List (List UInt8)) (l : List UInt8), ones f ps = some l → ps = l.map g
  | [], l, h => by cases h; rfl
  | p :: r, l, h => by
    rw [ones] at h
    split at h
    · cases h
    · rename_i c hc
      cases hr : ones f r with
      | none => rw [hr] at h; cases h
      | some t =>
        rw [hr] at h
        cases h
        rw [List.map_cons, ← hg p c hc, ← ones_some f g hg r t hr]
theorem ones_step (f : List UInt8 → Option UInt8) (L : List (List UInt8)) (acc : List UInt8) (p : List UInt8) (r : List (List UInt8)) (c : UInt8) (hL : L = p :: r) (hc : f p = some c) (o : Option (List UInt8)) (ho : o = (ones f L).map (acc ++ ·)) :
    o = (ones f r).map ((acc ++ [c]) ++ ·) := by
  subst hL
  rw [ho, ones, hc]
  cases ones f r <;> simp
theorem ones_stop (f : List UInt8 → Option UInt8) (L : List (List UInt8)) (acc : List UInt8) (p : List UInt8) (r : List (List UInt8)) (hL : L = p :: r) (hc : f p = none) (o : Option (List UInt8)) (ho : o = (ones f L).map (acc ++ ·)) : o = none := by
  subst hL
  rw [ho, ones, hc]; rfl
theorem ones_end (f : List UInt8 → Option UInt8) (L : List (List UInt8)) (acc : List UInt8) (hL : L = []) (o : Option (List UInt8)) (ho : o = (ones f L).map (acc ++ ·)) : o = some acc := by
  subst hL
  rw [ho]; simp [ones]

/-- the parts of s between signs c, if a split that ends behind n + 1 of them has them -/
def pieces (c : UInt8) (n : Nat) (s : List UInt8) : List (List UInt8) := Lib.splitK [c] 0 (min (n + 1) (s.length + 1) - 1) s
def readAll (c : UInt8) (n : Nat) (f : List UInt8 → Option UInt8) (s : List UInt8) : Option (List UInt8) :=
  if (pieces c n s).length = n then ones f (pieces c n s) else none
theorem readAll_of (c : UInt8) (n : Nat) (f : List UInt8 → Option UInt8) (g : UInt8 → List UInt8) (hf : ∀ c, f (g c) = some c) (hc : ∀ b, c ∉ g b) (hn : 1 ≤ n) (l : List UInt8) (hl : l.length = n) :
    readAll c n f (Lib.join (l.map g) [c]) = some l := by
  have hp : pieces c n (Lib.join (l.map g) [c]) = l.map g := by
    cases l with
    | nil => simp at hl; omega
    | cons x r =>
      rw [pieces, List.map_cons]
      refine split_join c _ _ _ (fun p hp => ?_) ?_
      · rw [← List.map_cons] at hp
        obtain ⟨b, _, rfl⟩ := List.mem_map.1 hp
        exact hc b
      · rw [Lib.join_length]
        simp at hl ⊢
        omega
  rw [readAll, hp, if_pos (by simpa using hl), ones_map f g hf]
theorem readAll_some (c : UInt8) (n : Nat) (f : List UInt8 → Option UInt8) (g : UInt8 → List UInt8) (hg : ∀ p c, f p = some c → p = g c) (s l : List UInt8) (h : readAll c n f s = some l) :
    l.length = n ∧ s = Lib.join (l.map g) [c] := by
  rw [readAll] at h
  split at h
  · rename_i hn
    have e := ones_some f g hg _ l h
    refine ⟨by rw [e] at hn; simpa using hn, ?_⟩
    rw [← e]
    exact (join_split c _ s).symm
  · cases h

/-- one byte's two digits, and what they are -/
def twoOf (p : List UInt8) : Option UInt8 := match unh p with
  | some [c] => some c
  | _ => none
def two (c : UInt8) : List UInt8 := [hexd (c.toNat / 16), hexd (c.toNat % 16)]
theorem two_hexs (c : UInt8) : hexs [c] = two c := rfl
theorem half_hexd' : ∀ n : Fin 16, half (hexd n.val) = n.val := by decide +kernel
theorem hexd_half : ∀ c : Fin 256, half (UInt8.ofNat c.val) < 16 → hexd (half (UInt8.ofNat c.val)) = UInt8.ofNat c.val := by decide +kernel
theorem hexd_back (c : UInt8) (h : half c < 16) : hexd (half c) = c := by
  have e : UInt8.ofNat c.toNat = c := by simp
  have := hexd_half ⟨c.toNat, c.toNat_lt⟩
  simp only [e] at this
  exact this h
theorem twoOf_two (c : UInt8) : twoOf (two c) = some c := by
  have hc := c.toNat_lt
  have h1 := half_hexd' ⟨c.toNat / 16, by omega⟩
  have h2 := half_hexd' ⟨c.toNat % 16, by omega⟩
  simp only at h1 h2
  have e : c.toNat / 16 * 16 + c.toNat % 16 = c.toNat := by omega
  have hu : unh (two c) = some [c] := by
    rw [two, unh, h1, h2, if_pos ⟨by omega, by omega⟩, e]
    simp [unh]
  rw [twoOf, hu]
theorem twoOf_some (p : List UInt8) (c : UInt8) (h : twoOf p = some c) : p = two c := by
  unfold twoOf at h
  split at h
  · rename_i d hu
    cases h
    match p, hu with
    | [], hu => simp [unh] at hu
    | [_], hu => simp [unh] at hu
    | a :: b :: r, hu =>
      rw [unh] at hu
      split at hu
      · rename_i hh
        cases hr : unh r with
        | none => rw [hr] at hu; cases hu
        | some t =>
          rw [hr] at hu
          simp only [Option.map_some, Option.some.injEq, List.cons.injEq] at hu
          obtain ⟨rfl, rfl⟩ := hu
          have : r = [] := by
            match r, hr with
            | [], _ => rfl
            | [_], hr => simp [unh] at hr
            | x :: y :: z, hr =>
              rw [unh] at hr
              split at hr
              · cases hz : unh z <;> rw [hz] at hr <;> simp at hr
              · cases hr
          subst this
          rw [two, UInt8.toNat_ofNat_of_lt' (by show _ < 256; omega)]
          have e1 : (half a * 16 + half b) / 16 = half a := by omega
          have e2 : (half a * 16 + half b) % 16 = half b := by omega
          rw [e1, e2, hexd_back a hh.1, hexd_back b hh.2]
      · cases hu
  · cases h
theorem two_sign : ∀ n : Fin 16, hexd n.val ≠ 58 ∧ hexd n.val ≠ 67 := by decide +kernel
theorem two_out (c : UInt8) : (58 : UInt8) ∉ two c := by
  have hc := c.toNat_lt
  have h1 := two_sign ⟨c.toNat / 16, by omega⟩
  have h2 := two_sign ⟨c.toNat % 16, by omega⟩
  simp only [two, List.mem_cons, List.not_mem_nil, or_false]
  exact fun h => h.elim (fun e => h1.1 e.symm) (fun e => h2.1 e.symm)
/-- bytes as a MAC address's text -/
def macT (l : List UInt8) : List UInt8 := Lib.join (l.map two) [58]
def macR (s : List UInt8) : Option (List UInt8) := readAll 58 6 twoOf s
theorem macR_of (l : List UInt8) (hl : l.length = 6) : macR (macT l) = some l := readAll_of 58 6 twoOf two twoOf_two two_out (by omega) l hl
theorem macR_some (s l : List UInt8) (h : macR s = some l) : l.length = 6 ∧ s = macT l := readAll_some 58 6 twoOf two twoOf_some s l h

/-- a byte in base ten, and what it is -/
def ten (c : UInt8) : List UInt8 := Lib.decDigits c.toNat
def tenOf (p : List UInt8) : Option UInt8 := match Lib.parseUintB 8 p with
  | .ok v => if Lib.decDigits v = p then some (UInt8.ofNat v) else none
  | _ => none
theorem dec_one (n : Nat) (h : n < 10) : Lib.decDigits n = [UInt8.ofNat (48 + n)] := Lib.decDigits_one h
theorem dec_two (n : Nat) (h : ¬ n < 10) (h2 : n < 100) : Lib.decDigits n = [UInt8.ofNat (48 + n / 10), UInt8.ofNat (48 + n % 10)] := Lib.decDigits_two h h2
theorem dec_three (n : Nat) (h : ¬ n < 100) (h2 : n < 1000) : Lib.decDigits n = [UInt8.ofNat (48 + n / 100), UInt8.ofNat (48 + n / 10 % 10), UInt8.ofNat (48 + n % 10)] := by
  rw [Lib.decDigits, dif_neg (by omega), dec_two (n / 10) (by omega) (by omega), show n / 10 / 10 = n / 100 by omega]
  rfl
/-- the same, for Lean's kernel to reckon -/
def tens (n : Nat) : List UInt8 := if n < 10 then [UInt8.ofNat (48 + n)] else if n < 100 then [UInt8.ofNat (48 + n / 10), UInt8.ofNat (48 + n % 10)] else [UInt8.ofNat (48 + n / 100), UInt8.ofNat (48 + n / 10 % 10), UInt8.ofNat (48 + n % 10)]
theorem dec_tens (n : Nat) (h : n < 1000) : Lib.decDigits n = tens n := by
  unfold tens
  split
  · exact dec_one n (by assumption)
  · split
    · exact dec_two n (by assumption) (by assumption)
    · exact dec_three n (by assumption) h
theorem ten_tens (c : UInt8) : ten c = tens c.toNat := dec_tens _ (by have := c.toNat_lt; omega)
theorem parse_all : ∀ n : Fin 256, Lib.parseUintB 8 (tens n.val) = .ok n.val := by decide +kernel
theorem parse_ten (c : UInt8) : Lib.parseUintB 8 (ten c) = .ok c.toNat := by rw [ten_tens]; exact parse_all ⟨c.toNat, c.toNat_lt⟩
theorem tenOf_ten (c : UInt8) : tenOf (ten c) = some c := by
  rw [tenOf, parse_ten]
  show (if Lib.decDigits c.toNat = Lib.decDigits c.toNat then some (UInt8.ofNat c.toNat) else none) = _
  rw [if_pos rfl]
  simp
theorem parseM_le (M : Nat) : ∀ (l : List UInt8) (acc v : Nat), acc ≤ M → Lib.parseUintM M acc l = .ok v → v ≤ M
  | [], acc, v, ha, h => by simp only [Lib.parseUintM] at h; injection h with h; omega
  | c :: r, acc, v, ha, h => by
    simp only [Lib.parseUintM] at h
    split at h
    · split at h
      · cases h
      · split at h
        · cases h
        · exact parseM_le M r _ v (by omega) h
    · cases h
theorem parse_le (p : List UInt8) (v : Nat) (h : Lib.parseUintB 8 p = .ok v) : v ≤ 255 := by
  unfold Lib.parseUintB at h
  split at h
  · cases h
  · exact parseM_le 255 p 0 v (by omega) h
theorem tenOf_some (p : List UInt8) (c : UInt8) (h : tenOf p = some c) : p = ten c := by
  unfold tenOf at h
  split at h
  · rename_i v hv
    split at h
    · rename_i e
      cases h
      have := parse_le p v hv
      rw [ten, UInt8.toNat_ofNat_of_lt' (by show _ < 256; omega), e]
    · cases h
  · cases h
theorem ten_sign : ∀ n : Fin 256, (46 : UInt8) ∉ tens n.val := by decide +kernel
theorem ten_out (c : UInt8) : (46 : UInt8) ∉ ten c := by rw [ten_tens]; exact ten_sign ⟨c.toNat, c.toNat_lt⟩
/-- bytes as an address's text -/
def ipT (l : List UInt8) : List UInt8 := Lib.join (l.map ten) [46]
def ipR (s : List UInt8) : Option (List UInt8) := readAll 46 4 tenOf s
theorem ipR_of (l : List UInt8) (hl : l.length = 4) : ipR (ipT l) = some l := readAll_of 46 4 tenOf ten tenOf_ten ten_out (by omega) l hl
theorem ipR_some (s l : List UInt8) (h : ipR s = some l) : l.length = 4 ∧ s = ipT l := readAll_some 46 4 tenOf ten tenOf_some s l h
theorem macR_none (s : List UInt8) (h : macR s = none) (l : List UInt8) (hl : l.length = 6) : s ≠ macT l := fun e => by rw [e, macR_of l hl] at h; cases h
theorem ipR_none (s : List UInt8) (h : ipR s = none) (l : List UInt8) (hl : l.length = 4) : s ≠ ipT l := fun e => by rw [e, ipR_of l hl] at h; cases h
end Go.Proofs.YtmpkeakbcojdeaaGreatDoor
