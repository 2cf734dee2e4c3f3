/-
  Plain facts: what is built is parsed as it was; what is parsed, built, is the beginning of the bytes; no program is named here.
-/
import Derived.Test.YtbacbfgacepaaaaEtherPlain
namespace Go.Proofs.Ytbacbfgacepaaaa

theorem drop_front {a r : List UInt8} {n : Nat} (h : a.length = n) : (a ++ r).drop n = r := by subst h; exact List.drop_left
theorem take_front {a r : List UInt8} {n : Nat} (h : a.length = n) : (a ++ r).take n = a := by subst h; exact List.take_left
theorem tagNum_lt {pri vid : Int} {dei : Bool} (h : tagOk true pri dei vid = true) : tagNum pri dei vid < 65536 ∧ ((tagNum pri dei vid / 8192 : Nat) : Int) = pri ∧ decide (tagNum pri dei vid / 4096 % 2 = 1) = dei ∧ ((tagNum pri dei vid % 4096 : Nat) : Int) = vid := by
  have h' : 0 ≤ pri ∧ pri ≤ 7 ∧ 0 ≤ vid ∧ vid ≤ 4095 := by simpa [tagOk] using h
  unfold tagNum
  cases dei
  · simp only [Bool.false_eq_true, if_false]
    refine ⟨by omega, by omega, ?_, by omega⟩
    exact decide_eq_false (by omega)
  · simp only [if_true]
    refine ⟨by omega, by omega, ?_, by omega⟩
    exact decide_eq_true (by omega)
theorem tl_lt {f : Fr} (h : f.check = 0) : f.tl < 65536 ∧ f.tl ≠ 33024 ∧ (f.ty = 0 → f.tl = f.body.length ∧ f.tl ≤ 1500) ∧ (f.ty ≠ 0 → ((f.tl : Nat) : Int) = f.ty ∧ 1536 ≤ f.tl) := by
  have c := check_spec f h
  unfold Fr.tl
  by_cases z : f.ty = 0
  · rw [if_pos z]; omega
  · rw [if_neg z]; omega
/-- what stands behind the addresses, read again -/
theorem bodyOf_built (f g : Fr) (more : List UInt8) (h : f.check = 0) : bodyOf g f.tl (f.body ++ more) = ({ g with ty := f.ty, body := if f.ty = 0 then f.body else f.body ++ more }, 0) := by
  have t := tl_lt h
  unfold bodyOf
  by_cases z : f.ty = 0
  · have t3 := t.2.2.1 z
    rw [if_neg (by omega), if_neg (by omega), if_neg (by rw [List.length_append]; omega), t3.1, List.take_left, if_pos z, z]
  · have t4 := t.2.2.2 z
    rw [if_neg (by omega), if_pos (by omega), if_neg z, t4.1]
theorem parse_built (f : Fr) (more : List UInt8) (h : f.check = 0) (hs : f.size + more.length ≤ 1600) : Fr.parse (f.bytes ++ more) = ({ f with body := if f.ty = 0 then f.body else f.body ++ more }, 0) := by
  have c := check_spec f h
  have t := tl_lt h
  have hl : (f.bytes ++ more).length = f.size + more.length := by rw [List.length_append, Fr.bytes_length]
  have n1 : num (be f.dst 6) = f.dst := num_be _ _ (by rw [pow6]; exact c.1)
  have n2 : num (be f.src 6) = f.src := num_be _ _ (by rw [pow6]; exact c.2.1)
  have n3 : num (be f.tl 2) = f.tl := num_be _ _ (by rw [pow2]; exact t.1)
  have B := bodyOf_built f
  cases hh : f.has
  · have e : f.bytes ++ more = be f.dst 6 ++ (be f.src 6 ++ (be f.tl 2 ++ (f.body ++ more))) := by
      unfold Fr.bytes Fr.tagB; rw [hh]; simp
    have hz : f.size = 14 + f.body.length := by unfold Fr.size; rw [hh]; rfl
    have d6 : (f.bytes ++ more).drop 6 = be f.src 6 ++ (be f.tl 2 ++ (f.body ++ more)) := by rw [e]; exact drop_front (be_length _ _)
    have d12 : (f.bytes ++ more).drop 12 = be f.tl 2 ++ (f.body ++ more) := by rw [show 12 = 6 + 6 from rfl, ← List.drop_drop, d6]; exact drop_front (be_length _ _)
    have d14 : (f.bytes ++ more).drop 14 = f.body ++ more := by rw [show 14 = 12 + 2 from rfl, ← List.drop_drop, d12]; exact drop_front (be_length _ _)
    have t6 : (f.bytes ++ more).take 6 = be f.dst 6 := by rw [e]; exact take_front (be_length _ _)
    unfold Fr.parse
    rw [if_neg (by omega), if_neg (by omega), d12, take_front (be_length _ _), n3, if_neg t.2.1, t6, n1, d6, take_front (be_length _ _), n2, d14, B _ more h]
    have tg := c.2.2.1
    rw [hh] at tg
    have tg' : f.pri = 0 ∧ f.dei = false ∧ f.vid = 0 := by simpa [tagOk] using tg
    rw [tg'.1, tg'.2.1, tg'.2.2]
  · have tg := c.2.2.1
    rw [hh] at tg
    have tn := tagNum_lt tg
    have n4 : num (be (tagNum f.pri f.dei f.vid) 2) = tagNum f.pri f.dei f.vid := num_be _ _ (by rw [pow2]; exact tn.1)
    have e : f.bytes ++ more = be f.dst 6 ++ (be f.src 6 ++ ([129, 0] ++ (be (tagNum f.pri f.dei f.vid) 2 ++ (be f.tl 2 ++ (f.body ++ more))))) := by
      unfold Fr.bytes Fr.tagB; rw [hh]; simp
    have hz : f.size = 18 + f.body.length := by unfold Fr.size; rw [hh]; simp; omega
    have d6 : (f.bytes ++ more).drop 6 = be f.src 6 ++ ([129, 0] ++ (be (tagNum f.pri f.dei f.vid) 2 ++ (be f.tl 2 ++ (f.body ++ more)))) := by rw [e]; exact drop_front (be_length _ _)
    have d12 : (f.bytes ++ more).drop 12 = [129, 0] ++ (be (tagNum f.pri f.dei f.vid) 2 ++ (be f.tl 2 ++ (f.body ++ more))) := by rw [show 12 = 6 + 6 from rfl, ← List.drop_drop, d6]; exact drop_front (be_length _ _)
    have d14 : (f.bytes ++ more).drop 14 = be (tagNum f.pri f.dei f.vid) 2 ++ (be f.tl 2 ++ (f.body ++ more)) := by rw [show 14 = 12 + 2 from rfl, ← List.drop_drop, d12]; exact drop_front rfl
    have d16 : (f.bytes ++ more).drop 16 = be f.tl 2 ++ (f.body ++ more) := by rw [show 16 = 14 + 2 from rfl, ← List.drop_drop, d14]; exact drop_front (be_length _ _)
    have d18 : (f.bytes ++ more).drop 18 = f.body ++ more := by rw [show 18 = 16 + 2 from rfl, ← List.drop_drop, d16]; exact drop_front (be_length _ _)
    have t6 : (f.bytes ++ more).take 6 = be f.dst 6 := by rw [e]; exact take_front (be_length _ _)
    unfold Fr.parse
    rw [if_neg (by omega), if_neg (by omega), d12, take_front (a := [129, 0]) (n := 2) rfl, if_pos (by decide), if_neg (by omega), t6, n1, d6, take_front (be_length _ _), n2, d14, take_front (be_length _ _), n4, d16, take_front (be_length _ _), n3, d18, B _ more h, tn.2.1, tn.2.2.1, tn.2.2.2]
/-- as it was -/
theorem parse_back (f : Fr) (h : f.check = 0) : Fr.parse f.bytes = (f, 0) := by
  have c := check_spec f h
  have p := parse_built f [] h (by simpa using c.2.2.2.2)
  rw [List.append_nil, List.append_nil] at p
  rw [p]
  cases f
  simp

theorem split2 (l : List UInt8) (n : Nat) : l = l.take n ++ l.drop n := (List.take_append_drop n l).symm
theorem be_two (l : List UInt8) (h : l.length = 2) : be (num l) 2 = l := by rw [← h]; exact be_num l
theorem be_six' (l : List UInt8) (h : l.length = 6) : be (num l) 6 = l := by rw [← h]; exact be_num l
theorem num_two_lt (l : List UInt8) (h : l.length = 2) : num l < 65536 := by have := num_lt l; rw [h, pow2] at this; exact this
theorem num_six_lt (l : List UInt8) (h : l.length = 6) : num l < 281474976710656 := by have := num_lt l; rw [h, pow6] at this; exact this
/-- a type, or a length, and a body, that are told -/
theorem bodyOf_told (g r : Fr) (t : Nat) (rest : List UInt8) (ht : t < 65536) (h : bodyOf g t rest = (r, 0)) :
    ∃ more, rest = r.body ++ more ∧ (r.ty ≠ 0 → more = []) ∧ r.tl = t ∧ r = { g with ty := r.ty, body := r.body } ∧ (r.ty = 0 ∧ r.body.length ≤ 1500 ∨ 1536 ≤ r.ty ∧ r.ty ≤ 65535 ∧ r.ty ≠ 33024) := by
  unfold bodyOf at h
  split at h
  · simp at h
  · split at h
    · simp only [Prod.mk.injEq, and_true] at h
      subst h
      refine ⟨[], by simp, fun _ => rfl, ?_, rfl, Or.inr ?_⟩
      · unfold Fr.tl
        show (if (t : Int) = 0 then _ else (t : Int).toNat) = t
        rw [if_neg (by omega)]; omega
      · show 1536 ≤ (t : Int) ∧ (t : Int) ≤ 65535 ∧ (t : Int) ≠ 33024
        omega
    · split at h
      · simp at h
      · simp only [Prod.mk.injEq, and_true] at h
        subst h
        have hl : (rest.take t).length = t := by rw [List.length_take]; omega
        refine ⟨rest.drop t, (List.take_append_drop t rest).symm, fun z => absurd rfl z, ?_, rfl, Or.inl ⟨rfl, ?_⟩⟩
        · unfold Fr.tl
          show (if (0 : Int) = 0 then (rest.take t).length else _) = t
          rw [if_pos rfl, hl]
        · show (rest.take t).length ≤ 1500
          omega
theorem tag_told (n : Nat) (h : n < 65536) : tagOk true ((n / 8192 : Nat) : Int) (decide (n / 4096 % 2 = 1)) ((n % 4096 : Nat) : Int) = true ∧ tagNum ((n / 8192 : Nat) : Int) (decide (n / 4096 % 2 = 1)) ((n % 4096 : Nat) : Int) = n := by
  constructor
  · unfold tagOk
    rw [if_pos rfl]
    exact decide_eq_true (by omega)
  · unfold tagNum
    by_cases z : n / 4096 % 2 = 1
    · rw [decide_eq_true z]; simp only [if_true]; omega
    · rw [decide_eq_false z]; simp only [Bool.false_eq_true, if_false]; omega
/-- what is parsed may be, and, built, is the beginning of the bytes -/
theorem built_parse (s : List UInt8) (r : Fr) (h : Fr.parse s = (r, 0)) : r.check = 0 ∧ ∃ more, s = r.bytes ++ more ∧ (r.ty ≠ 0 → more = []) := by
  unfold Fr.parse at h
  split at h
  · simp at h
  · rename_i h16
    split at h
    · simp at h
    · rename_i h14
      have l1 : (s.take 6).length = 6 := by rw [List.length_take]; omega
      have l2 : ((s.drop 6).take 6).length = 6 := by rw [List.length_take, List.length_drop]; omega
      have l3 : ((s.drop 12).take 2).length = 2 := by rw [List.length_take, List.length_drop]; omega
      have e0 : s = s.take 6 ++ ((s.drop 6).take 6 ++ ((s.drop 12).take 2 ++ s.drop 14)) := by
        conv => lhs; rw [split2 s 6, split2 (s.drop 6) 6, List.drop_drop, split2 (s.drop (6 + 6)) 2, List.drop_drop]
      split at h
      · rename_i h81
        split at h
        · simp at h
        · rename_i h18
          have l4 : ((s.drop 14).take 2).length = 2 := by rw [List.length_take, List.length_drop]; omega
          have l5 : ((s.drop 16).take 2).length = 2 := by rw [List.length_take, List.length_drop]; omega
          have e1 : s.drop 14 = (s.drop 14).take 2 ++ ((s.drop 16).take 2 ++ s.drop 18) := by
            conv => lhs; rw [split2 (s.drop 14) 2, List.drop_drop, split2 (s.drop (14 + 2)) 2, List.drop_drop]
          obtain ⟨more, m1, m2, m3, m4, m5⟩ := bodyOf_told _ _ _ _ (num_two_lt _ l5) h
          have tt := tag_told _ (num_two_lt _ l4)
          have e81 : (s.drop 12).take 2 = [129, 0] := by
            have := be_two _ l3
            rw [h81] at this
            rw [← this]; rfl
          have hbytes : s = r.bytes ++ more := by
            rw [e0, e1, m1, e81]
            unfold Fr.bytes Fr.tagB
            rw [m3, be_two _ l5]
            rw [m4]
            show _ = be (num (s.take 6)) 6 ++ be (num ((s.drop 6).take 6)) 6 ++ (if true = true then [129, 0] ++ be (tagNum _ _ _) 2 else []) ++ _ ++ r.body ++ more
            rw [if_pos rfl, tt.2, be_six' _ l1, be_six' _ l2, be_two _ l4]
            simp
          refine ⟨check_of r ?_ ?_ ?_ m5 ?_, more, hbytes, m2⟩
          · rw [m4]; exact num_six_lt _ l1
          · rw [m4]; exact num_six_lt _ l2
          · rw [m4]; exact tt.1
          · have := congrArg List.length hbytes
            rw [List.length_append, Fr.bytes_length] at this
            omega
      · rename_i h81
        obtain ⟨more, m1, m2, m3, m4, m5⟩ := bodyOf_told _ _ _ _ (num_two_lt _ l3) h
        have hbytes : s = r.bytes ++ more := by
          rw [e0, m1]
          unfold Fr.bytes Fr.tagB
          rw [m3, be_two _ l3]
          rw [m4]
          show _ = be (num (s.take 6)) 6 ++ be (num ((s.drop 6).take 6)) 6 ++ (if false = true then [129, 0] ++ be (tagNum _ _ _) 2 else []) ++ _ ++ r.body ++ more
          rw [if_neg (by decide), be_six' _ l1, be_six' _ l2]
          simp
        refine ⟨check_of r ?_ ?_ ?_ m5 ?_, more, hbytes, m2⟩
        · rw [m4]; exact num_six_lt _ l1
        · rw [m4]; exact num_six_lt _ l2
        · rw [m4]; rfl
        · have := congrArg List.length hbytes
          rw [List.length_append, Fr.bytes_length] at this
          omega
/-- a tag more: four bytes more, behind the addresses -/
theorem tags_bytes (f g : Fr) (hf : f.has = false) (hg : g.has = true) (h1 : g.dst = f.dst) (h2 : g.src = f.src) (h3 : g.ty = f.ty) (h4 : g.body = f.body) :
    g.bytes.length = f.bytes.length + 4 ∧ 14 ≤ f.bytes.length ∧ g.bytes.take 12 = f.bytes.take 12 ∧ (g.bytes.drop 12).take 2 = [129, 0] ∧ g.bytes.drop 16 = f.bytes.drop 12 := by
  have e1 : f.bytes = (be f.dst 6 ++ be f.src 6) ++ (be f.tl 2 ++ f.body) := by unfold Fr.bytes Fr.tagB; rw [hf]; simp
  have e2 : g.bytes = (be f.dst 6 ++ be f.src 6) ++ ([129, 0] ++ (be (tagNum g.pri g.dei g.vid) 2 ++ (be f.tl 2 ++ f.body))) := by
    have : g.tl = f.tl := by unfold Fr.tl; rw [h3, h4]
    unfold Fr.bytes Fr.tagB; rw [hg, h1, h2, this, h4]; simp
  have l12 : (be f.dst 6 ++ be f.src 6).length = 12 := by rw [List.length_append, be_length, be_length]
  have d12 : g.bytes.drop 12 = [129, 0] ++ (be (tagNum g.pri g.dei g.vid) 2 ++ (be f.tl 2 ++ f.body)) := by rw [e2]; exact drop_front l12
  have d14 : g.bytes.drop 14 = be (tagNum g.pri g.dei g.vid) 2 ++ (be f.tl 2 ++ f.body) := by rw [show 14 = 12 + 2 from rfl, ← List.drop_drop, d12]; exact drop_front rfl
  have d16 : g.bytes.drop 16 = be f.tl 2 ++ f.body := by rw [show 16 = 14 + 2 from rfl, ← List.drop_drop, d14]; exact drop_front (be_length _ _)
  refine ⟨?_, ?_, ?_, ?_, ?_⟩
  · rw [e1, e2]; simp [be_length]; omega
  · rw [e1]; simp [be_length]; omega
  · rw [e1, e2, take_front l12, take_front l12]
  · rw [d12]; exact take_front rfl
  · rw [d16, e1]; exact (drop_front l12).symm
end Go.Proofs.Ytbacbfgacepaaaa
