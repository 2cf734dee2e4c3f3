/-
  Plain facts on entries, by rising keys: their cells, where a key stands, an entry put in, taken out. No program is named here.
-/
import Derived.Below
import Derived.Laws.Rows
namespace Go.Proofs.Ytagfaaciakbnbaa

/-- a fact put behind a name -/
theorem hide {p : Prop} (h : p) : Go.RowKit.Hid p := h
theorem unhide {p : Prop} (h : Go.RowKit.Hid p) : p := h

/-- an entry -/
structure Ent where
  key : Int
  val : Int
  at_ : Int
  fix : Bool
/-- an entry's cells -/
def Ent.cs (e : Ent) : List Value := [.int .u64 e.key, .int .u64 e.val, .int .i64 e.at_, .bool e.fix]
/-- an entry's parts are what they can be -/
def Ent.ok (e : Ent) : Prop := 0 ≤ e.key ∧ e.key < 18446744073709551616 ∧ 0 ≤ e.val ∧ e.val < 18446744073709551616 ∧ 0 ≤ e.at_ ∧ e.at_ ≤ 1099511627776 ∧ (e.fix = true → e.at_ = 0)
/-- entries' cells -/
def cs (L : List Ent) : List Value := L.flatMap Ent.cs
theorem cs_nil : cs [] = [] := rfl
theorem cs_cons (e : Ent) (L : List Ent) : cs (e :: L) = e.cs ++ cs L := rfl
theorem cs_one (e : Ent) : cs [e] = e.cs := rfl
theorem cs_append (A B : List Ent) : cs (A ++ B) = cs A ++ cs B := by simp [cs]
theorem cs_length (L : List Ent) : (cs L).length = L.length * 4 := by
  induction L with
  | nil => rfl
  | cons e L ih => rw [cs_cons, List.length_append, ih]; simp [Ent.cs]; omega
theorem cs_oneCell (L : List Ent) : ∀ v ∈ cs L, v.oneCell' = true := by
  intro v hv
  simp only [cs, List.mem_flatMap, Ent.cs] at hv
  obtain ⟨e, _, he⟩ := hv
  simp at he
  rcases he with rfl | rfl | rfl | rfl <;> rfl
theorem cs_take (L : List Ent) (i : Nat) : (cs L).take (i * 4) = cs (L.take i) := by
  rcases Nat.le_total L.length i with h | h
  · rw [List.take_of_length_le (by rw [cs_length]; omega), List.take_of_length_le h]
  · have e : cs L = cs (L.take i) ++ cs (L.drop i) := by rw [← cs_append, List.take_append_drop]
    rw [e, List.take_append_of_le_length (by rw [cs_length, List.length_take]; omega), List.take_of_length_le (by rw [cs_length, List.length_take]; omega)]
theorem cs_drop (L : List Ent) (i : Nat) : (cs L).drop (i * 4) = cs (L.drop i) := by
  rcases Nat.le_total L.length i with h | h
  · rw [List.drop_eq_nil_of_le (by rw [cs_length]; omega), List.drop_eq_nil_of_le h]; rfl
  · have e : cs L = cs (L.take i) ++ cs (L.drop i) := by rw [← cs_append, List.take_append_drop]
    have hl : (cs (L.take i)).length = i * 4 := by rw [cs_length, List.length_take]; omega
    rw [e, ← hl, List.drop_left]
theorem cs_at (A B : List Ent) (e : Ent) (t : Nat) (ht : t < 4) : (cs (A ++ e :: B))[A.length * 4 + t]? = e.cs[t]? := by
  rw [cs_append, List.getElem?_append_right (by rw [cs_length]; omega), cs_length, cs_cons, Nat.add_sub_cancel_left]
  rw [List.getElem?_append_left (by simpa [Ent.cs] using ht)]
theorem cs_get (L : List Ent) (i : Nat) (h : i < L.length) (t : Nat) (ht : t < 4) : (cs L)[i * 4 + t]? = (L[i]).cs[t]? := by
  have e : L = L.take i ++ L[i] :: L.drop (i + 1) := by rw [List.getElem_cons_drop, List.take_append_drop]
  have hl : (L.take i).length = i := by rw [List.length_take]; omega
  have := cs_at (L.take i) (L.drop (i + 1)) L[i] t ht
  rw [hl, ← e] at this
  exact this

/-- by rising keys -/
def Srt (L : List Ent) : Prop := L.Pairwise (fun a b => a.key < b.key)
/-- all parts can be -/
def Oks (L : List Ent) : Prop := ∀ e ∈ L, e.ok
/-- a key's entry -/
def look (L : List Ent) (k : Int) : Option Ent := L.find? fun e => e.key == k
/-- all but a key's entry -/
def del (L : List Ent) (k : Int) : List Ent := L.filter fun e => !(e.key == k)
/-- an entry put in, in its key's place -/
def ins (x : Ent) : List Ent → List Ent
  | [] => [x]
  | e :: L => if x.key < e.key then x :: e :: L else if x.key = e.key then x :: L else e :: ins x L
/-- what compares two keys -/
def cmpI (a b : Int) : Int := if a < b then -1 else if b < a then 1 else 0

/-- a key's place, when it is there -/
theorem look_some {L : List Ent} {k : Int} {e : Ent} (hs : Srt L) (h : look L k = some e) :
    ∃ A B, L = A ++ e :: B ∧ e.key = k ∧ (∀ x ∈ A, x.key < k) ∧ (∀ x ∈ B, k < x.key) := by
  obtain ⟨A, B, hL, hA⟩ := (List.find?_eq_some_iff_append.1 h).2
  have hk : e.key = k := by simpa using (List.find?_eq_some_iff_append.1 h).1
  subst hL
  refine ⟨A, B, rfl, hk, ?_, ?_⟩
  · intro x hx
    rw [← hk]
    exact (List.pairwise_append.1 hs).2.2 x hx e (by simp)
  · intro x hx
    rw [← hk]
    exact (List.pairwise_cons.1 (List.pairwise_append.1 hs).2.1).1 x hx
/-- a key's place, when it is not there -/
theorem look_none {L : List Ent} {k : Int} (hs : Srt L) (h : look L k = none) :
    ∃ A B, L = A ++ B ∧ (∀ x ∈ A, x.key < k) ∧ (∀ x ∈ B, k < x.key) := by
  induction L with
  | nil => exact ⟨[], [], rfl, by simp, by simp⟩
  | cons e L ih =>
    have hne : e.key ≠ k := by
      intro hk
      simp [look, hk] at h
    have h' : look L k = none := by simpa [look, hne] using h
    have hs' := (List.pairwise_cons.1 hs)
    rcases Int.lt_or_gt_of_ne hne with hlt | hgt
    · obtain ⟨A, B, hL, hA, hB⟩ := ih hs'.2 h'
      refine ⟨e :: A, B, by rw [hL]; rfl, ?_, hB⟩
      intro x hx
      rcases List.mem_cons.1 hx with rfl | hx
      · exact hlt
      · exact hA x hx
    · refine ⟨[], e :: L, rfl, by simp, ?_⟩
      intro x hx
      rcases List.mem_cons.1 hx with rfl | hx
      · exact hgt
      · exact Int.lt_trans hgt (hs'.1 x hx)
theorem ins_new {A B : List Ent} {x : Ent} (hA : ∀ y ∈ A, y.key < x.key) (hB : ∀ y ∈ B, x.key < y.key) : ins x (A ++ B) = A ++ x :: B := by
  induction A with
  | nil =>
    cases B with
    | nil => rfl
    | cons e B => simp [ins, hB e (by simp)]
  | cons a A ih =>
    have h := hA a (by simp)
    simp only [List.cons_append, ins]
    rw [if_neg (by omega), if_neg (by omega), ih fun y hy => hA y (by simp [hy])]
theorem ins_old {A B : List Ent} {x e : Ent} (hk : e.key = x.key) (hA : ∀ y ∈ A, y.key < x.key) : ins x (A ++ e :: B) = A ++ x :: B := by
  induction A with
  | nil => simp [ins, hk]
  | cons a A ih =>
    have h := hA a (by simp)
    simp only [List.cons_append, ins]
    rw [if_neg (by omega), if_neg (by omega), ih fun y hy => hA y (by simp [hy])]
theorem del_at {A B : List Ent} {e : Ent} {k : Int} (hk : e.key = k) (hA : ∀ y ∈ A, y.key < k) (hB : ∀ y ∈ B, k < y.key) : del (A ++ e :: B) k = A ++ B := by
  unfold del
  rw [List.filter_append, List.filter_cons]
  have h1 : A.filter (fun e => !(e.key == k)) = A := List.filter_eq_self.2 fun y hy => by have := hA y hy; simp; omega
  have h2 : B.filter (fun e => !(e.key == k)) = B := List.filter_eq_self.2 fun y hy => by have := hB y hy; simp; omega
  rw [h1, h2]
  simp [hk]
theorem del_none {L : List Ent} {k : Int} (h : look L k = none) : del L k = L := by
  refine List.filter_eq_self.2 fun y hy => ?_
  have := List.find?_eq_none.1 h y hy
  simpa using this
theorem Srt.ins {L : List Ent} (h : Srt L) (x : Ent) : Srt (ins x L) := by
  cases hl : look L x.key with
  | none =>
    obtain ⟨A, B, rfl, hA, hB⟩ := look_none h hl
    rw [ins_new hA hB]
    have h' := List.pairwise_append.1 h
    refine List.pairwise_append.2 ⟨h'.1, List.pairwise_cons.2 ⟨hB, h'.2.1⟩, ?_⟩
    intro a ha b hb
    rcases List.mem_cons.1 hb with rfl | hb
    · exact hA a ha
    · exact h'.2.2 a ha b hb
  | some e =>
    obtain ⟨A, B, rfl, hk, hA, hB⟩ := look_some h hl
    rw [ins_old hk hA]
    have h' := List.pairwise_append.1 h
    refine List.pairwise_append.2 ⟨h'.1, List.pairwise_cons.2 ⟨hB, (List.pairwise_cons.1 h'.2.1).2⟩, ?_⟩
    intro a ha b hb
    rcases List.mem_cons.1 hb with rfl | hb
    · exact hA a ha
    · exact h'.2.2 a ha b (by simp [hb])
theorem Srt.filter {L : List Ent} (h : Srt L) (p : Ent → Bool) : Srt (L.filter p) := List.Pairwise.filter p h
theorem Oks.filter {L : List Ent} (h : Oks L) (p : Ent → Bool) : Oks (L.filter p) := fun e he => h e (List.mem_filter.1 he).1
theorem mem_ins {L : List Ent} {x y : Ent} (h : y ∈ ins x L) : y = x ∨ y ∈ L := by
  induction L with
  | nil => simpa [ins] using h
  | cons e L ih =>
    unfold ins at h
    split at h
    · simpa using h
    · split at h
      · rcases List.mem_cons.1 h with h | h
        · exact .inl h
        · exact .inr (by simp [h])
      · rcases List.mem_cons.1 h with h | h
        · exact .inr (by simp [h])
        · rcases ih h with h | h
          · exact .inl h
          · exact .inr (by simp [h])
theorem Oks.ins {L : List Ent} (h : Oks L) {x : Ent} (hx : x.ok) : Oks (ins x L) := fun y hy => by
  rcases mem_ins hy with rfl | hy
  · exact hx
  · exact h y hy
end Go.Proofs.Ytagfaaciakbnbaa
