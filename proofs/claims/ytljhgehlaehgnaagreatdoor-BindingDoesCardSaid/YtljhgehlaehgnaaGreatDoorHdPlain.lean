/-
  Plain facts on what was heard: its cells, its key, how it stands as an entry; which one is the first. No program is named here but in what it imports.
-/
import Derived.Test.YtljhgehlaehgnaaGreatDoorDocs
namespace Go.Proofs.YtljhgehlaehgnaaGreatDoor

/-- an address in a VLAN has a MAC address, since when -/
structure Hd where
  vid : Int
  ip : Int
  mac : Int
  at_ : Int
/-- its cells -/
def Hd.cs (e : Hd) : List Value := [.int .i64 e.vid, .int .u32 e.ip, .int .u64 e.mac, .int .i64 e.at_]
/-- its parts are what they can be -/
def Hd.ok (e : Hd) : Prop := (1 ≤ e.vid ∧ e.vid ≤ 4094) ∧ (0 ≤ e.ip ∧ e.ip < 4294967296) ∧ (0 ≤ e.mac ∧ e.mac < 18446744073709551616) ∧ 0 ≤ e.at_ ∧ e.at_ ≤ 1099511627776
/-- as an entry -/
def Hd.ent (e : Hd) : Ent := ⟨e.vid * 4294967296 + e.ip, e.mac, e.at_, false⟩
/-- cells of what was heard -/
def hcs (L : List Hd) : List Value := L.flatMap Hd.cs
theorem hcs_nil : hcs [] = [] := rfl
theorem hcs_cons (e : Hd) (L : List Hd) : hcs (e :: L) = e.cs ++ hcs L := rfl
theorem hcs_one (e : Hd) : hcs [e] = e.cs := rfl
theorem hcs_append (A B : List Hd) : hcs (A ++ B) = hcs A ++ hcs B := by simp [hcs]
theorem hcs_length (L : List Hd) : (hcs L).length = L.length * 4 := by
  induction L with
  | nil => rfl
  | cons e L ih => rw [hcs_cons, List.length_append, ih]; simp [Hd.cs]; omega
theorem hcs_oneCell (L : List Hd) : ∀ v ∈ hcs L, v.oneCell' = true := by
  intro v hv
  simp only [hcs, List.mem_flatMap, Hd.cs] at hv
  obtain ⟨e, _, he⟩ := hv
  simp at he
  rcases he with rfl | rfl | rfl | rfl <;> rfl
theorem hcs_at (A B : List Hd) (e : Hd) (t : Nat) (ht : t < 4) : (hcs (A ++ e :: B))[A.length * 4 + t]? = e.cs[t]? := by
  rw [hcs_append, List.getElem?_append_right (by rw [hcs_length]; omega), hcs_length, hcs_cons, Nat.add_sub_cancel_left]
  rw [List.getElem?_append_left (by simpa [Hd.cs] using ht)]
theorem hcs_get (L : List Hd) (i : Nat) (h : i < L.length) (t : Nat) (ht : t < 4) : (hcs L)[i * 4 + t]? = (L[i]).cs[t]? := by
  have e : L = L.take i ++ L[i] :: L.drop (i + 1) := by rw [List.getElem_cons_drop, List.take_append_drop]
  have hl : (L.take i).length = i := by rw [List.length_take]; omega
  have := hcs_at (L.take i) (L.drop (i + 1)) L[i] t ht
  rw [hl, ← e] at this
  exact this

/-- all parts can be -/
def HOks (L : List Hd) : Prop := ∀ e ∈ L, e.ok
/-- each address in a VLAN once -/
def HUniq (L : List Hd) : Prop := Uniq (L.map Hd.ent)
theorem HUniq.ne {A D : List Hd} {x : Hd} (h : HUniq (A ++ x :: D)) : (∀ y ∈ A, y.ent.key ≠ x.ent.key) ∧ ∀ y ∈ D, x.ent.key ≠ y.ent.key := by
  unfold HUniq Uniq at h
  rw [List.map_append, List.map_cons] at h
  have h1 := List.pairwise_append.1 h
  exact ⟨fun y hy => h1.2.2 _ (List.mem_map_of_mem hy) _ (by simp), fun y hy => (List.pairwise_cons.1 h1.2.1).1 _ (List.mem_map_of_mem hy)⟩
theorem hd_key {a b : Hd} (ha : a.ok) (hb : b.ok) : a.ent.key = b.ent.key ↔ a.vid = b.vid ∧ a.ip = b.ip := by
  obtain ⟨_, h1, _⟩ := ha
  obtain ⟨_, h2, _⟩ := hb
  show a.vid * 4294967296 + a.ip = b.vid * 4294967296 + b.ip ↔ _
  omega
/-- what becomes old -/
def oldH (life now : Int) (e : Hd) : Bool := timeB now && decide (e.at_ + life ≤ now)
/-- what stays -/
def keptH (life now : Int) (M : List Hd) : List Hd := M.filter fun e => !oldH life now e
theorem keptH_take {life now : Int} {M : List Hd} {k : Nat} (h : k < M.length) : keptH life now (M.take (k + 1)) = if oldH life now M[k] then keptH life now (M.take k) else keptH life now (M.take k) ++ [M[k]] := by
  rw [List.take_succ_eq_append_getElem h]
  unfold keptH
  rw [List.filter_append]
  cases hp : oldH life now M[k] <;> simp [hp]
theorem keptH_ent (life now : Int) (M : List Hd) : (keptH life now M).map Hd.ent = expP life now (M.map Hd.ent) := by
  unfold keptH expP kept
  cases ht : timeB now with
  | false =>
    simp only [Bool.false_eq_true, if_false]
    congr 1
    exact List.filter_eq_self.2 fun e _ => by simp [oldH, ht]
  | true =>
    simp only [if_true]
    rw [List.filter_map]
    congr 1
    refine List.filter_congr fun e _ => ?_
    show (!(timeB now && decide (e.at_ + life ≤ now))) = !(!false && decide (e.at_ + life ≤ now))
    rw [ht]
    rfl
theorem keptH_len (life now : Int) (M : List Hd) : (keptH life now M).length ≤ M.length := List.length_filter_le _ _
theorem keptH_oks {life now : Int} {M : List Hd} (h : HOks M) : HOks (keptH life now M) := fun e he => h e (List.mem_filter.1 he).1
theorem keptH_uniq {life now : Int} {M : List Hd} (h : HUniq M) : HUniq (keptH life now M) := by
  unfold HUniq Uniq at h ⊢
  exact List.Pairwise.sublist ((List.filter_sublist (l := M)).map _) h
/-- is one older than another one, or as old, and of a lesser VLAN, or address -/
def lessH (a b : Hd) : Bool := if a.at_ = b.at_ then (if a.vid = b.vid then decide (a.ip < b.ip) else decide (a.vid < b.vid)) else decide (a.at_ < b.at_)
theorem lessH_iff {a b : Hd} : lessH a b = true ↔ a.at_ < b.at_ ∨ (a.at_ = b.at_ ∧ (a.vid < b.vid ∨ (a.vid = b.vid ∧ a.ip < b.ip))) := by
  unfold lessH
  split
  · split
    · simp; omega
    · simp; omega
  · simp; omega
/-- the first one of the first k -/
def FAt (M : List Hd) (k f : Nat) : Prop := f ≤ k ∧ ∀ h : f < M.length, ∀ x ∈ M.take k, lessH x M[f] = false
theorem fat_start (M : List Hd) : FAt M 0 0 := ⟨Nat.le_refl _, fun _ x hx => by simp at hx⟩
theorem fat_step {M : List Hd} {k f : Nat} (h : k < M.length) (hf : f < M.length) (hs : FAt M k f) : (lessH M[k] M[f] = true → FAt M (k + 1) k) ∧ (lessH M[k] M[f] = false → FAt M (k + 1) f) := by
  unfold FAt at hs ⊢
  rw [List.take_succ_eq_append_getElem h]
  obtain ⟨h0, hs⟩ := hs
  have hs := hs hf
  refine ⟨fun hl => ⟨by omega, fun _ x hx => ?_⟩, fun hl => ⟨by omega, fun _ x hx => ?_⟩⟩
  · rcases List.mem_append.1 hx with hx | hx
    · have h1 := hs x hx
      rw [Bool.eq_false_iff] at h1 ⊢
      intro h2
      apply h1
      rw [lessH_iff] at hl h2 ⊢
      omega
    · obtain rfl : x = M[k] := by simpa using hx
      rw [Bool.eq_false_iff]
      intro h2
      rw [lessH_iff] at h2
      omega
  · rcases List.mem_append.1 hx with hx | hx
    · exact hs x hx
    · obtain rfl : x = M[k] := by simpa using hx
      exact hl
theorem fat_least {M : List Hd} {f : Nat} (hk : HOks M) (hf : f < M.length) (h : FAt M M.length f) : Least (M.map Hd.ent) M[f].ent := by
  have h1 := h.2 hf
  rw [List.take_of_length_le (Nat.le_refl _)] at h1
  refine ⟨List.mem_map_of_mem (List.getElem_mem _), rfl, fun x hx _ => ?_⟩
  obtain ⟨y, hy, rfl⟩ := List.mem_map.1 hx
  have h2 := h1 y hy
  rw [Bool.eq_false_iff, ne_eq, lessH_iff] at h2
  have o1 := (hk y hy).2.1
  have o2 := (hk _ (List.getElem_mem hf)).2.1
  show M[f].at_ < y.at_ ∨ (M[f].at_ = y.at_ ∧ M[f].vid * 4294967296 + M[f].ip ≤ y.vid * 4294967296 + y.ip)
  omega
end Go.Proofs.YtljhgehlaehgnaaGreatDoor
