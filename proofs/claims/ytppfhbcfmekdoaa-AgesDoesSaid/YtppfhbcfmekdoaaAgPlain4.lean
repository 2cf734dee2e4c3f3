/-
  Plain facts: entries by rising keys, and the same entries in no order: the same is found, put in, taken out. No program is named here but in what it imports.
-/
import Derived.Test.YtppfhbcfmekdoaaRef10e
namespace Go.Proofs.Ytppfhbcfmekdoaa

theorem perm_look {L M : List Ent} (hs : Srt L) (hp : L.Perm M) (k : Int) : look M k = look L k := by
  cases h : look L k with
  | none =>
    rw [look_none_iff] at h ⊢
    exact fun x hx => h x (hp.mem_iff.2 hx)
  | some x =>
    obtain ⟨h1, h2⟩ := (look_iff hs).1 h
    cases h' : look M k with
    | none => exact absurd h2 (look_none_iff.1 h' x (hp.mem_iff.1 h1))
    | some y =>
      have h3 := hp.mem_iff.2 (look_mem h')
      have h4 := look_key h'
      rw [srt_key hs h3 h1 (by omega)]
theorem perm_kept {L M : List Ent} (hp : L.Perm M) (p : Ent → Bool) : (kept p L).Perm (kept p M) := hp.filter _
theorem perm_exp {L M : List Ent} (hp : L.Perm M) (life now : Int) : (expP life now L).Perm (expP life now M) := by
  unfold expP
  cases timeB now with
  | true => exact perm_kept hp _
  | false => exact hp
theorem perm_ins_new {L M : List Ent} {x : Ent} (hs : Srt L) (hp : L.Perm M) (hn : look L x.key = none) : (ins x L).Perm (M ++ [x]) := by
  obtain ⟨A, B, rfl, hA, hB⟩ := look_none hs hn
  rw [ins_new hA hB]
  exact (List.perm_middle.trans (hp.cons x)).trans (List.perm_append_singleton x M).symm
theorem perm_split {L A D : List Ent} {x : Ent} {k : Int} (hs : Srt L) (hp : L.Perm (A ++ x :: D)) (hk : x.key = k) : ∃ A' D', L = A' ++ x :: D' ∧ (∀ y ∈ A', y.key < k) ∧ (∀ y ∈ D', k < y.key) ∧ (A' ++ D').Perm (A ++ D) ∧ look L k = some x := by
  have hx : x ∈ L := hp.mem_iff.2 (by simp)
  have hl := (look_iff hs).2 ⟨hx, hk⟩
  obtain ⟨A', D', h1, h2, h3, h4⟩ := look_some hs hl
  refine ⟨A', D', h1, h3, h4, ?_, hl⟩
  rw [h1] at hp
  exact ((List.perm_middle.symm.trans hp).trans List.perm_middle).cons_inv
theorem perm_ins_old {L A D : List Ent} {x y : Ent} (hs : Srt L) (hp : L.Perm (A ++ y :: D)) (hk : y.key = x.key) : (ins x L).Perm (A ++ x :: D) := by
  obtain ⟨A', D', rfl, hA, _, hpp, _⟩ := perm_split hs hp hk
  rw [ins_old hk hA]
  exact (List.perm_middle.trans (hpp.cons x)).trans List.perm_middle.symm
theorem perm_del {L A D : List Ent} {y : Ent} {k : Int} (hs : Srt L) (hp : L.Perm (A ++ y :: D)) (hk : y.key = k) : (del L k).Perm (A ++ D) := by
  obtain ⟨A', D', rfl, hA, hD, hpp, _⟩ := perm_split hs hp hk
  rw [del_at hk hA hD]
  exact hpp
theorem Least.perm {L M : List Ent} {c : Ent} (h : Least L c) (hp : L.Perm M) : Least M c := ⟨hp.mem_iff.1 h.1, h.2.1, fun x hx => h.2.2 x (hp.mem_iff.2 hx)⟩
theorem Spared.mem {room : Int} {M M' : List Ent} {b : Bool} (h : Spared room M b M') : ∀ x ∈ M', x ∈ M := by
  rcases h with ⟨_, rfl, _⟩ | ⟨_, rfl, _⟩ | ⟨_, _, A, c, D, rfl, rfl, _⟩
  · exact fun _ h => h
  · exact fun _ h => h
  · intro x hx
    simp at hx ⊢
    rcases hx with h | h <;> simp [h]
theorem Spared.len {room : Int} {M M' : List Ent} (h : Spared room M true M') (hf : (M.length : Int) ≤ room) : (M'.length : Int) < room := by
  rcases h with ⟨_, rfl, h⟩ | ⟨h, _⟩ | ⟨_, _, A, c, D, rfl, rfl, _⟩
  · exact h
  · cases h
  · simp at hf ⊢
    omega
theorem Spared.perm {room : Int} {L M M' : List Ent} {b : Bool} (h : Spared room M b M') (hs : Srt L) (hp : L.Perm M) :
    (b = true ∧ ∃ L1, roomed room L = some L1 ∧ L1.Perm M' ∧ Srt L1) ∨ (b = false ∧ roomed room L = none ∧ M' = M) := by
  have hl := hp.length_eq
  unfold roomed
  rcases h with ⟨rfl, rfl, h⟩ | ⟨rfl, rfl, h, hall⟩ | ⟨rfl, h, A, c, D, rfl, rfl, hc⟩
  · rw [if_pos (by omega)]
    exact .inl ⟨rfl, L, rfl, hp, hs⟩
  · rw [if_neg (by omega)]
    cases ho : oldest L with
    | none => exact .inr ⟨rfl, rfl, rfl⟩
    | some b =>
      obtain ⟨h1, h2⟩ := oldest_mem ho
      rw [hall b (hp.mem_iff.1 h1)] at h2
      cases h2
  · rw [if_neg (by omega)]
    cases ho : oldest L with
    | none =>
      have := oldest_none hs ho c (hp.mem_iff.2 hc.1)
      rw [hc.2.1] at this
      cases this
    | some b =>
      have hk := least_key ((oldest_least hs ho).perm hp) hc
      exact .inl ⟨rfl, _, rfl, perm_del hs hp hk.symm, hs.filter _⟩
theorem uniq_srt {L : List Ent} (h : Srt L) : Uniq L := h.imp fun h => Int.ne_of_lt h
theorem uniq_perm {L M : List Ent} (h : Uniq L) (hp : L.Perm M) : Uniq M := hp.pairwise h (fun h => fun e => h e.symm)
theorem uniq_add {M : List Ent} {x : Ent} (h : Uniq M) (hn : ∀ y ∈ M, y.key ≠ x.key) : Uniq (M ++ [x]) :=
  List.pairwise_append.2 ⟨h, by simp, fun a ha b hb => by obtain rfl : b = x := by simpa using hb
                                                          exact hn a ha⟩
theorem uniq_put {A D : List Ent} {x y : Ent} (h : Uniq (A ++ y :: D)) (hk : y.key = x.key) : Uniq (A ++ x :: D) := by
  have h1 := List.pairwise_append.1 h
  have h2 := List.pairwise_cons.1 h1.2.1
  refine List.pairwise_append.2 ⟨h1.1, List.pairwise_cons.2 ⟨fun b hb => by rw [← hk]; exact h2.1 b hb, h2.2⟩, fun a ha b hb => ?_⟩
  rcases List.mem_cons.1 hb with rfl | hb
  · rw [← hk]; exact h1.2.2 a ha y (by simp)
  · exact h1.2.2 a ha b (by simp [hb])
theorem oks_put {A D : List Ent} {x y : Ent} (h : Oks (A ++ y :: D)) (hx : x.ok) : Oks (A ++ x :: D) := by
  intro e he
  simp at he
  rcases he with h1 | rfl | h1
  · exact h e (by simp [h1])
  · exact hx
  · exact h e (by simp [h1])
theorem oks_add {M : List Ent} {x : Ent} (h : Oks M) (hx : x.ok) : Oks (M ++ [x]) := by
  intro e he
  simp at he
  rcases he with h1 | rfl
  · exact h e h1
  · exact hx
/-- an answer, and what is left: as by rising keys -/
theorem noted_spared {room : Int} {L M M' : List Ent} {b : Bool} {x : Ent} (hs : Srt L) (hp : L.Perm M) (hn : look L x.key = none) (h : Spared room M b M') :
    (b = true ∧ errFull (noted room L x) = 0 ∧ ((noted room L x).getD L).Perm (M' ++ [x])) ∨ (b = false ∧ errFull (noted room L x) = 101 ∧ ((noted room L x).getD L).Perm M') := by
  unfold noted
  rw [hn]
  rcases h.perm hs hp with ⟨rfl, L1, h1, h2, h3⟩ | ⟨rfl, h1, rfl⟩
  · refine .inl ⟨rfl, by simp [h1, errFull], ?_⟩
    simp only [h1, Option.map_some, Option.getD_some]
    refine perm_ins_new h3 h2 ?_
    rw [look_none_iff]
    intro y hy
    have hM := h.mem y (h2.mem_iff.1 hy)
    exact look_none_iff.1 hn y (hp.mem_iff.2 hM)
  · exact .inr ⟨rfl, by simp [h1, errFull], by simpa [h1] using hp⟩
end Go.Proofs.Ytppfhbcfmekdoaa
