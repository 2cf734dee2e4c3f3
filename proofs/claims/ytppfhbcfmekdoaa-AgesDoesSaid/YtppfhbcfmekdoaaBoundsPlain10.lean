/-
  Plain facts: what is fixed stays fixed, whatever is put, fixed, cleared, becomes old.
-/
import Derived.Test.YtppfhbcfmekdoaaAgPlain3
import Derived.Test.YtppfhbcfmekdoaaHas10
namespace Go.Proofs.Ytppfhbcfmekdoaa

/-- a key has a fixed entry -/
def FixIn (L : List Ent) (k : Int) : Prop := ∃ x ∈ L, x.key = k ∧ x.fix = true
/-- all that is fixed stays so -/
def KeepFix (L L' : List Ent) : Prop := ∀ k, FixIn L k → FixIn L' k
theorem KeepFix.refl (L : List Ent) : KeepFix L L := fun _ h => h
theorem keep_kept {p : Ent → Bool} {L : List Ent} (h : ∀ x ∈ L, x.fix = true → p x = false) : KeepFix L (kept p L) := by
  rintro k ⟨x, hx, hk, hf⟩
  exact ⟨x, List.mem_filter.2 ⟨hx, by rw [h x hx hf]; rfl⟩, hk, hf⟩
theorem keep_clear (val : Int) (L : List Ent) : KeepFix L (kept (hasVal val) L) := keep_kept fun x _ hf => by simp [hasVal, hf]
theorem keep_old (life now : Int) (L : List Ent) : KeepFix L (kept (oldE life now) L) := keep_kept fun x _ hf => by simp [oldE, hf]
theorem keep_exp (life now : Int) (L : List Ent) : KeepFix L (expP life now L) := by
  unfold expP
  split
  · exact keep_old life now L
  · exact KeepFix.refl L
theorem keep_roomed {room : Int} {L L1 : List Ent} (hs : Srt L) (h : roomed room L = some L1) : KeepFix L L1 := by
  unfold roomed at h
  split at h
  · obtain rfl : L = L1 := by simpa using h
    exact KeepFix.refl L
  · cases ho : oldest L with
    | none => rw [ho] at h; cases h
    | some b =>
      rw [ho] at h
      obtain rfl : del L b.key = L1 := by simpa using h
      have hb := oldest_mem ho
      rintro k ⟨x, hx, hk, hf⟩
      refine ⟨x, mem_del.2 ⟨hx, fun e => ?_⟩, hk, hf⟩
      have := srt_key hs hx hb.1 e
      rw [this, hb.2] at hf; cases hf
theorem srt_roomed {room : Int} {L L1 : List Ent} (hs : Srt L) (h : roomed room L = some L1) : Srt L1 := by
  unfold roomed at h
  split at h
  · obtain rfl : L = L1 := by simpa using h
    exact hs
  · cases ho : oldest L with
    | none => rw [ho] at h; cases h
    | some b =>
      rw [ho] at h
      obtain rfl : del L b.key = L1 := by simpa using h
      exact hs.filter _
theorem keep_ins_new {L : List Ent} (hs : Srt L) {x : Ent} (hn : look L x.key = none) : KeepFix L (ins x L) := by
  rintro k ⟨y, hy, hk, hf⟩
  exact ⟨y, (mem_ins_new hs hn).2 (.inr hy), hk, hf⟩
theorem keep_ins_old {L : List Ent} (hs : Srt L) {x e : Ent} (hn : look L x.key = some e) (hf : e.fix = true → x.fix = true) : KeepFix L (ins x L) := by
  rintro k ⟨y, hy, hk, hyf⟩
  have he := (look_iff hs).1 hn
  by_cases h : y.key = x.key
  · have := srt_key hs hy he.1 (h.trans he.2.symm)
    refine ⟨x, (mem_ins_old hs hn).2 (.inl rfl), by rw [← h, hk], hf (by rw [← this]; exact hyf)⟩
  · exact ⟨y, (mem_ins_old hs hn).2 (.inr ⟨hy, h⟩), hk, hyf⟩
theorem keep_noted {room : Int} {L : List Ent} {x : Ent} (hs : Srt L) (hx : x.fix = true ∨ ∀ e, look L x.key = some e → e.fix = false) : KeepFix L ((noted room L x).getD L) := by
  unfold noted
  cases hl : look L x.key with
  | some e =>
    refine keep_ins_old hs hl fun hf => ?_
    rcases hx with hx | hx
    · exact hx
    · rw [hx e hl] at hf; cases hf
  | none =>
    cases hr : roomed room L with
    | none => exact KeepFix.refl L
    | some L1 =>
      have h1 := keep_roomed hs hr
      have h2 : look L1 x.key = none := by
        unfold roomed at hr
        split at hr
        · obtain rfl : L = L1 := by simpa using hr
          exact hl
        · cases ho : oldest L with
          | none => rw [ho] at hr; cases hr
          | some b =>
            rw [ho] at hr
            obtain rfl : del L b.key = L1 := by simpa using hr
            exact look_del hl
      exact fun k hk => keep_ins_new (srt_roomed hs hr) h2 k (h1 k hk)
theorem keep_put {room life : Int} {L : List Ent} {x : Ent} (hs : Srt L) : KeepFix L (putP room life L x).2 := by
  unfold putP
  split
  · cases hl : look L x.key with
    | some y =>
      simp only
      cases hf : y.fix with
      | true => exact KeepFix.refl L
      | false => exact keep_ins_old hs hl fun h => by rw [hf] at h; cases h
    | none =>
      refine fun k hk => keep_noted (hs.filter _) (.inr fun e he => ?_) k (keep_old life x.at_ L k hk)
      have h2 : look (kept (oldE life x.at_) L) x.key = none := look_none_iff.2 fun z hz => look_none_iff.1 hl z (List.mem_filter.1 hz).1
      exact absurd (h2.symm.trans he) (by simp)
  · exact KeepFix.refl L
theorem keep_fix {room : Int} {L : List Ent} {x : Ent} (hs : Srt L) (hx : x.fix = true) : KeepFix L (fixP room L x).2 := keep_noted hs (.inl hx)
theorem fix_in {room : Int} {L : List Ent} {x : Ent} (hs : Srt L) (hx : x.fix = true) (h : (fixP room L x).1 = 0) : FixIn (fixP room L x).2 x.key := by
  unfold fixP at h ⊢
  simp only at h ⊢
  unfold noted at h ⊢
  cases hl : look L x.key with
  | some e =>
    rw [hl] at h
    exact ⟨x, (mem_ins_old hs hl).2 (.inl rfl), rfl, hx⟩
  | none =>
    rw [hl] at h
    simp only at h ⊢
    cases hr : roomed room L with
    | none => rw [hr] at h; simp [errFull] at h
    | some L1 =>
      have h2 : look L1 x.key = none := by
        unfold roomed at hr
        split at hr
        · obtain rfl : L = L1 := by simpa using hr
          exact hl
        · cases ho : oldest L with
          | none => rw [ho] at hr; cases hr
          | some b =>
            rw [ho] at hr
            obtain rfl : del L b.key = L1 := by simpa using hr
            exact look_del hl
      exact ⟨x, (mem_ins_new (srt_roomed hs hr) h2).2 (.inl rfl), rfl, hx⟩
/-- a fixed entry is told at any time -/
theorem told_fixed {life : Int} {L : List Ent} {k : Int} (hs : Srt L) (h : FixIn L k) : ∃ x, told life 1099511627776 (look L k) = some x ∧ x.fix = true := by
  obtain ⟨x, hx, hk, hf⟩ := h
  refine ⟨x, ?_, hf⟩
  rw [(look_iff hs).2 ⟨hx, hk⟩]
  simp [told, timeB, oldE, hf]
end Go.Proofs.Ytppfhbcfmekdoaa
