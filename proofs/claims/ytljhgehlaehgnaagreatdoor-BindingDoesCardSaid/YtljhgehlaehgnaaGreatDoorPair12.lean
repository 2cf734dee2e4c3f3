/-
  Two tables side by side: the program's, and the document's; what a call on either keeps of the other one; the contracts of the document's calls, said so.
-/
import Derived.Test.YtljhgehlaehgnaaGreatDoorCopy12
import Derived.Test.YtljhgehlaehgnaaGreatDoorRef12d
import Derived.Test.YtljhgehlaehgnaaGreatDoorRef12f
import Derived.Test.YtljhgehlaehgnaaGreatDoorRef12g
import Derived.Test.YtljhgehlaehgnaaGreatDoorRef12h
namespace Go.Proofs.YtljhgehlaehgnaaGreatDoor
open Go.RowKit Go.Sort

/-- whatever holds nothing that was heard, and is no table of the document's, stays -/
def StaysH (W W' : World) : Prop := ∀ (k : Nat) (c : Array Value) (t : TypeId) (fr : Nat × Nat), t ≠ 75 → t ≠ 57 → W.heap[k]? = some (.cells c t fr) → W'.heap[k]? = some (.cells c t fr)
theorem StaysH.of {W W' : World} (b : Below W.heap.size W W') : StaysH W W' := fun _ _ _ _ _ _ h => Below.row b h
/-- the document's table that was made since w: what it holds in W -/
def HasH (w : World) (g : Nat) (room life : Int) (M : List Hd) (W : World) : Prop := Below w.heap.size w W ∧ ∃ v, HTab w.heap.size W g room life v M
theorem HasH.below {w W W' : World} {g : Nat} {room life : Int} {M : List Hd} (h : HasH w g room life M W) (b : Below W.heap.size W W') : HasH w g room life M W' := by
  obtain ⟨h1, v, T⟩ := h
  exact ⟨bthen h1 b, v, T.below b⟩
theorem owns_keep {B : Nat} {t : TypeId} {s n : Nat} {V : Value} {xs : List Value} {W W' : World} (h : W.ownsRow B t s V n xs) (st : ∀ (k : Nat) (c : Array Value), W.heap[k]? = some (Obj.cells c t (0, 0)) → W'.heap[k]? = some (Obj.cells c t (0, 0))) : W'.ownsRow B t s V n xs := by
  obtain ⟨hl, hx | ⟨k, cap, cur, rfl, a1, a2, a3, a4, a5, a6⟩⟩ := h
  · exact ⟨hl, .inl hx⟩
  · exact ⟨hl, .inr ⟨k, cap, cur, rfl, a1, st _ _ a2, a3, a4, a5, a6⟩⟩
theorem HasH.stays {w W W' : World} {g : Nat} {room life : Int} {M : List Hd} (h : HasH w g room life M W) (st : Stays W W') (b : Below w.heap.size w W') : HasH w g room life M W' := by
  obtain ⟨_, v, T⟩ := h
  exact ⟨b, v, ⟨st _ _ rfl T.row, owns_keep T.own (fun k c => st k _ rfl), T.low, T.apart, T.uniq, T.oks, T.fit, T.room1, T.room2, T.life1, T.life2⟩⟩
theorem Bnd.staysH {w W W' : World} {g p : Nat} {room life : Int} {L : List Ent} (h : Bnd w g p room life L W) (st : StaysH W W') (b : Below w.heap.size w W') : Bnd w g p room life L W' := by
  obtain ⟨_, v, T⟩ := h.has
  exact ⟨st _ _ _ _ (by decide) (by decide) h.row, ⟨b, v, ⟨st _ _ _ _ (by decide) (by decide) T.row, owns_keep T.own (fun k c => st k c _ _ (by decide) (by decide)), T.low, T.apart, T.srt, T.oks, T.fit, T.room1, T.room2, T.life1, T.life2⟩⟩, h.low, h.nf⟩
theorem HTab.ownRow {B : Nat} {w : World} {g : Nat} {room life : Int} {v : Value} {L : List Hd} (h : HTab B w g room life v L) {k : Nat} (hk : v.ownBlock = some k) : ∃ c, w.heap[k]? = some (.cells c 75 (0, 0)) := by
  obtain ⟨_, ⟨rfl, _⟩ | ⟨r, cap, cur, rfl, _, hr, _⟩⟩ := h.own
  · cases hk
  · have e : some r = some k := hk
    obtain rfl := Option.some.inj e
    exact ⟨cur, hr⟩
theorem HTurned.stays {B : Nat} {w w' : World} {g : Nat} {room life : Int} {v : Value} {L L' : List Hd} (T : HTab B w g room life v L) (t : HTurned B g room life v L' w w') : StaysH w w' := by
  obtain ⟨v', _, b, _⟩ := t
  intro k c ty fr h1 h2 hk
  refine b.row ?_ ?_ hk
  · rintro rfl
    have := T.row
    rw [hk] at this
    simp at this
    exact h2 this.2.1
  · intro e
    obtain ⟨d, hd⟩ := T.ownRow e.symm
    rw [hk] at hd
    simp at hd
    exact h1 hd.2.1
theorem HasH.turned {w W W' : World} {g : Nat} {room life : Int} {v : Value} {L L' : List Hd} (h : Below w.heap.size w W) (T : HTab w.heap.size W g room life v L) (t : HTurned w.heap.size g room life v L' W W') : HasH w g room life L' W' ∧ StaysH W W' := by
  refine ⟨?_, t.stays T⟩
  obtain ⟨v', T', b, _⟩ := t
  exact ⟨h.trans (b.below T.low (fun k hk => (T.vlt k hk).1) h.size), v', T'⟩
theorem Bnd.srt {w W : World} {g p : Nat} {room life : Int} {L : List Ent} (h : Bnd w g p room life L W) : Srt L := by
  obtain ⟨_, v, T⟩ := h.has
  exact T.srt
theorem Bnd.room1 {w W : World} {g p : Nat} {room life : Int} {L : List Ent} (h : Bnd w g p room life L W) : 1 ≤ room := by
  obtain ⟨_, v, T⟩ := h.has
  exact T.room1
theorem Bnd.fit {w W : World} {g p : Nat} {room life : Int} {L : List Ent} (h : Bnd w g p room life L W) : (L.length : Int) ≤ room := by
  obtain ⟨_, v, T⟩ := h.has
  exact T.fit
/-- each MAC address is a host's -/
def OwnL (L : List Ent) : Prop := ∀ e ∈ L, ownH e.val.toNat = true
theorem ownL_put {room life : Int} {L : List Ent} {x : Ent} (h : OwnL L) (hx : ownH x.val.toNat = true) : OwnL (putP room life L x).2 := by
  have hins : ∀ {N : List Ent}, OwnL N → OwnL (ins x N) := fun hN y hy => by
    rcases mem_ins hy with rfl | hy
    · exact hx
    · exact hN y hy
  unfold putP
  split
  · split
    · split
      · exact h
      · exact hins h
    · have hk : OwnL (kept (oldE life x.at_) L) := fun y hy => h y (List.mem_filter.1 hy).1
      unfold noted
      split
      · exact hins hk
      · unfold roomed
        split
        · exact hins hk
        · cases oldest (kept (oldE life x.at_) L) with
          | none => exact hk
          | some b => exact hins (fun y hy => hk y (List.mem_filter.1 hy).1)
  · exact h
theorem ownL_note {room life : Int} {L : List Ent} {vid now : Int} {a : Ar} (h : OwnL L) : OwnL (noteL room life L vid a now) := by
  unfold noteL
  split
  · next hn =>
    refine ownL_put h ?_
    have hc : a.check = 0 := by
      simp [noteB] at hn
      exact hn.1.1.2
    exact (arp_check_spec hc).2.2.1
  · exact h
theorem ownL_exp {life now : Int} {L : List Ent} (h : OwnL L) : OwnL (expP life now L) := by
  unfold expP
  split
  · exact fun y hy => h y (List.mem_filter.1 hy).1
  · exact h
theorem nf_exp {life now : Int} {L : List Ent} (h : NF L) : NF (expP life now L) := by
  unfold expP
  split
  · exact nf_kept _ h
  · exact h
/-- what is noted, by rising keys, and in no order -/
theorem noted_perm {room life : Int} {L : List Ent} {M M' : List Hd} {x : Hd} (hs : Srt L) (hp : L.Perm (M.map Hd.ent)) (ht : timeB x.at_ = true) (h : NotedH room life M x M') : (putP room life L x.ent).2.Perm (M'.map Hd.ent) := by
  unfold putP
  rw [show x.ent.at_ = x.at_ from rfl, ht]
  simp only [if_true]
  rcases h with ⟨A, y, D, rfl, hk, rfl⟩ | ⟨hne, M2, hpu, rfl⟩
  · rw [List.map_append, List.map_cons] at hp
    obtain ⟨_, _, _, _, _, _, hl⟩ := perm_split hs hp hk
    have hy : y.ent.fix = false := rfl
    rw [hl]
    simp only [hy]
    rw [List.map_append, List.map_cons]
    exact perm_ins_old hs hp hk
  · have hl : look L x.ent.key = none := by
      rw [look_none_iff]
      intro e he
      obtain ⟨y, hy, rfl⟩ := List.mem_map.1 (hp.mem_iff.1 he)
      exact hne y hy
    rw [hl]
    simp only
    have hp1 : (kept (oldE life x.at_) L).Perm ((keptH life x.at_ M).map Hd.ent) := by
      rw [keptH_ent]
      have h1 := perm_exp hp life x.at_
      unfold expP at h1 ⊢
      rw [ht] at h1 ⊢
      exact h1
    have hl1 : look (kept (oldE life x.at_) L) x.ent.key = none := by
      rw [look_none_iff] at hl ⊢
      exact fun y hy => hl y (List.mem_filter.1 hy).1
    have hsp : Spared room ((keptH life x.at_ M).map Hd.ent) true (M2.map Hd.ent) := by
      rcases hpu with ⟨h1, rfl⟩ | ⟨h1, A, c, D, h2, rfl, h3⟩
      · exact .inl ⟨rfl, rfl, by rw [List.length_map]; exact h1⟩
      · refine .inr (.inr ⟨rfl, by rw [List.length_map]; exact h1, A.map Hd.ent, c.ent, D.map Hd.ent, ?_, ?_, h3⟩)
        · rw [h2, List.map_append, List.map_cons]
        · rw [List.map_append]
    rcases noted_spared (x := x.ent) (hs.filter _) hp1 hl1 hsp with ⟨_, _, h3⟩ | ⟨h0, _⟩
    · rw [List.map_append]
      exact h3
    · cases h0
theorem hasH_note {w W : World} {g : Nat} {room life : Int} {L : List Ent} {M : List Hd} (vid now : Int) (a : Ar) (h : HasH w g room life M W) (hs : Srt L) (hp : L.Perm (M.map Hd.ent)) (ha : a.fits) :
    Calls Tryz.prog 20 #[.pointer (some ⟨g, 0, none⟩), .int .i64 vid, a.val, .int .i64 now] W fun e W' => ∃ M', e = .returned (.bool (noteB vid a now)) ∧ (noteL room life L vid a now).Perm (M'.map Hd.ent) ∧ HasH w g room life M' W' ∧ StaysH W W' := by
  obtain ⟨hb, v, T⟩ := h
  have K := hide (fun W => rcheck_any a W ha)
  have C := hide (fun W => htime_any now W)
  cases hnb : noteB vid a now with
  | false =>
    unfold noteL
    rw [hnb]
    have hcs : vid < 1 ∨ (1 ≤ vid ∧ 4094 < vid) ∨ (1 ≤ vid ∧ vid ≤ 4094 ∧ (a.check != 0) = true) ∨ (1 ≤ vid ∧ vid ≤ 4094 ∧ (a.check != 0) = false ∧ ((a.sip : Int) == 0) = true) ∨ (1 ≤ vid ∧ vid ≤ 4094 ∧ (a.check != 0) = false ∧ ((a.sip : Int) == 0) = false ∧ timeB now = false) := by
      by_cases h1 : vid < 1
      · exact .inl h1
      · by_cases h2 : 4094 < vid
        · exact .inr (.inl ⟨by omega, h2⟩)
        · by_cases h3 : a.check = 0
          · by_cases h4 : a.sip = 0
            · exact .inr (.inr (.inr (.inl ⟨by omega, by omega, by simp [h3], by simp [h4]⟩)))
            · refine .inr (.inr (.inr (.inr ⟨by omega, by omega, by simp [h3], by rw [beq_eq_false_iff_ne]; omega, ?_⟩)))
              have hv : vlanB vid = true := vlan_iff.2 ⟨by omega, by omega⟩
              have e4 : (a.sip == 0) = false := by rw [beq_eq_false_iff_ne]; exact h4
              unfold noteB at hnb
              rw [hv, h3, e4] at hnb
              simpa using hnb
          · exact .inr (.inr (.inl ⟨by omega, by omega, by simpa using h3⟩))
    exact (hnote_no g vid now a.op a.smac a.sip a.tmac a.tip a.check (timeB now) W K C hcs).mono fun e W' ⟨h1, h2⟩ => ⟨M, h1, hp, ⟨bthen hb h2, v, T.below h2⟩, StaysH.of h2⟩
  | true =>
    have hq := hnb
    unfold noteB at hq
    rw [Bool.and_eq_true, Bool.and_eq_true, Bool.and_eq_true] at hq
    obtain ⟨⟨⟨hv, hc⟩, hz⟩, ht⟩ := hq
    have hv2 := vlan_iff.1 hv
    have hc2 : a.check = 0 := by simpa using hc
    have hz2 : ((a.sip : Int) == 0) = false := by
      rw [beq_eq_false_iff_ne]
      simp at hz
      omega
    have hx : (hdOf vid a now).ok := by
      have h1 := ha.2.1
      have h2 := ha.2.2.1
      have h3 : 0 ≤ now ∧ now ≤ 1099511627776 := by simpa [timeB] using ht
      refine ⟨hv2, ⟨?_, ?_⟩, ⟨?_, ?_⟩, h3⟩
      · show (0 : Int) ≤ (a.sip : Int); omega
      · show (a.sip : Int) < 4294967296; omega
      · show (0 : Int) ≤ (a.smac : Int); omega
      · show (a.smac : Int) < 18446744073709551616; omega
    rw [hc2] at K
    rw [ht] at C
    have e : noteL room life L vid a now = (putP room life L (hdOf vid a now).ent).2 := by
      unfold noteL
      rw [hnb]
      rfl
    rw [e]
    refine (hnote_yes _ M v g room life vid now a.op a.smac a.sip a.tmac a.tip W T hx hz2 K C).mono fun e W' ⟨h1, M', h2, h3⟩ => ⟨M', h1, ?_, HasH.turned hb T h3⟩
    exact noted_perm (x := hdOf vid a now) hs hp ht h2
theorem hasH_expire {w W : World} {g : Nat} {room life : Int} {L : List Ent} {M : List Hd} (now : Int) (h : HasH w g room life M W) (hp : L.Perm (M.map Hd.ent)) :
    Calls Tryz.prog 25 #[.pointer (some ⟨g, 0, none⟩), .int .i64 now] W fun e W' => ∃ M', e = .returned (.int .i64 ((L.length : Int) - ((expP life now L).length : Int))) ∧ (expP life now L).Perm (M'.map Hd.ent) ∧ HasH w g room life M' W' ∧ StaysH W W' := by
  obtain ⟨hb, v, T⟩ := h
  have hk : (expP life now L).Perm ((keptH life now M).map Hd.ent) := by
    rw [keptH_ent]
    exact perm_exp hp life now
  refine (hexpire_any _ M v g room life now W T).mono fun e W' ⟨h1, h2⟩ => ⟨_, ?_, hk, HasH.turned hb T h2⟩
  rw [h1, hp.length_eq, hk.length_eq, List.length_map, List.length_map]
theorem find_same {life now vid : Int} {ip : Nat} {L : List Ent} {M : List Hd} (hs : Srt L) (hp : L.Perm (M.map Hd.ent)) (hk : HOks M) (hi : ip < 4294967296) : macH (M.find? (ansH life now vid ip)) = macO (findE life now L vid ip) := by
  have hmem : ∀ h ∈ M, h.ent ∈ L := fun h hh => hp.mem_iff.2 (List.mem_map_of_mem hh)
  cases hf : M.find? (ansH life now vid ip) with
  | some h =>
    have h1 := List.find?_some hf
    have h2 := List.mem_of_find?_eq_some hf
    have ho := hk h h2
    unfold ansH at h1
    rw [Bool.and_eq_true, Bool.and_eq_true, Bool.and_eq_true] at h1
    obtain ⟨e1, e2, e3, e4⟩ := h1
    have e1 : h.vid = vid := by simpa using e1
    have e2 : h.ip = (ip : Int) := by simpa using e2
    have e4 : now < h.at_ + life := of_decide_eq_true e4
    have hv : vlanB vid = true := vlan_iff.2 (by rw [← e1]; exact ho.1)
    have hl : look L (bkey vid ip) = some h.ent := (look_iff hs).2 ⟨hmem h h2, by show h.vid * 4294967296 + h.ip = _; unfold bkey; rw [e1, e2]⟩
    have hold : oldE life now h.ent = false := by
      show (!false && decide (h.at_ + life ≤ now)) = false
      rw [decide_eq_false (by omega)]
      rfl
    unfold findE told
    rw [hv, if_pos rfl, hl, Option.filter_some, e3, hold]
    rfl
  | none =>
    rw [List.find?_eq_none] at hf
    have hnone : findE life now L vid ip = none := by
      unfold findE
      cases hv : vlanB vid with
      | false => rfl
      | true =>
        simp only [if_true]
        cases hl : look L (bkey vid ip) with
        | none => rfl
        | some e =>
          obtain ⟨h1, h2⟩ := (look_iff hs).1 hl
          obtain ⟨h, hh, rfl⟩ := List.mem_map.1 (hp.mem_iff.1 h1)
          have ho := (hk h hh).2.1
          have hkk : h.vid * 4294967296 + h.ip = vid * 4294967296 + (ip : Int) := h2
          have e1 : h.vid = vid := by omega
          have e2 : h.ip = (ip : Int) := by omega
          have h3 := hf h hh
          unfold ansH at h3
          rw [e1, e2, beq_self_eq_true, beq_self_eq_true, Bool.true_and, Bool.true_and] at h3
          unfold told
          rw [Option.filter_some]
          have hq : (timeB now && !oldE life now h.ent) = false := by
            cases ht : timeB now with
            | false => rfl
            | true =>
              rw [ht] at h3
              have h4 : ¬ now < h.at_ + life := by simpa using h3
              show (true && !(!false && decide (h.at_ + life ≤ now))) = false
              rw [decide_eq_true (by omega)]
              rfl
          rw [hq]
          rfl
    rw [hnone]
    rfl
theorem hasH_find {w W : World} {g : Nat} {room life : Int} {L : List Ent} {M : List Hd} (vid now : Int) (ip : Nat) (h : HasH w g room life M W) (hs : Srt L) (hp : L.Perm (M.map Hd.ent)) (hi : ip < 4294967296) :
    Calls Tryz.prog 22 #[.pointer (some ⟨g, 0, none⟩), .int .i64 vid, .int .u32 (ip : Int), .int .i64 now] W fun e W' => e = .returned (macO (findE life now L vid ip)) ∧ Below W.heap.size W W' := by
  obtain ⟨_, v, T⟩ := h
  have h := hfind_any _ M v g room life vid ip now W T
  rw [find_same hs hp T.oks hi] at h
  exact h
theorem hasH_reply {w W : World} {g : Nat} {room life : Int} {L : List Ent} {M : List Hd} (vid now : Int) (a : Ar) (h : HasH w g room life M W) (hs : Srt L) (ho : OwnL L) (hk : Oks L) (hp : L.Perm (M.map Hd.ent)) (ha : a.fits) :
    Calls Tryz.prog 24 #[.pointer (some ⟨g, 0, none⟩), .int .i64 vid, a.val, .int .i64 now] W fun e W' => e = .returned (.tuple #[(replyF life now L vid a).1.val, .bool (replyF life now L vid a).2]) ∧ Below W.heap.size W W' := by
  have K := hide (fun W => rcheck_any a W ha)
  have C : ∀ W2, Below W.heap.size W W2 → Calls Tryz.prog 22 #[.pointer (some ⟨g, 0, none⟩), .int .i64 vid, .int .u32 (a.tip : Int), .int .i64 now] W2 fun e W' => e = .returned (macO (findE life now L vid a.tip)) ∧ Below W2.heap.size W2 W' := fun W2 b => hasH_find vid now a.tip (h.below b) hs hp ha.2.2.2.2
  have no : ∀ (m : Int) (is : Bool), macO (findE life now L vid a.tip) = .tuple #[.int .u64 m, .bool is] → replyF life now L vid a = (Fr.none, false) → ((a.op != 1) = true ∨ ((a.op != 1) = false ∧ (a.check != 0) = true) ∨ ((a.op != 1) = false ∧ (a.check != 0) = false ∧ ((a.sip : Int) == 0) = true) ∨ ((a.op != 1) = false ∧ (a.check != 0) = false ∧ ((a.sip : Int) == 0) = false ∧ ((a.sip : Int) == (a.tip : Int)) = true) ∨ ((a.op != 1) = false ∧ (a.check != 0) = false ∧ ((a.sip : Int) == 0) = false ∧ ((a.sip : Int) == (a.tip : Int)) = false ∧ is = false)) →
      Calls Tryz.prog 24 #[.pointer (some ⟨g, 0, none⟩), .int .i64 vid, a.val, .int .i64 now] W fun e W' => e = .returned (.tuple #[(replyF life now L vid a).1.val, .bool (replyF life now L vid a).2]) ∧ Below W.heap.size W W' := fun m is h1 h2 h3 => by
    rw [h2]
    rw [h1] at C
    exact hreply_none g a.op a.smac a.sip a.tmac a.tip vid now m a.check is W h3 K (hide C)
  obtain ⟨m, is, hmi⟩ : ∃ m is, macO (findE life now L vid a.tip) = .tuple #[.int .u64 m, .bool is] := by
    cases findE life now L vid a.tip with
    | none => exact ⟨0, false, rfl⟩
    | some e => exact ⟨e.val, true, rfl⟩
  by_cases h1 : a.op = 1
  · have e1 : (a.op != 1) = false := by simpa using h1
    by_cases h2 : a.check = 0
    · have e2 : (a.check != 0) = false := by simpa using h2
      by_cases h3 : a.sip = 0
      · refine no m is hmi ?_ (.inr (.inr (.inl ⟨e1, e2, by simp [h3]⟩)))
        unfold replyF
        cases findE life now L vid a.tip with
        | none => rfl
        | some e => simp [h3]
      · have e3 : ((a.sip : Int) == 0) = false := by rw [beq_eq_false_iff_ne]; omega
        by_cases h4 : a.sip = a.tip
        · refine no m is hmi ?_ (.inr (.inr (.inr (.inl ⟨e1, e2, e3, by simp [h4]⟩))))
          unfold replyF
          cases findE life now L vid a.tip with
          | none => rfl
          | some e => simp [h4]
        · have e4 : ((a.sip : Int) == (a.tip : Int)) = false := by rw [beq_eq_false_iff_ne]; omega
          cases hf : findE life now L vid a.tip with
          | none =>
            rw [hf] at hmi
            refine no 0 false (by rw [hf]; rfl) ?_ (.inr (.inr (.inr (.inr ⟨e1, e2, e3, e4, rfl⟩))))
            unfold replyF
            rw [hf]
          | some e =>
            have hm := findE_mem hf
            have hv := (hk e hm).2.2
            have how := ho e hm
            obtain ⟨mm, hmm⟩ : ∃ mm : Nat, e.val = mm := ⟨e.val.toNat, by omega⟩
            have hme : e.val.toNat = mm := by omega
            rw [hme] at how
            have hr : replyF life now L vid a = (arpFr a.smac (tellAr a mm), true) := by
              unfold replyF tells
              rw [hf]
              simp only
              rw [if_neg (by omega), hme, if_pos ⟨h1, h2, how⟩]
              rfl
            rw [hr]
            rw [hf] at C
            have C2 := C
            unfold macO at C2
            simp only [hmm] at C2
            have K2 := K
            rw [h2] at K2
            refine hreply_tell g a.op a.smac a.sip a.tmac a.tip vid now mm _ _ _ _ _ 0 _ _ _ W e1 e3 e4 K2 (hide C2) (hide fun W => ?_)
            exact rtell_at a.op a.smac a.sip a.tmac a.tip mm (bs (tellAr a mm).bytes) W e1 K2 (hide fun W => by have := rown mm W (by omega); rw [how] at this; exact this) (hide fun W => laid_any (tellAr a mm) W ⟨by unfold tellAr; simp, by show mm < 18446744073709551616; omega, ha.2.2.2.2, ha.2.1, ha.2.2.1⟩ (by unfold tellAr; simp))
    · have e2 : (a.check != 0) = true := by simpa using h2
      refine no m is hmi ?_ (.inr (.inl ⟨e1, e2⟩))
      unfold replyF tells
      cases findE life now L vid a.tip with
      | none => rfl
      | some e =>
        simp only
        split
        · rfl
        · rw [if_neg (fun q => h2 q.2.1)]
          rfl
  · have e1 : (a.op != 1) = true := by simpa using h1
    refine no m is hmi ?_ (.inl e1)
    unfold replyF tells
    cases findE life now L vid a.tip with
    | none => rfl
    | some e =>
      simp only
      split
      · rfl
      · rw [if_neg (fun q => h1 q.1)]
        rfl
end Go.Proofs.YtljhgehlaehgnaaGreatDoor
