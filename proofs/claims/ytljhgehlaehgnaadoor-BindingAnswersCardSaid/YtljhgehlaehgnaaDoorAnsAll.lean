/-
  The lowest bits of a number, as a remainder; no program is named here.
  A struct of 9 cells in a block of its own: read, written, kept; no program is named here.
  Plain facts: what a table answers of an address, call by call: the last message that came of it, as long as that is not old.
  The walk of BindingAnswers: what is answered goes to who asked, and says what the last message said that came of that address, in that VLAN, not longer ago than it lives. No condition.
-/
import Derived.Test.YtljhgehlaehgnaaDoorAgPlain
import Derived.Laws.Bits128
import Derived.Test.YtljhgehlaehgnaaDoorKit10
import Derived.Test.YtljhgehlaehgnaaDoorBd5
import Derived.Test.YtljhgehlaehgnaaDoorFixed12
import Derived.Test.YtljhgehlaehgnaaDoorRow12
namespace Go.Proofs.YtljhgehlaehgnaaDoor

theorem i64_and7 (n : Int) : bits .and .i64 n 7 = n % 8 := by
  have h : (BitVec.ofInt 64 7).toNat = 2 ^ 3 - 1 := by decide
  have key : (BitVec.ofInt 64 n &&& BitVec.ofInt 64 7).toNat = (n % ((2 ^ 64 : Nat) : Int)).toNat % 2 ^ 3 := by
    rw [BitVec.toNat_and, BitVec.toNat_ofInt, h, Nat.and_two_pow_sub_one_eq_mod]
  show IntKind.i64.wrap ((BitVec.ofInt 64 n &&& BitVec.ofInt 64 7).toNat : Nat) = n % 8
  rw [key, IntKind.wrap_i64]
  omega
theorem i64_and31 (n : Int) : bits .and .i64 n 31 = n % 32 := by
  have h : (BitVec.ofInt 64 31).toNat = 2 ^ 5 - 1 := by decide
  have key : (BitVec.ofInt 64 n &&& BitVec.ofInt 64 31).toNat = (n % ((2 ^ 64 : Nat) : Int)).toNat % 2 ^ 5 := by
    rw [BitVec.toNat_and, BitVec.toNat_ofInt, h, Nat.and_two_pow_sub_one_eq_mod]
  show IntKind.i64.wrap ((BitVec.ofInt 64 n &&& BitVec.ofInt 64 31).toNat : Nat) = n % 32
  rw [key, IntKind.wrap_i64]
  omega
theorem i64_and16 (n : Int) : bits .and .i64 n 65535 = n % 65536 := by
  have h : (BitVec.ofInt 64 65535).toNat = 2 ^ 16 - 1 := by decide
  have key : (BitVec.ofInt 64 n &&& BitVec.ofInt 64 65535).toNat = (n % ((2 ^ 64 : Nat) : Int)).toNat % 2 ^ 16 := by
    rw [BitVec.toNat_and, BitVec.toNat_ofInt, h, Nat.and_two_pow_sub_one_eq_mod]
  show IntKind.i64.wrap ((BitVec.ofInt 64 n &&& BitVec.ofInt 64 65535).toNat : Nat) = n % 65536
  rw [key, IntKind.wrap_i64]
  omega
theorem i64_and30 (n : Int) : bits .and .i64 n 1073741823 = n % 1073741824 := by
  have h : (BitVec.ofInt 64 1073741823).toNat = 2 ^ 30 - 1 := by decide
  have key : (BitVec.ofInt 64 n &&& BitVec.ofInt 64 1073741823).toNat = (n % ((2 ^ 64 : Nat) : Int)).toNat % 2 ^ 30 := by
    rw [BitVec.toNat_and, BitVec.toNat_ofInt, h, Nat.and_two_pow_sub_one_eq_mod]
  show IntKind.i64.wrap ((BitVec.ofInt 64 n &&& BitVec.ofInt 64 1073741823).toNat : Nat) = n % 1073741824
  rw [key, IntKind.wrap_i64]
  omega
end Go.Proofs.YtljhgehlaehgnaaDoor
namespace Go.Proofs.YtljhgehlaehgnaaDoor
open Go.RowKit

theorem cells9 {W : World} {g : Nat} {t : TypeId} {a0 a1 a2 a3 a4 a5 a6 a7 a8 : Value} (h : W.heap[g]? = some (.cells #[a0, a1, a2, a3, a4, a5, a6, a7, a8] t (0, 0))) :
    W.cell? ⟨g, 0, none⟩ = some a0 ∧ W.cell? ⟨g, 1, none⟩ = some a1 ∧ W.cell? ⟨g, 2, none⟩ = some a2 ∧ W.cell? ⟨g, 3, none⟩ = some a3 ∧ W.cell? ⟨g, 4, none⟩ = some a4 ∧ W.cell? ⟨g, 5, none⟩ = some a5 ∧ W.cell? ⟨g, 6, none⟩ = some a6 ∧ W.cell? ⟨g, 7, none⟩ = some a7 ∧ W.cell? ⟨g, 8, none⟩ = some a8 ∧
    W.frozen? ⟨g, 0, none⟩ = false ∧ W.frozen? ⟨g, 1, none⟩ = false ∧ W.frozen? ⟨g, 2, none⟩ = false ∧ W.frozen? ⟨g, 3, none⟩ = false ∧ W.frozen? ⟨g, 4, none⟩ = false ∧ W.frozen? ⟨g, 5, none⟩ = false ∧ W.frozen? ⟨g, 6, none⟩ = false ∧ W.frozen? ⟨g, 7, none⟩ = false ∧ W.frozen? ⟨g, 8, none⟩ = false :=
  ⟨cell_of_row W g 0 _ _ _ h, cell_of_row W g 1 _ _ _ h, cell_of_row W g 2 _ _ _ h, cell_of_row W g 3 _ _ _ h, cell_of_row W g 4 _ _ _ h, cell_of_row W g 5 _ _ _ h, cell_of_row W g 6 _ _ _ h, cell_of_row W g 7 _ _ _ h, cell_of_row W g 8 _ _ _ h, frozen_of_row W g 0 _ _ h, frozen_of_row W g 1 _ _ h, frozen_of_row W g 2 _ _ h, frozen_of_row W g 3 _ _ h, frozen_of_row W g 4 _ _ h, frozen_of_row W g 5 _ _ h, frozen_of_row W g 6 _ _ h, frozen_of_row W g 7 _ _ h, frozen_of_row W g 8 _ _ h⟩
theorem set9 {W : World} {g : Nat} {t : TypeId} {a0 a1 a2 a3 a4 a5 a6 a7 a8 v0 v1 v2 v3 v4 v5 v6 v7 v8 : Value} (h : W.heap[g]? = some (.cells #[a0, a1, a2, a3, a4, a5, a6, a7, a8] t (0, 0))) :
    (((((((((W.setCell ⟨g, 0, none⟩ v0).setCell ⟨g, 1, none⟩ v1).setCell ⟨g, 2, none⟩ v2).setCell ⟨g, 3, none⟩ v3).setCell ⟨g, 4, none⟩ v4).setCell ⟨g, 5, none⟩ v5).setCell ⟨g, 6, none⟩ v6).setCell ⟨g, 7, none⟩ v7).setCell ⟨g, 8, none⟩ v8).heap[g]? = some (.cells #[v0, v1, v2, v3, v4, v5, v6, v7, v8] t (0, 0)) := by
  have := heap_setCell_same _ g 8 _ t v8 (heap_setCell_same _ g 7 _ t v7 (heap_setCell_same _ g 6 _ t v6 (heap_setCell_same _ g 5 _ t v5 (heap_setCell_same _ g 4 _ t v4 (heap_setCell_same _ g 3 _ t v3 (heap_setCell_same _ g 2 _ t v2 (heap_setCell_same _ g 1 _ t v1 (heap_setCell_same _ g 0 _ t v0 h))))))))
  simpa using this
theorem set9d {W : World} {g : Nat} {t : TypeId} {a0 a1 a2 a3 a4 a5 a6 a7 a8 v0 v1 v2 v3 v4 v5 v6 v7 v8 : Value} (h : W.heap[g]? = some (.cells #[a0, a1, a2, a3, a4, a5, a6, a7, a8] t (0, 0))) :
    (((((((((W.setCell ⟨g, 0, none⟩ v0).setCell ⟨g, 1, none⟩ v1).setCell ⟨g, 2, none⟩ v2).setCell ⟨g, 3, none⟩ v3).setCell ⟨g, 4, none⟩ v4).setCell ⟨g, 5, none⟩ v5).setCell ⟨g, 6, none⟩ v6).setCell ⟨g, 7, none⟩ v7).setCell ⟨g, 8, none⟩ v8).drew.heap[g]? = some (.cells #[v0, v1, v2, v3, v4, v5, v6, v7, v8] t (0, 0)) := by
  rw [heap_drew]; exact set9 h
theorem below9 {B : Nat} {a W : World} {g : Nat} {v0 v1 v2 v3 v4 v5 v6 v7 v8 : Value} (h : Below B a W) (hg : B ≤ g) : Below B a (((((((((W.setCell ⟨g, 0, none⟩ v0).setCell ⟨g, 1, none⟩ v1).setCell ⟨g, 2, none⟩ v2).setCell ⟨g, 3, none⟩ v3).setCell ⟨g, 4, none⟩ v4).setCell ⟨g, 5, none⟩ v5).setCell ⟨g, 6, none⟩ v6).setCell ⟨g, 7, none⟩ v7).setCell ⟨g, 8, none⟩ v8) :=
  ((((((((h.setCell (p := ⟨g, 0, none⟩) hg v0).setCell (p := ⟨g, 1, none⟩) hg v1).setCell (p := ⟨g, 2, none⟩) hg v2).setCell (p := ⟨g, 3, none⟩) hg v3).setCell (p := ⟨g, 4, none⟩) hg v4).setCell (p := ⟨g, 5, none⟩) hg v5).setCell (p := ⟨g, 6, none⟩) hg v6).setCell (p := ⟨g, 7, none⟩) hg v7).setCell (p := ⟨g, 8, none⟩) hg v8
theorem other9 {W : World} {g k : Nat} {v0 v1 v2 v3 v4 v5 v6 v7 v8 : Value} {o : Obj} (h : k ≠ g) (hk : W.heap[k]? = some o) : (((((((((W.setCell ⟨g, 0, none⟩ v0).setCell ⟨g, 1, none⟩ v1).setCell ⟨g, 2, none⟩ v2).setCell ⟨g, 3, none⟩ v3).setCell ⟨g, 4, none⟩ v4).setCell ⟨g, 5, none⟩ v5).setCell ⟨g, 6, none⟩ v6).setCell ⟨g, 7, none⟩ v7).setCell ⟨g, 8, none⟩ v8).heap[k]? = some o := by
  rw [heap_setCell_other _ ⟨g, 8, none⟩ k _ h, heap_setCell_other _ ⟨g, 7, none⟩ k _ h, heap_setCell_other _ ⟨g, 6, none⟩ k _ h, heap_setCell_other _ ⟨g, 5, none⟩ k _ h, heap_setCell_other _ ⟨g, 4, none⟩ k _ h, heap_setCell_other _ ⟨g, 3, none⟩ k _ h, heap_setCell_other _ ⟨g, 2, none⟩ k _ h, heap_setCell_other _ ⟨g, 1, none⟩ k _ h, heap_setCell_other _ ⟨g, 0, none⟩ k _ h]
  exact hk
end Go.Proofs.YtljhgehlaehgnaaDoor
namespace Go.Proofs.YtljhgehlaehgnaaDoor

theorem i64_and15 (n : Int) : bits .and .i64 n 15 = n % 16 := by
  have h : (BitVec.ofInt 64 15).toNat = 2 ^ 4 - 1 := by decide
  have key : (BitVec.ofInt 64 n &&& BitVec.ofInt 64 15).toNat = (n % ((2 ^ 64 : Nat) : Int)).toNat % 2 ^ 4 := by
    rw [BitVec.toNat_and, BitVec.toNat_ofInt, h, Nat.and_two_pow_sub_one_eq_mod]
  show IntKind.i64.wrap ((BitVec.ofInt 64 n &&& BitVec.ofInt 64 15).toNat : Nat) = n % 16
  rw [key, IntKind.wrap_i64]
  omega
theorem mem_ins_self {L : List Ent} (hs : Srt L) (x : Ent) : x ∈ ins x L := by
  cases h : look L x.key with
  | none => exact (mem_ins_new hs h).2 (.inl rfl)
  | some e => exact (mem_ins_old hs h).2 (.inl rfl)
theorem look_ins_self {L : List Ent} (hs : Srt L) (x : Ent) : look (ins x L) x.key = some x := (look_iff (hs.ins x)).2 ⟨mem_ins_self hs x, rfl⟩
theorem look_ins_other {L : List Ent} (hs : Srt L) (x : Ent) {k : Int} (hk : k ≠ x.key) : look (ins x L) k = look L k := by
  cases h : look L k with
  | none =>
    rw [look_none_iff] at h ⊢
    intro y hy
    rcases mem_ins hy with rfl | hy
    · exact fun e => hk e.symm
    · exact h y hy
  | some e =>
    obtain ⟨h1, h2⟩ := (look_iff hs).1 h
    refine (look_iff (hs.ins x)).2 ⟨?_, h2⟩
    cases hx : look L x.key with
    | none => exact (mem_ins_new hs hx).2 (.inr h1)
    | some _ => exact (mem_ins_old hs hx).2 (.inr ⟨h1, by rw [h2]; exact hk⟩)
theorem look_kept {L : List Ent} (hs : Srt L) (p : Ent → Bool) (k : Int) : look (kept p L) k = (look L k).filter fun e => !p e := by
  cases h : look L k with
  | none =>
    rw [Option.filter_none, look_none_iff]
    rw [look_none_iff] at h
    exact fun y hy => h y (List.mem_filter.1 hy).1
  | some e =>
    obtain ⟨h1, h2⟩ := (look_iff hs).1 h
    cases hp : p e with
    | false =>
      rw [Option.filter_some, hp]
      exact (look_iff (hs.filter _)).2 ⟨List.mem_filter.2 ⟨h1, by simp [hp]⟩, h2⟩
    | true =>
      rw [Option.filter_some, hp]
      simp only [Bool.not_true]
      refine look_none_iff.2 fun y hy hk => ?_
      obtain ⟨hy1, hy2⟩ := List.mem_filter.1 hy
      have := srt_key hs hy1 h1 (by omega)
      subst this
      rw [hp] at hy2
      cases hy2
theorem told_kept {life now t : Int} (h : now ≤ t) (o : Option Ent) : told life t (o.filter fun e => !oldE life now e) = told life t o := by
  cases o with
  | none => rfl
  | some e =>
    cases ho : oldE life now e with
    | false => rw [Option.filter_some, ho]; rfl
    | true =>
      have h2 : oldE life t e = true := by
        simp [oldE] at ho ⊢
        exact ⟨ho.1, by omega⟩
      have h3 : told life t (some e) = none := by
        unfold told
        rw [Option.filter_some, h2]
        simp
      rw [Option.filter_some, ho, h3]
      rfl
theorem told_mk (life t k m s : Int) (ht : timeB t = true) : told life t (some ⟨k, m, s, false⟩) = if t - s < life then some ⟨k, m, s, false⟩ else none := by
  unfold told
  rw [Option.filter_some, ht]
  by_cases h : t - s < life
  · have : oldE life t ⟨k, m, s, false⟩ = false := by unfold oldE; simp; omega
    rw [this, if_pos h]
    rfl
  · have : oldE life t ⟨k, m, s, false⟩ = true := by unfold oldE; simp; omega
    rw [this, if_neg h]
    rfl
/-- what is found behind a put -/
theorem told_put {room life t k : Int} {L : List Ent} {x : Ent} (hs : Srt L) (h : NF L) (hl : (L.length : Int) < room) (hx : timeB x.at_ = true) (ht : x.at_ ≤ t) :
    told life t (look (putP room life L x).2 k) = (if k = x.key then told life t (some x) else told life t (look L k)) ∧ (putP room life L x).2.length ≤ L.length + 1 := by
  unfold putP
  rw [hx]
  simp only [if_true]
  cases hlk : look L x.key with
  | some y =>
    have hy : y.fix = false := h y (look_mem hlk)
    simp only [hy]
    refine ⟨?_, by simp only [Bool.false_eq_true, if_false]; rw [len_ins_old hs hlk]; omega⟩
    simp only [Bool.false_eq_true, if_false]
    split
    · next e => rw [e, look_ins_self hs x]
    · next e => rw [look_ins_other hs x e]
  | none =>
    have hk : Srt (kept (oldE life x.at_) L) := hs.filter _
    have hn : look (kept (oldE life x.at_) L) x.key = none := by rw [look_kept hs, hlk]; rfl
    have hlen : (kept (oldE life x.at_) L).length ≤ L.length := List.length_filter_le _ _
    have e1 : noted room (kept (oldE life x.at_) L) x = some (ins x (kept (oldE life x.at_) L)) := by
      unfold noted roomed
      rw [hn, if_pos (by omega)]
      rfl
    rw [e1]
    refine ⟨?_, by simp only [Option.getD_some]; rw [len_ins_new hk hn]; omega⟩
    simp only [Option.getD_some]
    split
    · next e => rw [e, look_ins_self hk x]
    · next e => rw [look_ins_other hk x e, look_kept hs, told_kept ht]
theorem bkey_inj {v1 v2 : Int} {i1 i2 : Nat} (h1 : i1 < 4294967296) (h2 : i2 < 4294967296) (h : bkey v1 i1 = bkey v2 i2) : v1 = v2 ∧ i1 = i2 := by
  unfold bkey at h; omega
/-- a message that tells of the address that is asked for -/
def hitB (vid : Int) (ip : Nat) (v : Int) (a : Ar) (now : Int) : Bool := noteB v a now && ((v == vid) && (a.sip == ip))
/-- what is known of an address -/
structure Ans (n now since : Int) (mac : Nat) (heard : Bool) (vid : Int) (ip : Nat) (L : List Ent) : Prop where
  told : ∀ t, now ≤ t → t ≤ 1099511627776 → findE n t L vid ip = if heard = true ∧ t - since < n then some ⟨bkey vid ip, mac, since, false⟩ else none
  own : heard = true → ownH mac = true ∧ vlanB vid = true ∧ 0 ≤ since ∧ since ≤ now
theorem ans_start (n : Int) (vid : Int) (ip : Nat) : Ans n 0 0 0 false vid ip [] := by
  refine ⟨fun t _ _ => ?_, fun h => by cases h⟩
  rw [if_neg (by simp)]
  unfold findE
  split <;> rfl
theorem noteB_spec {v : Int} {a : Ar} {now : Int} (h : noteB v a now = true) : vlanB v = true ∧ a.check = 0 ∧ a.sip ≠ 0 ∧ timeB now = true := by
  simp [noteB] at h
  exact ⟨h.1.1.1, h.1.1.2, h.1.2, h.2⟩
theorem ans_next {n now now' since : Int} {mac : Nat} {heard : Bool} {vid v : Int} {ip : Nat} {L : List Ent} {a : Ar} (A : Ans n now since mac heard vid ip L) (hs : Srt L) (h : NF L) (hl : (L.length : Int) < 64) (h0 : 0 ≤ now) (hle : now ≤ now') (hip : ip < 4294967296) (ha : a.fits) :
    Ans n now' (if hitB vid ip v a now' then now' else since) (if hitB vid ip v a now' then a.smac else mac) (heard || hitB vid ip v a now') vid ip (noteL 64 n L v a now') ∧ (noteL 64 n L v a now').length ≤ L.length + 1 := by
  unfold noteL hitB
  cases hn : noteB v a now' with
  | false =>
    simp only [Bool.false_and, Bool.false_eq_true, if_false, Bool.or_false]
    exact ⟨⟨fun t h1 h2 => A.told t (by omega) h2, fun hh => by obtain ⟨p1, p2, p3, p4⟩ := A.own hh; exact ⟨p1, p2, p3, by omega⟩⟩, by omega⟩
  | true =>
    obtain ⟨hv, hc, hz, ht⟩ := noteB_spec hn
    have TP := fun t k (h1 : now' ≤ t) => told_put (room := 64) (life := n) (t := t) (k := k) (x := noteE v a now') hs h hl ht h1
    simp only [Bool.true_and, if_true]
    refine ⟨?_, (TP now' 0 (Int.le_refl _)).2⟩
    have hown : ownH a.smac = true := (arp_check_spec hc).2.2.1
    by_cases hh : v = vid ∧ a.sip = ip
    · obtain ⟨rfl, rfl⟩ := hh
      simp only [beq_self_eq_true, Bool.and_self, if_true, Bool.or_true]
      refine ⟨fun t h1 h2 => ?_, fun _ => ⟨hown, hv, by omega, Int.le_refl _⟩⟩
      unfold findE
      rw [hv, if_pos rfl, (TP t _ h1).1, if_pos (show bkey v a.sip = (noteE v a now').key from rfl)]
      have htt : timeB t = true := by simp [timeB]; omega
      show told n t (some ⟨bkey v a.sip, a.smac, now', false⟩) = _
      rw [told_mk n t _ _ _ htt]
      simp
    · have hf : ((v == vid) && (a.sip == ip)) = false := by
        rw [Bool.eq_false_iff]
        intro e
        simp at e
        exact hh e
      rw [hf]
      simp only [Bool.false_eq_true, if_false, Bool.or_false]
      refine ⟨fun t h1 h2 => ?_, fun hh => by obtain ⟨p1, p2, p3, p4⟩ := A.own hh; exact ⟨p1, p2, p3, by omega⟩⟩
      rw [← A.told t (by omega) h2]
      unfold findE
      cases hvv : vlanB vid with
      | false => rfl
      | true =>
        simp only [if_true]
        rw [(TP t _ h1).1, if_neg]
        intro e
        have := bkey_inj hip ha.2.2.1 (e : bkey vid ip = bkey v a.sip)
        exact hh ⟨this.1.symm, this.2.symm⟩
/-- may a message be answered -/
def mayB (a : Ar) : Bool := (a.op == 1) && (a.check == 0) && !(a.sip == 0) && !(a.sip == a.tip)
theorem reply_known {n now since t : Int} {mac : Nat} {heard : Bool} {vid : Int} {L : List Ent} {a : Ar} (A : Ans n now since mac heard vid a.tip L) (h1 : now ≤ t) (h2 : t ≤ 1099511627776) :
    replyF n t L vid a = if mayB a = true ∧ heard = true ∧ t - since < n then (arpFr a.smac (tellAr a mac), true) else (Fr.none, false) := by
  unfold replyF
  rw [A.told t h1 h2]
  by_cases hk : heard = true ∧ t - since < n
  · rw [if_pos hk]
    simp only
    have ho := (A.own hk.1).1
    by_cases hz : a.sip = 0 ∨ a.sip = a.tip
    · rw [if_pos hz, if_neg]
      intro hm
      have := hm.1
      simp [mayB] at this
      omega
    · rw [if_neg hz]
      unfold tells
      rw [show ((mac : Nat) : Int).toNat = mac by omega]
      by_cases hm : a.op = 1 ∧ a.check = 0
      · rw [if_pos ⟨hm.1, hm.2, ho⟩, if_pos ⟨by simp [mayB, hm.1, hm.2]; omega, hk⟩]
        rfl
      · rw [if_neg (fun q => hm ⟨q.1, q.2.1⟩), if_neg]
        · rfl
        · intro q
          have := q.1
          simp [mayB] at this
          exact hm ⟨this.1.1.1, this.1.1.2⟩
  · rw [if_neg hk, if_neg (fun q => hk q.2)]
end Go.Proofs.YtljhgehlaehgnaaDoor
namespace Go.Proofs.YtljhgehlaehgnaaDoor.bindingAnswers
open Go.ChangeShapes Go.WideShapes Go.ChangeAt Go.RowKit Go.Deep Go.Sort

theorem Bnd.srt {w W : World} {g p : Nat} {room life : Int} {L : List Ent} (h : Bnd w g p room life L W) : Srt L := by
  obtain ⟨_, v, T⟩ := h.has
  exact T.srt
theorem fields_frame : Tryd.prog.underlying 44 = some (.struct (Tryd.prog.fieldsOf 44)) := by kernel_rfl
theorem held_frame : Tryd.prog.stoodInHeld 44 = false := by kernel_rfl
theorem zero_frame (W : World) : (binOp .eql 44 (.agg #[.int .u64 0, .int .u64 0, .bool false, .int .i64 0, .bool false, .int .i64 0, .int .i64 0, .string ⟨#[]⟩]) (.agg #[.int .u64 0, .int .u64 0, .bool false, .int .i64 0, .bool false, .int .i64 0, .int .i64 0, .string ⟨#[]⟩])).run Tryd.prog W = .ok (.bool true) W := by
  rw [run_eql_struct, run_equalIn_agg _ _ _ _ _ fields_frame held_frame]
  simp [go_sem, Tryd.underlying44]
theorem may_spec {a : Ar} (h : mayB a = true) : (a.op == 1) = true ∧ a.check = 0 ∧ ((a.sip : Int) != 0) = true ∧ ((a.sip : Int) != (a.tip : Int)) = true := by
  simp [mayB] at h
  refine ⟨by simpa using h.1.1.1, h.1.1.2, ?_, ?_⟩
  · rw [bne_iff_ne]; omega
  · rw [bne_iff_ne]; omega
/-- why a message is not answered -/
theorem known_cases (a : Ar) (hd : Bool) (lt P : Prop) [Decidable lt] (hp : hd = true → P) : (mayB a = true ∧ hd = true ∧ lt) ∨ ((a.op == 1) = false ∨ ((a.op == 1) = true ∧ (a.check == 0) = false) ∨ ((a.op == 1) = true ∧ (a.check == 0) = true ∧ ((a.sip : Int) != 0) = false) ∨ ((a.op == 1) = true ∧ (a.check == 0) = true ∧ ((a.sip : Int) != 0) = true ∧ ((a.sip : Int) != (a.tip : Int)) = false) ∨
    ((a.op == 1) = true ∧ (a.check == 0) = true ∧ ((a.sip : Int) != 0) = true ∧ ((a.sip : Int) != (a.tip : Int)) = true ∧ hd = false) ∨ ((a.op == 1) = true ∧ (a.check == 0) = true ∧ ((a.sip : Int) != 0) = true ∧ ((a.sip : Int) != (a.tip : Int)) = true ∧ hd = true ∧ P ∧ ¬ lt)) := by
  cases h1 : a.op == 1 with
  | false => exact .inr (.inl rfl)
  | true =>
    cases h2 : a.check == 0 with
    | false => exact .inr (.inr (.inl ⟨rfl, rfl⟩))
    | true =>
      cases h3 : (a.sip : Int) != 0 with
      | false => exact .inr (.inr (.inr (.inl ⟨rfl, rfl, rfl⟩)))
      | true =>
        cases h4 : (a.sip : Int) != (a.tip : Int) with
        | false => exact .inr (.inr (.inr (.inr (.inl ⟨rfl, rfl, rfl, rfl⟩))))
        | true =>
          cases hd with
          | false => exact .inr (.inr (.inr (.inr (.inr (.inl ⟨rfl, rfl, rfl, rfl, rfl⟩)))))
          | true =>
            by_cases hl : lt
            · refine .inl ⟨?_, rfl, hl⟩
              rw [bne_iff_ne] at h3 h4
              have e3 : (a.sip == 0) = false := by rw [beq_eq_false_iff_ne]; omega
              have e4 : (a.sip == a.tip) = false := by rw [beq_eq_false_iff_ne]; omega
              unfold mayB
              rw [h1, h2, e3, e4]
              rfl
            · exact .inr (.inr (.inr (.inr (.inr (.inr ⟨rfl, rfl, rfl, rfl, rfl, hp rfl, hl⟩)))))
set_option maxHeartbeats 8000000 in
set_option maxRecDepth 100000 in
theorem walk_at (b : Int) (ao : Option Addr) (n cap : Nat) (S : Nat → Bop) (kd vid : Int) (a : Ar) (ip : Nat) (onow : Int) (w : World) (h : OpsIn w ao n cap S) (ha : a.fits) :
    Calls Tryd.prog 4 #[.int .i64 b, .slice ao n cap, .agg #[.int .i64 kd, .int .i64 vid, .int .i64 a.op, .int .u64 (a.smac : Int), .int .u32 (a.sip : Int), .int .u64 (a.tmac : Int), .int .u32 (a.tip : Int), .int .u32 (ip : Int), .int .i64 onow]] w fun e w' => e = .returned (.bool true) ∧ Below w.heap.size w w' := by
  obtain ⟨hnc, _, hao⟩ := h
  have hb := i64_and31 b
  obtain ⟨l, hl⟩ : ∃ l, b % 32 = l := ⟨_, rfl⟩
  have l0 : 0 ≤ l := by omega
  have l1 : l < 32 := by omega
  rw [hl] at hb
  clear hl
  have b0 := alloc_below w (.cells #[.int .i64 kd, .int .i64 vid, .int .i64 a.op, .int .u64 (a.smac : Int), .int .u32 (a.sip : Int), .int .u64 (a.tmac : Int), .int .u32 (a.tip : Int), .int .u32 (ip : Int), .int .i64 onow] 39)
  have r0 := hide (heap_alloc_new w (.cells #[.int .i64 kd, .int .i64 vid, .int .i64 a.op, .int .u64 (a.smac : Int), .int .u32 (a.sip : Int), .int .u64 (a.tmac : Int), .int .u32 (a.tip : Int), .int .u32 (ip : Int), .int .i64 onow] 39))
  have CB := hide (bnew_ok (w := w) 64 (1 + l) b0 ⟨by omega, by omega, by omega, by omega⟩)
  have CF := hide (fun W => fixed_any W)
  have CK := hide (fun W => arpCheck_any a W ha)
  have HA := hide hao
  have HF := hide ha
  clear b0 hao ha
  go_enter Tryd.func4, Tryd.ntmps4
  go_wp2_with fail
  refine (unhide CB).mono ?_
  rintro e w1 ⟨g, p, rfl, h1, b1⟩
  have H1 := hide h1
  have R1 := hide (Below.row b1 (unhide r0))
  clear h1 b1 CB r0
  go_wp2_with fail
  go_loopg [10, 11, 12, 13, 14, 15] 40 (fun gg N C M D I _ wr => ∃ (i : Nat) (nw sc : Int) (m : Nat) (hd : Bool) (L : List Ent), N = .int .i64 nw ∧ C = .int .i64 sc ∧ M = .int .u64 (m : Int) ∧ D = .bool hd ∧ I = .int .i64 i ∧ i ≤ n ∧ i ≤ 40 ∧ 40 - i ≤ gg ∧ 0 ≤ nw ∧ nw ≤ 7 * i ∧ Hid (Bnd w g p 64 (1 + l) L wr ∧ wr.heap[w.heap.size]? = some (.cells #[.int .i64 kd, .int .i64 vid, .int .i64 a.op, .int .u64 (a.smac : Int), .int .u32 (a.sip : Int), .int .u64 (a.tmac : Int), .int .u32 (a.tip : Int), .int .u32 (ip : Int), .int .i64 onow] 39 (0, 0)) ∧ L.length ≤ i ∧ Ans (1 + l) nw sc m hd vid a.tip L))
  case atStart => exact ⟨0, 0, 0, 0, false, [], rfl, rfl, rfl, rfl, rfl, Nat.zero_le _, Nat.zero_le _, Nat.le_refl _, Int.le_refl _, Int.le_refl _, hide ⟨unhide H1, unhide R1, Nat.zero_le _, ans_start _ _ _⟩⟩
  case round =>
    obtain ⟨i, nw, sc, m, hd, L, rfl, rfl, rfl, rfl, rfl, hin, hi40, hgg, h0, h7, HI⟩ := hrel
    generalize wr = wo at *
    clear H1 R1
    by_cases hlt : i < n
    · by_cases hl4 : i < 40
      · obtain ⟨hB, hR, hL, hA⟩ := unhide HI
        obtain ⟨sb, so, rfl, hsb, hS⟩ := (unhide HA).resolve_left (by omega)
        obtain ⟨hc, hok⟩ := hS i hlt
        obtain ⟨⟨kd2, v, ⟨op, sm, si, tm, ti⟩, ip2, nw2⟩, hq⟩ : ∃ q, S i = q := ⟨_, rfl⟩
        rw [hq] at hc hok
        have hbw := hB.has.1
        have c0 := (hbw.cell (p := ⟨sb, _, none⟩) hsb).trans (hc 0 (.int .i64 kd2) rfl)
        have c1 := (hbw.cell (p := ⟨sb, _, none⟩) hsb).trans (hc 1 (.int .i64 v) rfl)
        have c2 := (hbw.cell (p := ⟨sb, _, none⟩) hsb).trans (hc 2 (.int .i64 op) rfl)
        have c3 := (hbw.cell (p := ⟨sb, _, none⟩) hsb).trans (hc 3 (.int .u64 (sm : Int)) rfl)
        have c4 := (hbw.cell (p := ⟨sb, _, none⟩) hsb).trans (hc 4 (.int .u32 (si : Int)) rfl)
        have c5 := (hbw.cell (p := ⟨sb, _, none⟩) hsb).trans (hc 5 (.int .u64 (tm : Int)) rfl)
        have c6 := (hbw.cell (p := ⟨sb, _, none⟩) hsb).trans (hc 6 (.int .u32 (ti : Int)) rfl)
        have c7 := (hbw.cell (p := ⟨sb, _, none⟩) hsb).trans (hc 7 (.int .u32 (ip2 : Int)) rfl)
        have c8 := (hbw.cell (p := ⟨sb, _, none⟩) hsb).trans (hc 8 (.int .i64 nw2) rfl)
        rw [Nat.add_zero] at c0
        have hf : (Ar.mk op sm si tm ti).fits := hok.1
        clear hc hok hq hbw hS
        have hm7 := i64_and7 nw2
        obtain ⟨y, hy⟩ : ∃ y, nw2 % 8 = y := ⟨_, rfl⟩
        have y0 : 0 ≤ y := by omega
        have y7 : y ≤ 7 := by omega
        rw [hy] at hm7
        clear hy
        have hic : i < cap := by omega
        have hicI : (i : Int) < (n : Int) := by omega
        obtain ⟨AN, hlen⟩ := ans_next (now' := nw + y) (v := v) (a := ⟨op, sm, si, tm, ti⟩) hA (Bnd.srt hB) hB.nf (by omega) h0 (by omega) (unhide HF).2.2.2.2 hf
        have bx := alloc_below wo (.cells #[.int .i64 kd2, .int .i64 v, .int .i64 op, .int .u64 (sm : Int), .int .u32 (si : Int), .int .u64 (tm : Int), .int .u32 (ti : Int), .int .u32 (ip2 : Int), .int .i64 nw2] 39)
        have C1 : Hid (Calls Tryd.prog 8 #[.pointer (some ⟨g, 0, none⟩), .int .i64 v, .agg #[.int .i64 op, .int .u64 (sm : Int), .int .u32 (si : Int), .int .u64 (tm : Int), .int .u32 (ti : Int)], .int .i64 (nw + y)] (wo.alloc (.cells #[.int .i64 kd2, .int .i64 v, .int .i64 op, .int .u64 (sm : Int), .int .u32 (si : Int), .int .u64 (tm : Int), .int .u32 (ti : Int), .int .u32 (ip2 : Int), .int .i64 nw2] 39)) fun e W' => e = .returned (.bool (noteB v ⟨op, sm, si, tm, ti⟩ (nw + y))) ∧ Bnd w g p 64 (1 + l) (noteL 64 (1 + l) L v ⟨op, sm, si, tm, ti⟩ (nw + y)) W' ∧ Stays (wo.alloc (.cells #[.int .i64 kd2, .int .i64 v, .int .i64 op, .int .u64 (sm : Int), .int .u32 (si : Int), .int .u64 (tm : Int), .int .u32 (ti : Int), .int .u32 (ip2 : Int), .int .i64 nw2] 39)) W') :=
          bnote_any v (nw + y) ⟨op, sm, si, tm, ti⟩ (hB.below bx) (Bnd.srt hB) (by omega) hf
        have RX := hide (heap_alloc_new wo (.cells #[.int .i64 kd2, .int .i64 v, .int .i64 op, .int .u64 (sm : Int), .int .u32 (si : Int), .int .u64 (tm : Int), .int .u32 (ti : Int), .int .u32 (ip2 : Int), .int .i64 nw2] 39))
        have RO := hide (Below.row bx hR)
        obtain ⟨x0, x1, x2, x3, x4, x5, x6, x7, x8, -⟩ := cells9 (unhide RX)
        have AN2 := hide AN
        have HL := hide (Nat.le_trans hlen (Nat.succ_le_succ hL))
        clear hA hB hR hL AN hlen bx HI hf
        go_wp2_with fail
        generalize (wo.alloc (.cells #[.int .i64 kd2, .int .i64 v, .int .i64 op, .int .u64 (sm : Int), .int .u32 (si : Int), .int .u64 (tm : Int), .int .u32 (ti : Int), .int .u32 (ip2 : Int), .int .i64 nw2] 39)) = W2 at *
        generalize wo.heap.size = X at *
        clear c0 c1 c2 c3 c4 c5 c6 c7 c8
        refine (unhide C1).mono ?_
        rintro e w3 ⟨rfl, h3, s3⟩
        obtain ⟨-, z1, -, z3, z4, -⟩ := cells9 (s3 _ _ rfl (unhide RX))
        have RO3 := hide (s3 _ _ rfl (unhide RO))
        obtain ⟨-, q1, -, -, -, -, q6, -⟩ := cells9 (unhide RO3)
        have H3 := hide h3
        clear h3 s3 C1 RX RO x0 x1 x2 x3 x4 x5 x6 x7 x8
        have AN3 := unhide AN2
        unfold hitB at AN3
        generalize noteL 64 (1 + l) L v ⟨op, sm, si, tm, ti⟩ (nw + y) = L3 at *
        simp only at AN3
        clear AN2
        cases hnb : noteB v ⟨op, sm, si, tm, ti⟩ (nw + y) with
        | false =>
          rw [hnb] at AN3
          simp only [Bool.false_and, Bool.false_eq_true, if_false, Bool.or_false] at AN3
          have FI := hide (And.intro (unhide H3) (And.intro (unhide RO3) (And.intro (unhide HL) AN3)))
          clear AN3 hnb
          go_wp2_with fail
          go_roundg (40 - (i + 1))
          case measure => omega
          case rel => exact ⟨i + 1, nw + y, sc, m, hd, L3, rfl, rfl, rfl, rfl, by go_num, by omega, by omega, by omega, by omega, by omega, FI⟩
        | true =>
          rw [hnb] at AN3
          clear hnb
          by_cases hv : v = vid
          · have ev : (v == vid) = true := by simpa using hv
            rw [ev] at AN3
            by_cases hs : si = a.tip
            · have es : ((si : Int) == (a.tip : Int)) = true := by rw [beq_iff_eq]; omega
              have es2 : (si == a.tip) = true := by simpa using hs
              rw [es2] at AN3
              simp only [Bool.true_and, if_true, Bool.or_true] at AN3
              have FI := hide (And.intro (unhide H3) (And.intro (unhide RO3) (And.intro (unhide HL) AN3)))
              clear AN3 hv hs es2
              go_wp2_with fail
              go_roundg (40 - (i + 1))
              case measure => omega
              case rel => exact ⟨i + 1, nw + y, nw + y, sm, true, L3, rfl, rfl, rfl, rfl, by go_num, by omega, by omega, by omega, by omega, by omega, FI⟩
            · have es : ((si : Int) == (a.tip : Int)) = false := by rw [beq_eq_false_iff_ne]; omega
              have es2 : (si == a.tip) = false := by simpa using hs
              rw [es2] at AN3
              simp only [Bool.true_and, Bool.false_eq_true, if_false, Bool.or_false] at AN3
              have FI := hide (And.intro (unhide H3) (And.intro (unhide RO3) (And.intro (unhide HL) AN3)))
              clear AN3 hv hs es2
              go_wp2_with fail
              go_roundg (40 - (i + 1))
              case measure => omega
              case rel => exact ⟨i + 1, nw + y, sc, m, hd, L3, rfl, rfl, rfl, rfl, by go_num, by omega, by omega, by omega, by omega, by omega, FI⟩
          · have ev : (v == vid) = false := by simpa using hv
            rw [ev] at AN3
            simp only [Bool.true_and, Bool.false_and, Bool.false_eq_true, if_false, Bool.or_false] at AN3
            have FI := hide (And.intro (unhide H3) (And.intro (unhide RO3) (And.intro (unhide HL) AN3)))
            clear AN3 hv
            go_wp2_with fail
            go_roundg (40 - (i + 1))
            case measure => omega
            case rel => exact ⟨i + 1, nw + y, sc, m, hd, L3, rfl, rfl, rfl, rfl, by go_num, by omega, by omega, by omega, by omega, by omega, FI⟩
      · obtain ⟨hB, hR, hL, hA⟩ := unhide HI
        have H1x := trivial
        have hm15 := i64_and15 onow
        obtain ⟨y, hy⟩ : ∃ y, onow % 16 = y := ⟨_, rfl⟩
        have y0 : 0 ≤ y := by omega
        have y15 : y ≤ 15 := by omega
        rw [hy] at hm15
        clear hy
        obtain ⟨q0, q1, q2, q3, q4, q5, q6, q7, q8, -⟩ := cells9 hR
        have RK := reply_known (t := nw + y) hA (by omega) (by omega)
        have hca := known_cases a hd (nw + y - sc < 1 + l) (0 ≤ sc ∧ sc ≤ nw) (fun h => (hA.own h).2.2)
        by_cases hk : mayB a = true ∧ hd = true ∧ nw + y - sc < 1 + l
        · obtain ⟨hm, rfl, hlt2⟩ := hk
          obtain ⟨hx1, hx2, hx3, hx4⟩ := may_spec hm
          have ho := hA.own rfl
          obtain ⟨hs1, hs2⟩ := ho.2.2
          have CR0 := breply_any vid (nw + y) a hB (unhide HF)
          rw [RK, if_pos ⟨hm, rfl, hlt2⟩] at CR0
          have CR : Hid (Calls Tryd.prog 9 #[.pointer (some ⟨g, 0, none⟩), .int .i64 vid, .agg #[.int .i64 a.op, .int .u64 (a.smac : Int), .int .u32 (a.sip : Int), .int .u64 (a.tmac : Int), .int .u32 (a.tip : Int)], .int .i64 (nw + y)] wo fun e W' => e = .returned (.tuple #[.agg #[.int .u64 (a.smac : Int), .int .u64 (m : Int), .bool false, .int .i64 0, .bool false, .int .i64 0, .int .i64 2054, .string (bs (tellAr a m).bytes)], .bool true]) ∧ Below wo.heap.size wo W') := CR0
          have CK2 : Hid (∀ W, Calls Tryd.prog 10 #[.agg #[.int .i64 a.op, .int .u64 (a.smac : Int), .int .u32 (a.sip : Int), .int .u64 (a.tmac : Int), .int .u32 (a.tip : Int)]] W fun e w' => e = .returned (.int .i64 0) ∧ Below W.heap.size W w') := by
            rw [← hx2]
            exact CK
          have OF : Hid (∀ W, Calls Tryd.prog 11 #[.agg #[.int .u64 (a.smac : Int), .int .u64 (m : Int), .bool false, .int .i64 0, .bool false, .int .i64 0, .int .i64 2054, .string (bs (tellAr a m).bytes)]] W fun e W' => e = .returned (.tuple #[.agg #[.int .i64 2, .int .u64 (m : Int), .int .u32 (a.tip : Int), .int .u64 (a.smac : Int), .int .u32 (a.sip : Int)], .bool true]) ∧ Below W.heap.size W W') := fun W => by
            have h := of_any (arpFr a.smac (tellAr a m)) W (by rw [arpFr_len]; omega)
            rw [of_arpFr a.smac (tellAr a m) (arp_check_of (by unfold tellAr; simp) (by unfold tellAr; simp) ho.1 (own_lt (arp_check_spec hx2).2.2.1)) (unhide HF).2.2.2.2 (unhide HF).2.2.1] at h
            exact h
          have HB := hide hB.has.1
          have HR := hide hR
          clear hB hR hA RK CR0 HI CK ho hm H1x
          generalize bs (tellAr a m).bytes = R at *
          go_wp2_with fail
          refine (unhide CR).mono ?_
          rintro e w3 ⟨rfl, b3⟩
          have b4 := alloc_then (o := .cells #[.int .u64 (a.smac : Int), .int .u64 (m : Int), .bool false, .int .i64 0, .bool false, .int .i64 0, .int .i64 2054, .string R] 44) b3
          have RF := hide (heap_alloc_new w3 (.cells #[.int .u64 (a.smac : Int), .int .u64 (m : Int), .bool false, .int .i64 0, .bool false, .int .i64 0, .int .i64 2054, .string R] 44))
          have RO := hide (Below.row b4 (unhide HR))
          have B4 := hide (bthen (unhide HB) b4)
          obtain ⟨q0', q1', q2', q3', q4', q5', q6', q7', q8', -⟩ := cells9 (unhide RO)
          clear b3 b4 q0 q1 q2 q3 q4 q5 q6 q7 q8 CR HR HB
          go_wp2_with fail
          refine (unhide CK2 _).mono ?_
          rintro e w5 ⟨rfl, b5⟩
          have B5 := hide (bthen (unhide B4) b5)
          have RO5 := hide (Below.row b5 (unhide RO))
          have RF5 := hide (Below.row b5 (unhide RF))
          obtain ⟨q0, q1, q2, q3, q4, q5, q6, q7, q8, -⟩ := cells9 (unhide RO5)
          obtain ⟨z0, z1, z2, z3, z4, z5, z6, z7, -⟩ := cells8 (unhide RF5)
          clear b5 RO RF B4 q0' q1' q2' q3' q4' q5' q6' q7' q8' CK2
          go_wp2_with fail
          refine (unhide OF _).mono ?_
          rintro e w6 ⟨rfl, b6⟩
          have b7 := alloc_then (o := .cells #[.int .i64 2, .int .u64 (m : Int), .int .u32 (a.tip : Int), .int .u64 (a.smac : Int), .int .u32 (a.sip : Int)] 37) b6
          have B7 := hide (bthen (unhide B5) b7)
          obtain ⟨s0, s1, s2, s3, s4, s5, s6, s7, s8, -⟩ := cells9 (Below.row b7 (unhide RO5))
          obtain ⟨u0, u1, u2, u3, u4, u5, u6, u7, -⟩ := cells8 (Below.row b7 (unhide RF5))
          obtain ⟨v0, v1, v2, v3, v4, -⟩ := cells5 (heap_alloc_new w6 (.cells #[.int .i64 2, .int .u64 (m : Int), .int .u32 (a.tip : Int), .int .u64 (a.smac : Int), .int .u32 (a.sip : Int)] 37))
          clear b6 b7 B5 RO5 RF5 OF q0 q1 q2 q3 q4 q5 q6 q7 q8 z0 z1 z2 z3 z4 z5 z6 z7
          go_wp2_with fail
          refine (unhide CF _).mono ?_
          rintro e w8 ⟨rfl, b8⟩
          have B8 := hide (bthen (unhide B7) b8)
          clear b8
          go_wp2_with fail
          go_ret
          exact ⟨rfl, unhide B8⟩
        · have hcases := hca.resolve_left hk
          clear hca
          have CR0 := breply_any vid (nw + y) a hB (unhide HF)
          rw [RK, if_neg hk] at CR0
          have CR : Hid (Calls Tryd.prog 9 #[.pointer (some ⟨g, 0, none⟩), .int .i64 vid, .agg #[.int .i64 a.op, .int .u64 (a.smac : Int), .int .u32 (a.sip : Int), .int .u64 (a.tmac : Int), .int .u32 (a.tip : Int)], .int .i64 (nw + y)] wo fun e W' => e = .returned (.tuple #[.agg #[.int .u64 0, .int .u64 0, .bool false, .int .i64 0, .bool false, .int .i64 0, .int .i64 0, .string ⟨#[]⟩], .bool false]) ∧ Below wo.heap.size wo W') := CR0
          have CK2 : Hid (∀ W, Calls Tryd.prog 10 #[.agg #[.int .i64 a.op, .int .u64 (a.smac : Int), .int .u32 (a.sip : Int), .int .u64 (a.tmac : Int), .int .u32 (a.tip : Int)]] W fun e w' => e = .returned (.int .i64 a.check) ∧ Below W.heap.size W w') := CK
          have zf := zero_frame
          have HB := hide hB.has.1
          have HR := hide hR
          clear hB hR hA RK CR0 HI CK H1x
          generalize a.check = ck at *
          rcases hcases with hx | ⟨hx1, hx⟩ | ⟨hx1, hx2, hx⟩ | ⟨hx1, hx2, hx3, hx⟩ | ⟨hx1, hx2, hx3, hx4, rfl⟩ | ⟨hx1, hx2, hx3, hx4, rfl, ⟨hs1, hs2⟩, hx⟩
          all_goals
            clear hk
            go_wp2_with fail
            refine (unhide CR).mono ?_
            rintro e w3 ⟨rfl, b3⟩
            have b4 := alloc_then (o := .cells #[.int .u64 0, .int .u64 0, .bool false, .int .i64 0, .bool false, .int .i64 0, .int .i64 0, .string ⟨#[]⟩] 44) b3
            have RF := hide (heap_alloc_new w3 (.cells #[.int .u64 0, .int .u64 0, .bool false, .int .i64 0, .bool false, .int .i64 0, .int .i64 0, .string ⟨#[]⟩] 44))
            have RO := hide (Below.row b4 (unhide HR))
            have B4 := hide (bthen (unhide HB) b4)
            obtain ⟨q0', q1', q2', q3', q4', q5', q6', q7', q8', -⟩ := cells9 (unhide RO)
            obtain ⟨z0, z1, z2, z3, z4, z5, z6, z7, -⟩ := cells8 (unhide RF)
            clear b3 b4 q0 q1 q2 q3 q4 q5 q6 q7 q8 CR HR HB
            go_wp2_with (first | (go_at_call 10; refine (unhide CK2 _).mono ?_; rintro e w5 ⟨rfl, b5⟩; have B5 := hide (bthen (unhide B4) b5); obtain ⟨q0, q1, q2, q3, q4, q5, q6, q7, q8, -⟩ := cells9 (Below.row b5 (unhide RO)); obtain ⟨y0', y1', y2', y3', y4', y5', y6', y7', -⟩ := cells8 (Below.row b5 (unhide RF)); clear b5) | (go_at_call 7; refine (unhide CF _).mono ?_; rintro e w6 ⟨rfl, b6⟩))
            go_ret
            first | exact ⟨rfl, bthen (unhide B5) b6⟩ | exact ⟨rfl, bthen (unhide B4) b6⟩
    · obtain ⟨hB, hR, hL, hA⟩ := unhide HI
      have H1x := trivial
      have hm15 := i64_and15 onow
      obtain ⟨y, hy⟩ : ∃ y, onow % 16 = y := ⟨_, rfl⟩
      have y0 : 0 ≤ y := by omega
      have y15 : y ≤ 15 := by omega
      rw [hy] at hm15
      clear hy
      obtain ⟨q0, q1, q2, q3, q4, q5, q6, q7, q8, -⟩ := cells9 hR
      have RK := reply_known (t := nw + y) hA (by omega) (by omega)
      have hca := known_cases a hd (nw + y - sc < 1 + l) (0 ≤ sc ∧ sc ≤ nw) (fun h => (hA.own h).2.2)
      by_cases hk : mayB a = true ∧ hd = true ∧ nw + y - sc < 1 + l
      · obtain ⟨hm, rfl, hlt2⟩ := hk
        obtain ⟨hx1, hx2, hx3, hx4⟩ := may_spec hm
        have ho := hA.own rfl
        obtain ⟨hs1, hs2⟩ := ho.2.2
        have CR0 := breply_any vid (nw + y) a hB (unhide HF)
        rw [RK, if_pos ⟨hm, rfl, hlt2⟩] at CR0
        have CR : Hid (Calls Tryd.prog 9 #[.pointer (some ⟨g, 0, none⟩), .int .i64 vid, .agg #[.int .i64 a.op, .int .u64 (a.smac : Int), .int .u32 (a.sip : Int), .int .u64 (a.tmac : Int), .int .u32 (a.tip : Int)], .int .i64 (nw + y)] wo fun e W' => e = .returned (.tuple #[.agg #[.int .u64 (a.smac : Int), .int .u64 (m : Int), .bool false, .int .i64 0, .bool false, .int .i64 0, .int .i64 2054, .string (bs (tellAr a m).bytes)], .bool true]) ∧ Below wo.heap.size wo W') := CR0
        have CK2 : Hid (∀ W, Calls Tryd.prog 10 #[.agg #[.int .i64 a.op, .int .u64 (a.smac : Int), .int .u32 (a.sip : Int), .int .u64 (a.tmac : Int), .int .u32 (a.tip : Int)]] W fun e w' => e = .returned (.int .i64 0) ∧ Below W.heap.size W w') := by
          rw [← hx2]
          exact CK
        have OF : Hid (∀ W, Calls Tryd.prog 11 #[.agg #[.int .u64 (a.smac : Int), .int .u64 (m : Int), .bool false, .int .i64 0, .bool false, .int .i64 0, .int .i64 2054, .string (bs (tellAr a m).bytes)]] W fun e W' => e = .returned (.tuple #[.agg #[.int .i64 2, .int .u64 (m : Int), .int .u32 (a.tip : Int), .int .u64 (a.smac : Int), .int .u32 (a.sip : Int)], .bool true]) ∧ Below W.heap.size W W') := fun W => by
          have h := of_any (arpFr a.smac (tellAr a m)) W (by rw [arpFr_len]; omega)
          rw [of_arpFr a.smac (tellAr a m) (arp_check_of (by unfold tellAr; simp) (by unfold tellAr; simp) ho.1 (own_lt (arp_check_spec hx2).2.2.1)) (unhide HF).2.2.2.2 (unhide HF).2.2.1] at h
          exact h
        have HB := hide hB.has.1
        have HR := hide hR
        clear hB hR hA RK CR0 HI CK ho hm H1x
        generalize bs (tellAr a m).bytes = R at *
        go_wp2_with fail
        refine (unhide CR).mono ?_
        rintro e w3 ⟨rfl, b3⟩
        have b4 := alloc_then (o := .cells #[.int .u64 (a.smac : Int), .int .u64 (m : Int), .bool false, .int .i64 0, .bool false, .int .i64 0, .int .i64 2054, .string R] 44) b3
        have RF := hide (heap_alloc_new w3 (.cells #[.int .u64 (a.smac : Int), .int .u64 (m : Int), .bool false, .int .i64 0, .bool false, .int .i64 0, .int .i64 2054, .string R] 44))
        have RO := hide (Below.row b4 (unhide HR))
        have B4 := hide (bthen (unhide HB) b4)
        obtain ⟨q0', q1', q2', q3', q4', q5', q6', q7', q8', -⟩ := cells9 (unhide RO)
        clear b3 b4 q0 q1 q2 q3 q4 q5 q6 q7 q8 CR HR HB
        go_wp2_with fail
        refine (unhide CK2 _).mono ?_
        rintro e w5 ⟨rfl, b5⟩
        have B5 := hide (bthen (unhide B4) b5)
        have RO5 := hide (Below.row b5 (unhide RO))
        have RF5 := hide (Below.row b5 (unhide RF))
        obtain ⟨q0, q1, q2, q3, q4, q5, q6, q7, q8, -⟩ := cells9 (unhide RO5)
        obtain ⟨z0, z1, z2, z3, z4, z5, z6, z7, -⟩ := cells8 (unhide RF5)
        clear b5 RO RF B4 q0' q1' q2' q3' q4' q5' q6' q7' q8' CK2
        go_wp2_with fail
        refine (unhide OF _).mono ?_
        rintro e w6 ⟨rfl, b6⟩
        have b7 := alloc_then (o := .cells #[.int .i64 2, .int .u64 (m : Int), .int .u32 (a.tip : Int), .int .u64 (a.smac : Int), .int .u32 (a.sip : Int)] 37) b6
        have B7 := hide (bthen (unhide B5) b7)
        obtain ⟨s0, s1, s2, s3, s4, s5, s6, s7, s8, -⟩ := cells9 (Below.row b7 (unhide RO5))
        obtain ⟨u0, u1, u2, u3, u4, u5, u6, u7, -⟩ := cells8 (Below.row b7 (unhide RF5))
        obtain ⟨v0, v1, v2, v3, v4, -⟩ := cells5 (heap_alloc_new w6 (.cells #[.int .i64 2, .int .u64 (m : Int), .int .u32 (a.tip : Int), .int .u64 (a.smac : Int), .int .u32 (a.sip : Int)] 37))
        clear b6 b7 B5 RO5 RF5 OF q0 q1 q2 q3 q4 q5 q6 q7 q8 z0 z1 z2 z3 z4 z5 z6 z7
        go_wp2_with fail
        refine (unhide CF _).mono ?_
        rintro e w8 ⟨rfl, b8⟩
        have B8 := hide (bthen (unhide B7) b8)
        clear b8
        go_wp2_with fail
        go_ret
        exact ⟨rfl, unhide B8⟩
      · have hcases := hca.resolve_left hk
        clear hca
        have CR0 := breply_any vid (nw + y) a hB (unhide HF)
        rw [RK, if_neg hk] at CR0
        have CR : Hid (Calls Tryd.prog 9 #[.pointer (some ⟨g, 0, none⟩), .int .i64 vid, .agg #[.int .i64 a.op, .int .u64 (a.smac : Int), .int .u32 (a.sip : Int), .int .u64 (a.tmac : Int), .int .u32 (a.tip : Int)], .int .i64 (nw + y)] wo fun e W' => e = .returned (.tuple #[.agg #[.int .u64 0, .int .u64 0, .bool false, .int .i64 0, .bool false, .int .i64 0, .int .i64 0, .string ⟨#[]⟩], .bool false]) ∧ Below wo.heap.size wo W') := CR0
        have CK2 : Hid (∀ W, Calls Tryd.prog 10 #[.agg #[.int .i64 a.op, .int .u64 (a.smac : Int), .int .u32 (a.sip : Int), .int .u64 (a.tmac : Int), .int .u32 (a.tip : Int)]] W fun e w' => e = .returned (.int .i64 a.check) ∧ Below W.heap.size W w') := CK
        have zf := zero_frame
        have HB := hide hB.has.1
        have HR := hide hR
        clear hB hR hA RK CR0 HI CK H1x
        generalize a.check = ck at *
        rcases hcases with hx | ⟨hx1, hx⟩ | ⟨hx1, hx2, hx⟩ | ⟨hx1, hx2, hx3, hx⟩ | ⟨hx1, hx2, hx3, hx4, rfl⟩ | ⟨hx1, hx2, hx3, hx4, rfl, ⟨hs1, hs2⟩, hx⟩
        all_goals
          clear hk
          go_wp2_with fail
          refine (unhide CR).mono ?_
          rintro e w3 ⟨rfl, b3⟩
          have b4 := alloc_then (o := .cells #[.int .u64 0, .int .u64 0, .bool false, .int .i64 0, .bool false, .int .i64 0, .int .i64 0, .string ⟨#[]⟩] 44) b3
          have RF := hide (heap_alloc_new w3 (.cells #[.int .u64 0, .int .u64 0, .bool false, .int .i64 0, .bool false, .int .i64 0, .int .i64 0, .string ⟨#[]⟩] 44))
          have RO := hide (Below.row b4 (unhide HR))
          have B4 := hide (bthen (unhide HB) b4)
          obtain ⟨q0', q1', q2', q3', q4', q5', q6', q7', q8', -⟩ := cells9 (unhide RO)
          obtain ⟨z0, z1, z2, z3, z4, z5, z6, z7, -⟩ := cells8 (unhide RF)
          clear b3 b4 q0 q1 q2 q3 q4 q5 q6 q7 q8 CR HR HB
          go_wp2_with (first | (go_at_call 10; refine (unhide CK2 _).mono ?_; rintro e w5 ⟨rfl, b5⟩; have B5 := hide (bthen (unhide B4) b5); obtain ⟨q0, q1, q2, q3, q4, q5, q6, q7, q8, -⟩ := cells9 (Below.row b5 (unhide RO)); obtain ⟨y0', y1', y2', y3', y4', y5', y6', y7', -⟩ := cells8 (Below.row b5 (unhide RF)); clear b5) | (go_at_call 7; refine (unhide CF _).mono ?_; rintro e w6 ⟨rfl, b6⟩))
          go_ret
          first | exact ⟨rfl, bthen (unhide B5) b6⟩ | exact ⟨rfl, bthen (unhide B4) b6⟩
end Go.Proofs.YtljhgehlaehgnaaDoor.bindingAnswers
