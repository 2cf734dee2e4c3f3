/-
  The contracts of gangwayref10's Put and Fix, whole.
-/
import Derived.Test.YtppfhbcfmekdoaaRef10f
namespace Go.Proofs.Ytppfhbcfmekdoaa
open Go.RowKit Go.Sort

theorem RTurned.seq {B g : Nat} {w w1 w2 : World} {room life : Int} {v v1 : Value} {L1 L2 : List Ent} (_ : RTab B w1 g room life v1 L1) (b1 : But2 g v.ownBlock w w1) (n1 : Nb w v.ownBlock v1.ownBlock) (h2 : RTurned B g room life v1 L2 w1 w2) : RTurned B g room life v L2 w w2 := by
  obtain ⟨v2, t2, b2, n2⟩ := h2
  exact ⟨v2, t2, b1.trans n1 b2, n1.trans b1.size n2⟩
/-- room made, and one more noted, or none -/
def Added (room : Int) (M : List Ent) (x : Ent) (c : Int) (M' : List Ent) : Prop := ∃ b M2, Spared room M b M2 ∧ ((b = true ∧ c = 0 ∧ M' = M2 ++ [x]) ∨ (b = false ∧ c = 101 ∧ M' = M2))
set_option maxHeartbeats 1000000 in
set_option maxRecDepth 100000 in
theorem rput_new (B : Nat) (M : List Ent) (v : Value) (g : Nat) (room life key val now : Int) (w : World) (T : RTab B w g room life v M) (h : timeB now = true) (hy : look M key = none) (hx : (Ent.mk key val now false).ok) :
    Calls Try.prog 30 #[.pointer (some ⟨g, 0, none⟩), .int .u64 key, .int .u64 val, .int .i64 now] w fun e w' => ∃ c M', e = .returned (.int .i64 c) ∧ Added room (expP life now M) ⟨key, val, now, false⟩ c M' ∧ RTurned B g room life v M' w w' := by
  have C := hide (fun W => rtime_any now W)
  rw [h] at C
  have P := hide (rplace_none B M v g room life key w T hy)
  have X := hide (rexpire_any B M v g room life now w T)
  have NK : Hid (∀ y ∈ expP life now M, y.key ≠ key) := by
    intro y hy2
    unfold expP at hy2
    rw [h] at hy2
    exact look_none_iff.1 hy y (List.mem_filter.1 hy2).1
  have HX := hide hx
  clear T h hy hx
  generalize expP life now M = M1 at *
  go_enter Try.func30, Try.ntmps30
  go_wp2_with fail
  refine (unhide C _).mono ?_
  rintro e w2 ⟨rfl, rfl⟩
  go_wp2_with fail
  refine (unhide P).mono ?_
  rintro e w3 ⟨rfl, rfl⟩
  go_wp2_with fail
  refine (unhide X).mono ?_
  rintro e w4 ⟨rfl, v4, T4, b4, n4⟩
  have S := hide (rspare_any B M1 v4 g room life w4 T4)
  have SEQ := hide (fun L2 W (h2 : RTurned B g room life v4 L2 w4 W) => RTurned.seq T4 b4 n4 h2)
  have FT := hide T4.fit
  clear T4 b4 n4 X
  go_wp2_with fail
  refine (unhide S).mono ?_
  rintro e w5 ⟨b, M2, rfl, hsp, v5, T5, b5, n5⟩
  have SEQ2 := hide (fun L2 W (h2 : RTurned B g room life v5 L2 w5 W) => unhide SEQ L2 W (RTurned.seq T5 b5 n5 h2))
  cases b with
  | false =>
    have AD := hide (show Added room M1 ⟨key, val, now, false⟩ 101 M2 from ⟨false, M2, hsp, .inr ⟨rfl, rfl, rfl⟩⟩)
    have FIN := hide (unhide SEQ2 _ _ (rturned_same T5 (Below.refl _ _)))
    clear hsp T5 b5 n5 S SEQ SEQ2
    go_wp2_with fail
    go_ret
    exact ⟨_, M2, rfl, unhide AD, unhide FIN⟩
  | true =>
    have AD := hide (show Added room M1 ⟨key, val, now, false⟩ 0 (M2 ++ [⟨key, val, now, false⟩]) from ⟨true, M2, hsp, .inl ⟨rfl, rfl, rfl⟩⟩)
    have hgl := T5.lt
    have hl := T5.len
    have hc := T5.cells.1
    have hu := uniq_add (x := ⟨key, val, now, false⟩) T5.uniq (fun y hy => unhide NK y (hsp.mem y hy))
    have hlt := hsp.len (unhide FT)
    have hbase := T5.base
    have FIN := hide (fun r n c W (hg : (w5.alloc (.cells #[.int .u64 key, .int .u64 val, .int .i64 now, .bool false] 41)).grownBy W v5.ownBlock) (ho : Tells B W (.slice (some ⟨r, 0, none⟩) n c) (M2 ++ [⟨key, val, now, false⟩])) (hn : Nb w5 v5.ownBlock (some r)) =>
      unhide SEQ2 _ _ (rturned_add T5 (alloc_below _ _) hg ho hn hu (unhide HX) hlt))
    have FR := hide (fun W (hg : (w5.alloc (.cells #[.int .u64 key, .int .u64 val, .int .i64 now, .bool false] 41)).grownBy W v5.ownBlock) => (cells3 ((hg.block g (Nat.lt_of_lt_of_le hgl (alloc_below w5 _).size) (fun e => T5.apart e.symm)).trans (Below.row (alloc_below w5 _) T5.row))))
    have OW := hide T5.own
    clear hsp T5 b5 n5 S SEQ SEQ2 hu hlt
    go_wp2_with (at_builtin; refine wp_add rfl (.tmp 50) (.tmp 55) rfl B w5 v5 M2.length M2 ⟨key, val, now, false⟩ rfl rfl (unhide OW) hbase rfl hl ?_; intro r6 c6 w6 h6; have f6 := unhide FR w6 (unhide h6).1; have HF6 := hide (unhide FIN r6 _ c6 w6 (unhide h6).1 (unhide h6).2.1 (unhide h6).2.2))
    go_ret
    exact ⟨_, rfl, _, unhide AD, unhide HF6⟩
set_option maxHeartbeats 1000000 in
set_option maxRecDepth 100000 in
theorem rfix_new (B : Nat) (M : List Ent) (v : Value) (g : Nat) (room life key val : Int) (w : World) (T : RTab B w g room life v M) (hy : look M key = none) (hx : (Ent.mk key val 0 true).ok) :
    Calls Try.prog 31 #[.pointer (some ⟨g, 0, none⟩), .int .u64 key, .int .u64 val] w fun e w' => ∃ c M', e = .returned (.int .i64 c) ∧ Added room M ⟨key, val, 0, true⟩ c M' ∧ RTurned B g room life v M' w w' := by
  have P := hide (rplace_none B M v g room life key w T hy)
  have S := hide (rspare_any B M v g room life w T)
  have HX := hide hx
  have NK := hide (fun y (hy2 : y ∈ M) => look_none_iff.1 hy y hy2)
  have FT := hide T.fit
  clear T hy hx
  go_enter Try.func31, Try.ntmps31
  go_wp2_with fail
  refine (unhide P).mono ?_
  rintro e w3 ⟨rfl, rfl⟩
  go_wp2_with fail
  refine (unhide S).mono ?_
  rintro e w5 ⟨b, M2, rfl, hsp, v5, T5, b5, n5⟩
  have SEQ2 := hide (fun L2 W (h2 : RTurned B g room life v5 L2 w5 W) => RTurned.seq T5 b5 n5 h2)
  cases b with
  | false =>
    have AD := hide (show Added room M ⟨key, val, 0, true⟩ 101 M2 from ⟨false, M2, hsp, .inr ⟨rfl, rfl, rfl⟩⟩)
    have FIN := hide (unhide SEQ2 _ _ (rturned_same T5 (Below.refl _ _)))
    clear hsp T5 b5 n5 S SEQ2
    go_wp2_with fail
    go_ret
    exact ⟨_, M2, rfl, unhide AD, unhide FIN⟩
  | true =>
    have AD := hide (show Added room M ⟨key, val, 0, true⟩ 0 (M2 ++ [⟨key, val, 0, true⟩]) from ⟨true, M2, hsp, .inl ⟨rfl, rfl, rfl⟩⟩)
    have hgl := T5.lt
    have hl := T5.len
    have hc := T5.cells.1
    have hu := uniq_add (x := ⟨key, val, 0, true⟩) T5.uniq (fun y hy => unhide NK y (hsp.mem y hy))
    have hlt := hsp.len (unhide FT)
    have hbase := T5.base
    have FIN := hide (fun r n c W (hg : (w5.alloc (.cells #[.int .u64 key, .int .u64 val, .int .i64 0, .bool true] 41)).grownBy W v5.ownBlock) (ho : Tells B W (.slice (some ⟨r, 0, none⟩) n c) (M2 ++ [⟨key, val, 0, true⟩])) (hn : Nb w5 v5.ownBlock (some r)) =>
      unhide SEQ2 _ _ (rturned_add T5 (alloc_below _ _) hg ho hn hu (unhide HX) hlt))
    have FR := hide (fun W (hg : (w5.alloc (.cells #[.int .u64 key, .int .u64 val, .int .i64 0, .bool true] 41)).grownBy W v5.ownBlock) => (cells3 ((hg.block g (Nat.lt_of_lt_of_le hgl (alloc_below w5 _).size) (fun e => T5.apart e.symm)).trans (Below.row (alloc_below w5 _) T5.row))))
    have OW := hide T5.own
    clear hsp T5 b5 n5 S SEQ2 hu hlt
    go_wp2_with (at_builtin; refine wp_add rfl (.tmp 29) (.tmp 33) rfl B w5 v5 M2.length M2 ⟨key, val, 0, true⟩ rfl rfl (unhide OW) hbase rfl hl ?_; intro r6 c6 w6 h6; have f6 := unhide FR w6 (unhide h6).1; have HF6 := hide (unhide FIN r6 _ c6 w6 (unhide h6).1 (unhide h6).2.1 (unhide h6).2.2))
    go_ret
    exact ⟨_, rfl, _, unhide AD, unhide HF6⟩
set_option maxHeartbeats 1000000 in
set_option maxRecDepth 100000 in
theorem rfix_old (B : Nat) (A D : List Ent) (y : Ent) (v : Value) (g : Nat) (room life key val : Int) (w : World) (T : RTab B w g room life v (A ++ y :: D)) (hk : y.key = key) (hx : (Ent.mk key val 0 true).ok) :
    Calls Try.prog 31 #[.pointer (some ⟨g, 0, none⟩), .int .u64 key, .int .u64 val] w fun e w' => e = .returned (.int .i64 0) ∧ RTurned B g room life v (A ++ ⟨key, val, 0, true⟩ :: D) w w' := by
  have hA : ∀ x ∈ A, x.key ≠ key := fun x hx => by rw [← hk]; exact (List.pairwise_append.1 T.uniq).2.2 x hx y (by simp)
  have P := hide (rplace_some B A D y v g room life key w T hk hA)
  rcases T.own.parts with ⟨_, h⟩ | ⟨r, cap, R, rfl, hB, hr, hcap, hm, hR⟩
  · simp at h
  have hc := T.cells.1
  have hgl := T.lt
  have hl := T.len
  obtain ⟨e0, e1, e2, e3, z0, z1, z2, z3⟩ := erow_cells hr
  have hrl := lt_of_row hr
  have hlt : A.length < (A ++ y :: D).length := by simp
  have hge : ¬ (A.length : Int) < 0 := by omega
  have hge2 : decide ((0 : Int) ≤ (A.length : Int)) = true := decide_eq_true (by omega)
  have hgr : g ≠ r := fun e => T.apart (by rw [e]; rfl)
  have hlen : (A ++ (Ent.mk key val 0 true) :: D).length = (A ++ y :: D).length := by simp
  have fin := hide (rturned_row (L' := A ++ ⟨key, val, 0, true⟩ :: D) T (Below.refl _ _) (put4_grown w r (A.length * 4) (.int .u64 key) (.int .u64 val) (.int .i64 0) (.bool true))
    (by rw [← hlen]; exact tells_of hB (erow_put (x := ⟨key, val, 0, true⟩) hr) (by rw [hlen]; exact hcap) hm (by rw [hlen]; exact hR))
    (uniq_put T.uniq hk) (oks_put T.oks hx) (by rw [hlen]; exact T.fit))
  clear T hA hk hr hlen hx hR
  generalize (A ++ y :: D).length = n at *
  generalize A.length = i at *
  go_enter Try.func31, Try.ntmps31
  go_wp2_with fail
  refine (unhide P).mono ?_
  rintro e w3 ⟨rfl, rfl⟩
  go_wp2_with fail
  go_ret
  exact ⟨rfl, unhide fin⟩
theorem added_noted {room : Int} {L M M' : List Ent} {x : Ent} {c : Int} (hs : Srt L) (hp : L.Perm M) (hn : look L x.key = none) (h : Added room M x c M') : c = errFull (noted room L x) ∧ ((noted room L x).getD L).Perm M' := by
  obtain ⟨b, M2, hsp, h⟩ := h
  rcases noted_spared hs hp hn hsp with ⟨rfl, h1, h2⟩ | ⟨rfl, h1, h2⟩
  · rcases h with ⟨_, rfl, rfl⟩ | ⟨h, _⟩
    · exact ⟨h1.symm, h2⟩
    · cases h
  · rcases h with ⟨h, _⟩ | ⟨_, rfl, rfl⟩
    · cases h
    · exact ⟨h1.symm, h2⟩
theorem rput_any (B : Nat) (L M : List Ent) (v : Value) (g : Nat) (room life key val now : Int) (w : World) (T : RTab B w g room life v M) (hs : Srt L) (hp : L.Perm M) (hk : 0 ≤ key ∧ key < 18446744073709551616) (hv : 0 ≤ val ∧ val < 18446744073709551616) :
    Calls Try.prog 30 #[.pointer (some ⟨g, 0, none⟩), .int .u64 key, .int .u64 val, .int .i64 now] w fun e w' => ∃ M', e = .returned (.int .i64 (putP room life L ⟨key, val, now, false⟩).1) ∧ (putP room life L ⟨key, val, now, false⟩).2.Perm M' ∧ RTurned B g room life v M' w w' := by
  unfold putP
  simp only
  cases h : timeB now with
  | false => exact (rput_no B M v g room life key val now w T h).mono fun e w' ⟨h1, h2⟩ => ⟨M, h1, hp, h2⟩
  | true =>
    have hx : (Ent.mk key val now false).ok := by
      simp [timeB] at h
      exact ⟨hk.1, hk.2, hv.1, hv.2, h.1, h.2, fun e => by cases e⟩
    have hl := perm_look hs hp key
    cases hy : look L key with
    | some y =>
      rw [hy] at hl
      obtain ⟨A, D, rfl, hyk, _, _⟩ := mlook_some T.uniq hl
      simp only [if_true]
      cases hf : y.fix with
      | true => exact (rput_fixed B A D y v g room life key val now w T h hyk hf).mono fun e w' ⟨h1, h2⟩ => ⟨_, h1, hp, h2⟩
      | false => exact (rput_old B A D y v g room life key val now w T h hyk hf hx).mono fun e w' ⟨h1, h2⟩ => ⟨_, h1, perm_ins_old hs hp hyk, h2⟩
    | none =>
      rw [hy] at hl
      refine (rput_new B M v g room life key val now w T h hl hx).mono fun e w' ⟨c, M', h1, h2, h3⟩ => ?_
      have hpe := perm_exp hp life now
      have he : expP life now L = kept (oldE life now) L := by unfold expP; rw [h]; rfl
      rw [he] at hpe
      have hn : look (kept (oldE life now) L) key = none := by
        rw [look_none_iff] at hy ⊢
        exact fun y hy2 => hy y (List.mem_filter.1 hy2).1
      obtain ⟨h4, h5⟩ := added_noted (x := ⟨key, val, now, false⟩) (hs.filter _) hpe hn h2
      exact ⟨M', by rw [h1, h4]; rfl, h5, h3⟩
theorem rfix_any (B : Nat) (L M : List Ent) (v : Value) (g : Nat) (room life key val : Int) (w : World) (T : RTab B w g room life v M) (hs : Srt L) (hp : L.Perm M) (hk : 0 ≤ key ∧ key < 18446744073709551616) (hv : 0 ≤ val ∧ val < 18446744073709551616) :
    Calls Try.prog 31 #[.pointer (some ⟨g, 0, none⟩), .int .u64 key, .int .u64 val] w fun e w' => ∃ M', e = .returned (.int .i64 (fixP room L ⟨key, val, 0, true⟩).1) ∧ (fixP room L ⟨key, val, 0, true⟩).2.Perm M' ∧ RTurned B g room life v M' w w' := by
  have hx : (Ent.mk key val 0 true).ok := ⟨hk.1, hk.2, hv.1, hv.2, by simp, by simp, fun _ => rfl⟩
  have hl := perm_look hs hp key
  unfold fixP
  simp only
  cases hy : look L key with
  | some y =>
    rw [hy] at hl
    obtain ⟨A, D, rfl, hyk, _, _⟩ := mlook_some T.uniq hl
    refine (rfix_old B A D y v g room life key val w T hyk hx).mono fun e w' ⟨h1, h2⟩ => ⟨_, ?_, ?_, h2⟩
    · rw [h1]; simp [noted, hy, errFull]
    · simpa [noted, hy] using perm_ins_old hs hp hyk
  | none =>
    rw [hy] at hl
    refine (rfix_new B M v g room life key val w T hl hx).mono fun e w' ⟨c, M', h1, h2, h3⟩ => ?_
    obtain ⟨h4, h5⟩ := added_noted hs hp hy h2
    exact ⟨M', by rw [h1, h4], h5, h3⟩
end Go.Proofs.Ytppfhbcfmekdoaa
