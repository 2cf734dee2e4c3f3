/-
  Two tables side by side: the program's, and the document's; what a call on either keeps of the other one. The contract of gangwaylaw10.same.
-/
import Derived.Test.YtppfhbcfmekdoaaRef10h
import Derived.Test.YtppfhbcfmekdoaaSome10
namespace Go.Proofs.Ytppfhbcfmekdoaa
open Go.RowKit Go.Sort

/-- whatever holds no entries, and is no table of the document's, stays -/
def StaysR (W W' : World) : Prop := ∀ (k : Nat) (c : Array Value) (t : TypeId) (fr : Nat × Nat), t ≠ 41 → t ≠ 76 → W.heap[k]? = some (.cells c t fr) → W'.heap[k]? = some (.cells c t fr)
/-- whatever is no table, nor a table's, stays -/
def StaysB (W W' : World) : Prop := ∀ (k : Nat) (c : Array Value) (t : TypeId) (fr : Nat × Nat), t ≠ 73 → t ≠ 63 → t ≠ 41 → t ≠ 76 → W.heap[k]? = some (.cells c t fr) → W'.heap[k]? = some (.cells c t fr)
theorem StaysB.refl (W : World) : StaysB W W := fun _ _ _ _ _ _ _ _ h => h
theorem StaysB.of {W W' : World} (b : Below W.heap.size W W') : StaysB W W' := fun _ _ _ _ _ _ _ _ h => Below.row b h
theorem StaysB.trans {a b c : World} (h : StaysB a b) (k : StaysB b c) : StaysB a c := fun i d t fr h1 h2 h3 h4 h5 => k i d t fr h1 h2 h3 h4 (h i d t fr h1 h2 h3 h4 h5)
theorem Stays.both {W W' : World} (h : Stays W W') : StaysB W W' := fun i d t fr h1 h2 _ _ h5 => h i d t fr h1 h2 h5
theorem StaysR.both {W W' : World} (h : StaysR W W') : StaysB W W' := fun i d t fr _ _ h3 h4 h5 => h i d t fr h3 h4 h5
theorem owns_keep {B : Nat} {t : TypeId} {s n : Nat} {V : Value} {xs : List Value} {W W' : World} (h : W.ownsRow B t s V n xs) (st : ∀ (k : Nat) (c : Array Value), W.heap[k]? = some (Obj.cells c t (0, 0)) → W'.heap[k]? = some (Obj.cells c t (0, 0))) : W'.ownsRow B t s V n xs := by
  obtain ⟨hl, hx | ⟨k, cap, cur, rfl, a1, a2, a3, a4, a5, a6⟩⟩ := h
  · exact ⟨hl, .inl hx⟩
  · exact ⟨hl, .inr ⟨k, cap, cur, rfl, a1, st _ _ a2, a3, a4, a5, a6⟩⟩
theorem HasR.stays {w W W' : World} {g : Nat} {room life : Int} {M : List Ent} (h : HasR w g room life M W) (st : Stays W W') (b : Below w.heap.size w W') : HasR w g room life M W' := by
  obtain ⟨_, v, T⟩ := h
  exact ⟨b, v, ⟨st _ _ _ _ (by decide) (by decide) T.row, owns_keep T.own (fun k c => st k c _ _ (by decide) (by decide)), T.low, T.apart, T.uniq, T.oks, T.fit, T.room1, T.room2, T.life1, T.life2⟩⟩
theorem Has.staysR {w W W' : World} {g : Nat} {room life : Int} {L : List Ent} (h : Has w g room life L W) (st : StaysR W W') (b : Below w.heap.size w W') : Has w g room life L W' := by
  obtain ⟨_, v, T⟩ := h
  exact ⟨b, v, ⟨st _ _ _ _ (by decide) (by decide) T.row, owns_keep T.own (fun k c => st k c _ _ (by decide) (by decide)), T.low, T.apart, T.srt, T.oks, T.fit, T.room1, T.room2, T.life1, T.life2⟩⟩
theorem RTab.ownRow {B : Nat} {w : World} {g : Nat} {room life : Int} {v : Value} {L : List Ent} (h : RTab B w g room life v L) {k : Nat} (hk : v.ownBlock = some k) : ∃ c, w.heap[k]? = some (.cells c 41 (0, 0)) := by
  obtain ⟨_, ⟨rfl, _⟩ | ⟨r, cap, cur, rfl, _, hr, _⟩⟩ := h.own
  · cases hk
  · have e : some r = some k := hk
    obtain rfl := Option.some.inj e
    exact ⟨cur, hr⟩
theorem RTurned.stays {B : Nat} {w w' : World} {g : Nat} {room life : Int} {v : Value} {L L' : List Ent} (T : RTab B w g room life v L) (t : RTurned B g room life v L' w w') : StaysR w w' := by
  obtain ⟨v', _, b, _⟩ := t
  intro k c ty fr h1 h2 hk
  refine b.row ?_ ?_ hk
  · rintro rfl
    have := T.row
    rw [hk] at this
    simp at this
    exact h2 this.2.1
  · intro e
    obtain ⟨d, hd⟩ := T.ownRow e.symm
    rw [hk] at hd
    simp at hd
    exact h1 hd.2.1
theorem HasR.turned {w W W' : World} {g : Nat} {room life : Int} {v : Value} {L L' : List Ent} (h : Below w.heap.size w W) (T : RTab w.heap.size W g room life v L) (t : RTurned w.heap.size g room life v L' W W') : HasR w g room life L' W' ∧ StaysR W W' := by
  refine ⟨?_, t.stays T⟩
  obtain ⟨v', T', b, _⟩ := t
  exact ⟨h.trans (b.below T.low (fun k hk => (T.vlt k hk).1) h.size), v', T'⟩
theorem hasR_put {w W : World} {g : Nat} {room life : Int} {L M : List Ent} (key val now : Int) (h : HasR w g room life M W) (hs : Srt L) (hp : L.Perm M) (hk : 0 ≤ key ∧ key < 18446744073709551616) (hv : 0 ≤ val ∧ val < 18446744073709551616) :
    Calls Try.prog 30 #[.pointer (some ⟨g, 0, none⟩), .int .u64 key, .int .u64 val, .int .i64 now] W fun e W' => ∃ M', e = .returned (.int .i64 (putP room life L ⟨key, val, now, false⟩).1) ∧ (putP room life L ⟨key, val, now, false⟩).2.Perm M' ∧ HasR w g room life M' W' ∧ StaysR W W' := by
  obtain ⟨b, v, T⟩ := h
  exact (rput_any _ L M v g room life key val now W T hs hp hk hv).mono fun e W' ⟨M', h1, h2, h3⟩ => ⟨M', h1, h2, HasR.turned b T h3⟩
theorem hasR_fix {w W : World} {g : Nat} {room life : Int} {L M : List Ent} (key val : Int) (h : HasR w g room life M W) (hs : Srt L) (hp : L.Perm M) (hk : 0 ≤ key ∧ key < 18446744073709551616) (hv : 0 ≤ val ∧ val < 18446744073709551616) :
    Calls Try.prog 31 #[.pointer (some ⟨g, 0, none⟩), .int .u64 key, .int .u64 val] W fun e W' => ∃ M', e = .returned (.int .i64 (fixP room L ⟨key, val, 0, true⟩).1) ∧ (fixP room L ⟨key, val, 0, true⟩).2.Perm M' ∧ HasR w g room life M' W' ∧ StaysR W W' := by
  obtain ⟨b, v, T⟩ := h
  exact (rfix_any _ L M v g room life key val W T hs hp hk hv).mono fun e W' ⟨M', h1, h2, h3⟩ => ⟨M', h1, h2, HasR.turned b T h3⟩
theorem hasR_get {w W : World} {g : Nat} {room life : Int} {L M : List Ent} (key now : Int) (h : HasR w g room life M W) (hs : Srt L) (hp : L.Perm M) :
    Calls Try.prog 32 #[.pointer (some ⟨g, 0, none⟩), .int .u64 key, .int .i64 now] W fun e W' => e = .returned (entO (told life now (look L key))) ∧ Below W.heap.size W W' := by
  obtain ⟨b, v, T⟩ := h
  exact rget_any _ L M v g room life key now W T hs hp
theorem hasR_drop {w W : World} {g : Nat} {room life : Int} {L M : List Ent} (key : Int) (h : HasR w g room life M W) (hs : Srt L) (hp : L.Perm M) :
    Calls Try.prog 33 #[.pointer (some ⟨g, 0, none⟩), .int .u64 key] W fun e W' => ∃ M', e = .returned (.bool (look L key).isSome) ∧ (del L key).Perm M' ∧ HasR w g room life M' W' ∧ StaysR W W' := by
  obtain ⟨b, v, T⟩ := h
  exact (rdrop_any _ L M v g room life key W T hs hp).mono fun e W' ⟨M', h1, h2, h3⟩ => ⟨M', h1, h2, HasR.turned b T h3⟩
theorem hasR_clear {w W : World} {g : Nat} {room life : Int} {L M : List Ent} (val : Int) (h : HasR w g room life M W) (hp : L.Perm M) :
    Calls Try.prog 34 #[.pointer (some ⟨g, 0, none⟩), .int .u64 val] W fun e W' => ∃ M', e = .returned (.int .i64 ((L.length : Int) - ((kept (hasVal val) L).length : Int))) ∧ (kept (hasVal val) L).Perm M' ∧ HasR w g room life M' W' ∧ StaysR W W' := by
  obtain ⟨b, v, T⟩ := h
  have hk := perm_kept hp (hasVal val)
  exact (rclear_any _ M v g room life val _ W T (by rw [hp.length_eq, hk.length_eq])).mono fun e W' ⟨h1, h2⟩ => ⟨_, h1, hk, HasR.turned b T h2⟩
theorem hasR_expire {w W : World} {g : Nat} {room life : Int} {L M : List Ent} (now : Int) (h : HasR w g room life M W) (hp : L.Perm M) :
    Calls Try.prog 35 #[.pointer (some ⟨g, 0, none⟩), .int .i64 now] W fun e W' => ∃ M', e = .returned (.int .i64 ((L.length : Int) - ((expP life now L).length : Int))) ∧ (expP life now L).Perm M' ∧ HasR w g room life M' W' ∧ StaysR W W' := by
  obtain ⟨b, v, T⟩ := h
  have hk := perm_exp hp life now
  refine (rexpire_any _ M v g room life now W T).mono fun e W' ⟨h1, h2⟩ => ⟨_, ?_, hk, HasR.turned b T h2⟩
  rw [h1, hp.length_eq, hk.length_eq]
/-- what a call on both leaves -/
def Both (w : World) (g1 g2 : Nat) (room life : Int) (W W' : World) : Prop := ∃ L' M', Has w g1 room life L' W' ∧ HasR w g2 room life M' W' ∧ L'.Perm M' ∧ StaysB W W'
set_option maxHeartbeats 1000000 in
set_option maxRecDepth 100000 in
theorem same_put (w W : World) (g1 g2 : Nat) (room life key val now : Int) (L M : List Ent) (h : Has w g1 room life L W) (hr : HasR w g2 room life M W) (hp : L.Perm M) (hk : 0 ≤ key ∧ key < 18446744073709551616) (hv : 0 ≤ val ∧ val < 18446744073709551616) :
    Calls Try.prog 13 #[.pointer (some ⟨g1, 0, none⟩), .pointer (some ⟨g2, 0, none⟩), .agg #[.int .i64 0, .int .u64 key, .int .u64 val, .int .i64 now]] W fun e W' => e = .returned (.bool true) ∧ Both w g1 g2 room life W W' := by
  have b0 := alloc_below W (.cells #[.int .i64 0, .int .u64 key, .int .u64 val, .int .i64 now] 31)
  have h0 := h.below b0
  have r0 := hr.below b0
  have S0 := hide (StaysB.of b0)
  have x0 := heap_alloc_new W (.cells #[.int .i64 0, .int .u64 key, .int .u64 val, .int .i64 now] 31)
  have X0 := hide x0
  have R0 := hide r0
  have HS := hide h.srt
  have HP := hide hp
  have C := hide (has_put key val now h0 hk hv)
  have D := hide (fun V (hh : HasR w g2 room life M V) => hasR_put (W := V) key val now hh (unhide HS) (unhide HP) hk hv)
  clear h hr hp b0 h0 r0 x0 hk hv
  generalize putP room life L ⟨key, val, now, false⟩ = q at *
  go_enter Try.func13, Try.ntmps13
  go_wp2_with fail
  refine (unhide C).mono ?_
  rintro e W2 ⟨rfl, h2, s2⟩
  have r2 := (unhide R0).stays s2 h2.1
  have D2 := hide (unhide D W2 r2)
  have S2 := hide ((unhide S0).trans s2.both)
  have hop := cells4 (s2 _ _ _ _ (by decide) (by decide) (unhide X0))
  have H2 := hide h2
  clear h2 s2 r2 C D R0 X0 S0
  go_wp2_with fail
  refine (unhide D2).mono ?_
  rintro e W3 ⟨M', rfl, hp3, h3, s3⟩
  have FIN := hide (show Both w g1 g2 room life W W3 from ⟨_, M', (unhide H2).staysR s3 h3.1, h3, hp3, (unhide S2).trans s3.both⟩)
  clear hp3 h3 s3
  go_wp2_with fail
  go_ret
  exact ⟨rfl, unhide FIN⟩
set_option maxHeartbeats 1000000 in
set_option maxRecDepth 100000 in
theorem same_fix (w W : World) (g1 g2 : Nat) (room life key val now : Int) (L M : List Ent) (h : Has w g1 room life L W) (hr : HasR w g2 room life M W) (hp : L.Perm M) (hk : 0 ≤ key ∧ key < 18446744073709551616) (hv : 0 ≤ val ∧ val < 18446744073709551616) :
    Calls Try.prog 13 #[.pointer (some ⟨g1, 0, none⟩), .pointer (some ⟨g2, 0, none⟩), .agg #[.int .i64 1, .int .u64 key, .int .u64 val, .int .i64 now]] W fun e W' => e = .returned (.bool true) ∧ Both w g1 g2 room life W W' := by
  have b0 := alloc_below W (.cells #[.int .i64 1, .int .u64 key, .int .u64 val, .int .i64 now] 31)
  have h0 := h.below b0
  have r0 := hr.below b0
  have S0 := hide (StaysB.of b0)
  have x0 := heap_alloc_new W (.cells #[.int .i64 1, .int .u64 key, .int .u64 val, .int .i64 now] 31)
  have X0 := hide x0
  have R0 := hide r0
  have HS := hide h.srt
  have HP := hide hp
  have C := hide (has_fix key val h0 hk hv)
  have D := hide (fun V (hh : HasR w g2 room life M V) => hasR_fix (W := V) key val hh (unhide HS) (unhide HP) hk hv)
  clear h hr hp b0 h0 r0 x0 hk hv
  generalize fixP room L ⟨key, val, 0, true⟩ = q at *
  go_enter Try.func13, Try.ntmps13
  go_wp2_with fail
  refine (unhide C).mono ?_
  rintro e W2 ⟨rfl, h2, s2⟩
  have r2 := (unhide R0).stays s2 h2.1
  have D2 := hide (unhide D W2 r2)
  have S2 := hide ((unhide S0).trans s2.both)
  have hop := cells4 (s2 _ _ _ _ (by decide) (by decide) (unhide X0))
  have H2 := hide h2
  clear h2 s2 r2 C D R0 X0 S0
  go_wp2_with fail
  refine (unhide D2).mono ?_
  rintro e W3 ⟨M', rfl, hp3, h3, s3⟩
  have FIN := hide (show Both w g1 g2 room life W W3 from ⟨_, M', (unhide H2).staysR s3 h3.1, h3, hp3, (unhide S2).trans s3.both⟩)
  clear hp3 h3 s3
  go_wp2_with fail
  go_ret
  exact ⟨rfl, unhide FIN⟩
set_option maxHeartbeats 1000000 in
set_option maxRecDepth 100000 in
theorem same_drop (w W : World) (g1 g2 : Nat) (room life key val now : Int) (L M : List Ent) (h : Has w g1 room life L W) (hr : HasR w g2 room life M W) (hp : L.Perm M) :
    Calls Try.prog 13 #[.pointer (some ⟨g1, 0, none⟩), .pointer (some ⟨g2, 0, none⟩), .agg #[.int .i64 3, .int .u64 key, .int .u64 val, .int .i64 now]] W fun e W' => e = .returned (.bool true) ∧ Both w g1 g2 room life W W' := by
  have b0 := alloc_below W (.cells #[.int .i64 3, .int .u64 key, .int .u64 val, .int .i64 now] 31)
  have h0 := h.below b0
  have r0 := hr.below b0
  have S0 := hide (StaysB.of b0)
  have x0 := heap_alloc_new W (.cells #[.int .i64 3, .int .u64 key, .int .u64 val, .int .i64 now] 31)
  have X0 := hide x0
  have R0 := hide r0
  have HS := hide h.srt
  have HP := hide hp
  have C := hide (has_drop key h0)
  have D := hide (fun V (hh : HasR w g2 room life M V) => hasR_drop (W := V) key hh (unhide HS) (unhide HP))
  clear h hr hp b0 h0 r0 x0
  generalize (look L key).isSome = q at *
  go_enter Try.func13, Try.ntmps13
  go_wp2_with fail
  refine (unhide C).mono ?_
  rintro e W2 ⟨rfl, h2, s2⟩
  have r2 := (unhide R0).stays s2 h2.1
  have D2 := hide (unhide D W2 r2)
  have S2 := hide ((unhide S0).trans s2.both)
  have hop := cells4 (s2 _ _ _ _ (by decide) (by decide) (unhide X0))
  have H2 := hide h2
  clear h2 s2 r2 C D R0 X0 S0
  go_wp2_with fail
  refine (unhide D2).mono ?_
  rintro e W3 ⟨M', rfl, hp3, h3, s3⟩
  have FIN := hide (show Both w g1 g2 room life W W3 from ⟨_, M', (unhide H2).staysR s3 h3.1, h3, hp3, (unhide S2).trans s3.both⟩)
  clear hp3 h3 s3
  go_wp2_with fail
  go_ret
  exact ⟨rfl, unhide FIN⟩
set_option maxHeartbeats 1000000 in
set_option maxRecDepth 100000 in
theorem same_clear (w W : World) (g1 g2 : Nat) (room life key val now : Int) (L M : List Ent) (h : Has w g1 room life L W) (hr : HasR w g2 room life M W) (hp : L.Perm M) :
    Calls Try.prog 13 #[.pointer (some ⟨g1, 0, none⟩), .pointer (some ⟨g2, 0, none⟩), .agg #[.int .i64 4, .int .u64 key, .int .u64 val, .int .i64 now]] W fun e W' => e = .returned (.bool true) ∧ Both w g1 g2 room life W W' := by
  have b0 := alloc_below W (.cells #[.int .i64 4, .int .u64 key, .int .u64 val, .int .i64 now] 31)
  have h0 := h.below b0
  have r0 := hr.below b0
  have S0 := hide (StaysB.of b0)
  have x0 := heap_alloc_new W (.cells #[.int .i64 4, .int .u64 key, .int .u64 val, .int .i64 now] 31)
  have X0 := hide x0
  have R0 := hide r0
  have HS := hide h.srt
  have HP := hide hp
  have C := hide (has_clear val h0)
  have D := hide (fun V (hh : HasR w g2 room life M V) => hasR_clear (W := V) val hh (unhide HP))
  clear h hr hp b0 h0 r0 x0
  generalize (L.length : Int) - ((kept (hasVal val) L).length : Int) = q at *
  go_enter Try.func13, Try.ntmps13
  go_wp2_with fail
  refine (unhide C).mono ?_
  rintro e W2 ⟨rfl, h2, s2⟩
  have r2 := (unhide R0).stays s2 h2.1
  have D2 := hide (unhide D W2 r2)
  have S2 := hide ((unhide S0).trans s2.both)
  have hop := cells4 (s2 _ _ _ _ (by decide) (by decide) (unhide X0))
  have H2 := hide h2
  clear h2 s2 r2 C D R0 X0 S0
  go_wp2_with fail
  refine (unhide D2).mono ?_
  rintro e W3 ⟨M', rfl, hp3, h3, s3⟩
  have FIN := hide (show Both w g1 g2 room life W W3 from ⟨_, M', (unhide H2).staysR s3 h3.1, h3, hp3, (unhide S2).trans s3.both⟩)
  clear hp3 h3 s3
  go_wp2_with fail
  go_ret
  exact ⟨rfl, unhide FIN⟩
set_option maxHeartbeats 1000000 in
set_option maxRecDepth 100000 in
theorem same_expire (w W : World) (g1 g2 : Nat) (room life key val now : Int) (L M : List Ent) (h : Has w g1 room life L W) (hr : HasR w g2 room life M W) (hp : L.Perm M) :
    Calls Try.prog 13 #[.pointer (some ⟨g1, 0, none⟩), .pointer (some ⟨g2, 0, none⟩), .agg #[.int .i64 5, .int .u64 key, .int .u64 val, .int .i64 now]] W fun e W' => e = .returned (.bool true) ∧ Both w g1 g2 room life W W' := by
  have b0 := alloc_below W (.cells #[.int .i64 5, .int .u64 key, .int .u64 val, .int .i64 now] 31)
  have h0 := h.below b0
  have r0 := hr.below b0
  have S0 := hide (StaysB.of b0)
  have x0 := heap_alloc_new W (.cells #[.int .i64 5, .int .u64 key, .int .u64 val, .int .i64 now] 31)
  have X0 := hide x0
  have R0 := hide r0
  have HS := hide h.srt
  have HP := hide hp
  have C := hide (has_expire now h0)
  have D := hide (fun V (hh : HasR w g2 room life M V) => hasR_expire (W := V) now hh (unhide HP))
  clear h hr hp b0 h0 r0 x0
  generalize (L.length : Int) - ((expP life now L).length : Int) = q at *
  go_enter Try.func13, Try.ntmps13
  go_wp2_with fail
  refine (unhide C).mono ?_
  rintro e W2 ⟨rfl, h2, s2⟩
  have r2 := (unhide R0).stays s2 h2.1
  have D2 := hide (unhide D W2 r2)
  have S2 := hide ((unhide S0).trans s2.both)
  have hop := cells4 (s2 _ _ _ _ (by decide) (by decide) (unhide X0))
  have H2 := hide h2
  clear h2 s2 r2 C D R0 X0 S0
  go_wp2_with fail
  refine (unhide D2).mono ?_
  rintro e W3 ⟨M', rfl, hp3, h3, s3⟩
  have FIN := hide (show Both w g1 g2 room life W W3 from ⟨_, M', (unhide H2).staysR s3 h3.1, h3, hp3, (unhide S2).trans s3.both⟩)
  clear hp3 h3 s3
  go_wp2_with fail
  go_ret
  exact ⟨rfl, unhide FIN⟩
set_option maxHeartbeats 1000000 in
set_option maxRecDepth 100000 in
theorem same_get (w W : World) (g1 g2 : Nat) (room life key val now : Int) (L M : List Ent) (h : Has w g1 room life L W) (hr : HasR w g2 room life M W) (hp : L.Perm M) :
    Calls Try.prog 13 #[.pointer (some ⟨g1, 0, none⟩), .pointer (some ⟨g2, 0, none⟩), .agg #[.int .i64 2, .int .u64 key, .int .u64 val, .int .i64 now]] W fun e W' => e = .returned (.bool true) ∧ Both w g1 g2 room life W W' := by
  have b0 := alloc_below W (.cells #[.int .i64 2, .int .u64 key, .int .u64 val, .int .i64 now] 31)
  have h0 := h.below b0
  have r0 := hr.below b0
  have S0 := hide (StaysB.of b0)
  have x0 := heap_alloc_new W (.cells #[.int .i64 2, .int .u64 key, .int .u64 val, .int .i64 now] 31)
  have X0 := hide x0
  have R0 := hide r0
  have HS := hide h.srt
  have HP := hide hp
  have H0 := hide h0
  have C := hide (has_get key now h0)
  have D := hide (fun V (hh : HasR w g2 room life M V) => hasR_get (W := V) key now hh (unhide HS) (unhide HP))
  clear h hr hp b0 h0 r0 x0
  obtain ⟨a, b, c, f, i, hq⟩ : ∃ (a b c : Int) (f i : Bool), entO (told life now (look L key)) = .tuple #[.agg #[.int .u64 a, .int .u64 b, .int .i64 c, .bool f], .bool i] := by
    cases told life now (look L key) with
    | none => exact ⟨0, 0, 0, false, false, rfl⟩
    | some x => exact ⟨x.key, x.val, x.at_, x.fix, true, rfl⟩
  rw [hq] at C D
  have SE := fun V => same_entry a b c f V
  clear hq
  go_enter Try.func13, Try.ntmps13
  go_wp2_with fail
  refine (unhide C).mono ?_
  rintro e W2 ⟨rfl, b2⟩
  have b3 := alloc_then (o := .cells #[.int .u64 a, .int .u64 b, .int .i64 c, .bool f] 41) b2
  have D2 := hide (unhide D _ ((unhide R0).below b3))
  have B3 := hide b3
  have X2 := hide (heap_alloc_new W2 (.cells #[.int .u64 a, .int .u64 b, .int .i64 c, .bool f] 41))
  have hop := cells4 (Below.row b2 (unhide X0))
  have hop2 := cells4 (Below.row b3 (unhide X0))
  clear b2 b3 C D X0
  go_wp2_with fail
  refine (unhide D2).mono ?_
  rintro e W4 ⟨rfl, b4⟩
  have b5 := alloc_then (o := .cells #[.int .u64 a, .int .u64 b, .int .i64 c, .bool f] 41) b4
  have x5 := cells4 (Below.row b5 (unhide X2))
  have x4 := cells4 (Below.row b4 (unhide X2))
  have B5 := hide (bthen (unhide B3) b5)
  clear b4 b5 B3 X2 D2 hop hop2
  go_wp2_with fail
  go_ret
  exact ⟨rfl, L, M, (unhide H0).below (unhide B5), (unhide R0).below (unhide B5), unhide HP, (unhide S0).trans (StaysB.of (unhide B5))⟩
set_option maxRecDepth 100000 in
theorem same_other (w W : World) (g1 g2 : Nat) (room life k key val now : Int) (L M : List Ent) (h : Has w g1 room life L W) (hr : HasR w g2 room life M W) (hp : L.Perm M) (n0 : ¬ k = 0) (n1 : ¬ k = 1) (n2 : ¬ k = 2) (n3 : ¬ k = 3) (n4 : ¬ k = 4) (n5 : ¬ k = 5) :
    Calls Try.prog 13 #[.pointer (some ⟨g1, 0, none⟩), .pointer (some ⟨g2, 0, none⟩), .agg #[.int .i64 k, .int .u64 key, .int .u64 val, .int .i64 now]] W fun e W' => e = .returned (.bool true) ∧ Both w g1 g2 room life W W' := by
  have b0 := alloc_below W (.cells #[.int .i64 k, .int .u64 key, .int .u64 val, .int .i64 now] 31)
  have FIN := hide (show Both w g1 g2 room life W _ from ⟨L, M, h.below b0, hr.below b0, hp, StaysB.of b0⟩)
  have d0 : decide (k = 0) = false := decide_eq_false n0
  have d1 : decide (k = 1) = false := decide_eq_false n1
  have d2 : decide (k = 2) = false := decide_eq_false n2
  have d3 : decide (k = 3) = false := decide_eq_false n3
  have d4 : decide (k = 4) = false := decide_eq_false n4
  have d5 : decide (k = 5) = false := decide_eq_false n5
  clear h hr hp b0
  go_enter Try.func13, Try.ntmps13
  go_wp2_with fail
  go_ret
  exact ⟨rfl, unhide FIN⟩
theorem same_any (w W : World) (g1 g2 : Nat) (room life k key val now : Int) (L M : List Ent) (h : Has w g1 room life L W) (hr : HasR w g2 room life M W) (hp : L.Perm M) (hk : 0 ≤ key ∧ key < 18446744073709551616) (hv : 0 ≤ val ∧ val < 18446744073709551616) :
    Calls Try.prog 13 #[.pointer (some ⟨g1, 0, none⟩), .pointer (some ⟨g2, 0, none⟩), .agg #[.int .i64 k, .int .u64 key, .int .u64 val, .int .i64 now]] W fun e W' => e = .returned (.bool true) ∧ Both w g1 g2 room life W W' := by
  by_cases n0 : k = 0
  · subst n0; exact same_put w W g1 g2 room life key val now L M h hr hp hk hv
  by_cases n1 : k = 1
  · subst n1; exact same_fix w W g1 g2 room life key val now L M h hr hp hk hv
  by_cases n2 : k = 2
  · subst n2; exact same_get w W g1 g2 room life key val now L M h hr hp
  by_cases n3 : k = 3
  · subst n3; exact same_drop w W g1 g2 room life key val now L M h hr hp
  by_cases n4 : k = 4
  · subst n4; exact same_clear w W g1 g2 room life key val now L M h hr hp
  by_cases n5 : k = 5
  · subst n5; exact same_expire w W g1 g2 room life key val now L M h hr hp
  exact same_other w W g1 g2 room life k key val now L M h hr hp n0 n1 n2 n3 n4 n5
end Go.Proofs.Ytppfhbcfmekdoaa
