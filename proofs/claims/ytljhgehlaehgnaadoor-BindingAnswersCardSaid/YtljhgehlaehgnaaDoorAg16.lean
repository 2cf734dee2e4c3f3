/-
  The contract of slices.Insert of one part, whatever the row; and of ordered's set: an entry stands for a key.
-/
import Derived.Test.YtljhgehlaehgnaaDoorAg15
import Derived.Deep.RegionHeld3
namespace Go.Proofs.YtljhgehlaehgnaaDoor
open Go.RowKit

theorem ins_any (B vb i n : Nat) (v : Value) (A D : List Ent) (x : Ent) (w : World) (ho : Own B w v (A ++ D)) (hi : A.length = i) (hn : (A ++ D).length = n) (hc : n ≤ 4096) (hB : B ≤ w.heap.size) (hvr : v.ownBlock ≠ some vb)
    (hvb : w.heap[vb]? = some (.cells #[.int .u64 x.key, .int .u64 x.val, .int .i64 x.at_, .bool x.fix] 100 (0, 0))) :
    Calls Tryd.prog 52 #[v, .int .i64 i, .slice (some ⟨vb, 0, none⟩) 1 1] w fun e w' => Inserted B v (A ++ x :: D) w e w' := by
  rcases ho.parts with ⟨rfl, h0⟩ | ⟨r, cap, R, rfl, hBr, hr, hcap, hm, hR⟩
  · obtain ⟨rfl, rfl⟩ := List.append_eq_nil_iff.1 h0
    obtain rfl : i = 0 := by simpa using hi.symm
    exact ins_nil B vb x w hB hvb
  · rw [hn] at hcap hR ⊢
    by_cases hin : i < n
    · have hvr' : vb ≠ r := fun e => hvr (by rw [e]; rfl)
      by_cases hcp : n + 1 ≤ cap
      · exact ins_room B vb A D r cap i n x R w hr hi hn hin hc hcp hm hR hBr hvr' hvb
      · exact ins_grow B vb A D r cap i n x R w hr hi hn hin hc hcap (by omega) hB hvb
    · have hD : D = [] := by
        have : (A ++ D).length = i + D.length := by simp [hi]
        exact List.length_eq_zero_iff.1 (by omega)
      subst hD
      rw [List.append_nil] at ho hn
      obtain rfl : n = i := by omega
      rw [hn] at ho
      exact ins_end B vb A r cap n x w ho hn hc hm hB hvb
theorem mid3 {w : World} {r o : Nat} {t : TypeId} {X Z : List Value} {a b c d : Value} (hX : X.length = o) (h : w.heap[r]? = some (.cells (X ++ a :: b :: c :: d :: Z).toArray t (0, 0))) :
    w.cell? ⟨r, o + 1, none⟩ = some b ∧ w.cell? ⟨r, o + 2, none⟩ = some c ∧ w.cell? ⟨r, o + 3, none⟩ = some d ∧
    w.frozen? ⟨r, o + 1, none⟩ = false ∧ w.frozen? ⟨r, o + 2, none⟩ = false ∧ w.frozen? ⟨r, o + 3, none⟩ = false := by
  have := mid4 hX h
  exact ⟨this.2.1, this.2.2.1, this.2.2.2.1, this.2.2.2.2.2.1, this.2.2.2.2.2.2.1, this.2.2.2.2.2.2.2⟩
theorem put3 {w : World} {r o : Nat} {t : TypeId} {X Z : List Value} {a b c d b' c' d' : Value} (hX : X.length = o) (h : w.heap[r]? = some (.cells (X ++ a :: b :: c :: d :: Z).toArray t (0, 0))) :
    (((w.setCell ⟨r, o + 1, none⟩ b').setCell ⟨r, o + 2, none⟩ c').setCell ⟨r, o + 3, none⟩ d').heap[r]? = some (.cells (X ++ a :: b' :: c' :: d' :: Z).toArray t (0, 0)) := by
  subst hX
  rw [heap_setCell_same _ r (X.length + 3) _ t d' (heap_setCell_same _ r (X.length + 2) _ t c' (heap_setCell_same _ r (X.length + 1) _ t b' h))]
  congr 2
  simp
theorem put3_grown (w : World) (r o : Nat) (b c d : Value) : w.grownBy (((w.setCell ⟨r, o + 1, none⟩ b).setCell ⟨r, o + 2, none⟩ c).setCell ⟨r, o + 3, none⟩ d) (some r) := by
  refine ⟨rfl, rfl, rfl, by simp [World.setCell], fun k _ hk => ?_⟩
  have hk' : k ≠ r := fun e => hk (by rw [e])
  rw [heap_setCell_other _ ⟨r, o + 3, none⟩ k _ hk', heap_setCell_other _ ⟨r, o + 2, none⟩ k _ hk', heap_setCell_other _ ⟨r, o + 1, none⟩ k _ hk']
theorem grown_drew {w W : World} {row : Option Nat} (h : w.grownBy W row) : w.grownBy W.drew row := ⟨h.os, h.tape, h.output, h.size, h.block⟩
/-- a table whose row holds other parts now -/
theorem turned_row {B : Nat} {w w1 w2 : World} {g r n c : Nat} {room life : Int} {L L' : List Ent} (T : Tab B w g room life (.slice (some ⟨r, 0, none⟩) n c) L) (b : Below w.heap.size w w1) (hg : w1.grownBy w2 (some r))
    (ho : Own B w2 (.slice (some ⟨r, 0, none⟩) n c) L') (hs : Srt L') (hk : Oks L') (hf : (L'.length : Int) ≤ room) : Turned B g room life (.slice (some ⟨r, 0, none⟩) n c) L' w w2 := by
  have hgr : some g ≠ some r := fun e => T.apart e.symm
  have r1 := Below.row b T.row
  have r2 : w2.heap[g]? = _ := (hg.block g (lt_of_row r1) hgr).trans r1
  refine ⟨_, ⟨r2, ho, T.low, T.apart, hs, hk, hf, T.room1, T.room2, T.life1, T.life2⟩, ⟨hg.os.trans b.os, hg.tape.trans b.tape, hg.output.trans b.output, Nat.le_trans b.size hg.size, fun k hk _ hkr => ?_⟩, .inl rfl⟩
  exact (hg.block k (Nat.lt_of_lt_of_le hk b.size) hkr).trans (b.block k hk)
set_option maxHeartbeats 1000000 in
set_option maxRecDepth 100000 in
theorem set_old (B : Nat) (L : List Ent) (v : Value) (g : Nat) (room life : Int) (x y : Ent) (w : World) (T : Tab B w g room life v L) (hy : look L x.key = some y) (hx : x.ok) :
    Calls Tryd.prog 38 #[.pointer (some ⟨g, 2, none⟩), .int .u64 x.key, x.st] w fun e w' => e = .returned (.tuple #[]) ∧ Turned B g room life v (ins x L) w w' := by
  obtain ⟨A, D, rfl, hk, hA, hD⟩ := look_some T.srt hy
  have hs := T.srt.ins x
  have hok := T.oks.ins hx
  rw [ins_old hk hA] at hs hok ⊢
  rcases T.own.parts with ⟨_, h⟩ | ⟨r, cap, R, rfl, hB, hr, hcap, hm, hR⟩
  · simp at h
  have b1 := alloc_below w (.cells #[.int .u64 x.val, .int .i64 x.at_, .bool x.fix] 86)
  have T1 := T.below b1
  have F := hide (find_at B _ _ g 2 A.length x.key true _ T1.cell T1.own T1.len (spot_some hk hA hD))
  have hbx := heap_alloc_new w (.cells #[.int .u64 x.val, .int .i64 x.at_, .bool x.fix] 86)
  have hlt : A.length < (A ++ y :: D).length := by simp
  have hn4 := T.len
  have hcx := T1.cell
  have fin : Hid (∀ w1 w2, Below w.heap.size w w1 → w1.grownBy w2 (some r) → w2.heap[r]? = some (.cells (cs A ++ .int .u64 y.key :: .int .u64 x.val :: .int .i64 x.at_ :: .bool x.fix :: (cs D ++ R)).toArray 100 (0, 0)) →
      Turned B g room life (.slice (some ⟨r, 0, none⟩) (A ++ y :: D).length cap) (A ++ x :: D) w w2) := by
    intro w1 w2 h1 h2 h3
    have hl : (A ++ x :: D).length = (A ++ y :: D).length := by simp
    refine turned_row T h1 h2 ?_ hs hok (by rw [hl]; exact T.fit)
    rw [← hl]
    refine own_of (R := R) hB ?_ (by rw [hl]; exact hcap) hm (by rw [hl]; exact hR)
    rw [h3]
    congr 3
    rw [cs_append, cs_cons, hk]
    simp [Ent.cs]
  have hrow : Hid (∀ W, Below w.heap.size w W → W.heap[r]? = some (.cells (cs A ++ .int .u64 y.key :: .int .u64 y.val :: .int .i64 y.at_ :: .bool y.fix :: (cs D ++ R)).toArray 100 (0, 0))) := by
    intro W h
    rw [Below.row h hr, cs_append, cs_cons]
    simp [Ent.cs]
  have hcA : Hid ((cs A).length = A.length * 4) := cs_length A
  have B1 := hide b1
  have hbl : w.heap.size < (w.alloc (.cells #[.int .u64 x.val, .int .i64 x.at_, .bool x.fix] 86)).heap.size := by simp
  clear T hr hs hok hy T1 b1 hR hm hB
  generalize (A ++ y :: D).length = n at *
  generalize hal : A.length = i at *
  clear hal hA hD hk
  unfold Ent.st
  go_enter Tryd.func38, Tryd.ntmps38
  go_wp2_with fail
  refine (unhide F).mono ?_
  rintro e w1 ⟨rfl, b1⟩
  have hb1 := bthen (unhide B1) b1
  have r1 := unhide hrow w1 hb1
  have c3 := cells3 (Below.row b1 hbx)
  have m3 := mid3 (unhide hcA) r1
  have P3 := hide (put3 (b' := .int .u64 x.val) (c' := .int .i64 x.at_) (d' := .bool x.fix) (unhide hcA) r1)
  have hcx1 := (b1.cell (p := ⟨g, 2, none⟩) (block_lt_of_cell hcx)).trans hcx
  have HB := hide hb1
  clear hb1 r1 b1 hbx F B1 hcx
  have hic : (i : Int) < n := by omega
  go_wp2_with fail
  go_region
  go_wp2_with fail
  refine bodyPost_ret (results_none rfl _ _ _) rfl ?_
  exact ⟨rfl, unhide fin w1 _ (unhide HB) (grown_drew (put3_grown w1 r (i * 4) (.int .u64 x.val) (.int .i64 x.at_) (.bool x.fix))) (by rw [heap_drew]; exact unhide P3)⟩
set_option maxHeartbeats 1000000 in
set_option maxRecDepth 100000 in
theorem set_new (B : Nat) (L : List Ent) (v : Value) (g : Nat) (room life : Int) (x : Ent) (w : World) (T : Tab B w g room life v L) (hy : look L x.key = none) (hx : x.ok) (hroom : (L.length : Int) < room) (hBw : B ≤ w.heap.size) :
    Calls Tryd.prog 38 #[.pointer (some ⟨g, 2, none⟩), .int .u64 x.key, x.st] w fun e w' => e = .returned (.tuple #[]) ∧ Turned B g room life v (ins x L) w w' := by
  obtain ⟨A, D, rfl, hA, hD⟩ := look_none T.srt hy
  have hs := T.srt.ins x
  have hok := T.oks.ins hx
  rw [ins_new hA hD] at hs hok ⊢
  have b1 := alloc_below w (.cells #[.int .u64 x.val, .int .i64 x.at_, .bool x.fix] 86)
  have T1 := T.below b1
  have F := hide (find_at B _ _ g 2 A.length x.key false _ T1.cell T1.own T1.len (spot_none hA hD))
  have hbx := heap_alloc_new w (.cells #[.int .u64 x.val, .int .i64 x.at_, .bool x.fix] 86)
  have hcx := T1.cell
  have hgl := T.lt
  have C : Hid (∀ W vb, W.heap[vb]? = some (.cells #[.int .u64 x.key, .int .u64 x.val, .int .i64 x.at_, .bool x.fix] 100 (0, 0)) → w.heap.size ≤ vb → Below w.heap.size w W → Calls Tryd.prog 52 #[v, .int .i64 A.length, .slice (some ⟨vb, 0, none⟩) 1 1] W fun e w' => Inserted B v (A ++ x :: D) W e w') := by
    intro W vb hr hv hb
    refine ins_any B vb A.length _ v A D x _ (T.own.below hb) rfl rfl T.len (Nat.le_trans hBw hb.size) ?_ hr
    intro e
    have := (T.vlt _ e).2
    omega
  have fin : Hid (∀ w1 w2 v', Below w.heap.size w w1 → w1.grownBy w2 v.ownBlock → Own B w2 v' (A ++ x :: D) → Nb w1 v.ownBlock v'.ownBlock → w2.heap[g]? = some (.cells #[.int .i64 room, .int .i64 life, v] 80 (0, 0)) ∧ Turned B g room life v (A ++ x :: D) w (w2.setCell ⟨g, 2, none⟩ v')) := by
    intro w1 w2 v' h1 h2 h3 h4
    refine ⟨(h2.block g (Nat.lt_of_lt_of_le T.lt h1.size) (fun e => T.apart e.symm)).trans (Below.row h1 T.row), ?_⟩
    refine turned_of T h1 h2 (.inl rfl) h3 ?_ hs hok ?_
    · rcases h4 with h4 | h4
      · exact .inl h4
      · exact .inr fun k hk => Nat.le_trans h1.size (h4 k hk)
    · have : (A ++ x :: D).length = (A ++ D).length + 1 := by simp; omega
      rw [this]; omega
  have B1 := hide b1
  clear T hs hok hy T1 b1 hroom hBw
  generalize hal : A.length = i at *
  clear hal hA hD
  unfold Ent.st
  go_enter Tryd.func38, Tryd.ntmps38
  go_wp2_with fail
  refine (unhide F).mono ?_
  rintro e w1 ⟨rfl, b1⟩
  have hb1 := bthen (unhide B1) b1
  have c3 := cells3 (Below.row b1 hbx)
  have hcx1 := (b1.cell (p := ⟨g, 2, none⟩) (block_lt_of_cell hcx)).trans hcx
  have HB := hide hb1
  clear b1 hbx F B1 hcx hb1
  go_wp2_with fail
  have hb2 := hide (Below.drew (alloc_then (o := .cells #[.int .u64 x.key, .int .u64 x.val, .int .i64 x.at_, .bool x.fix] 100) (unhide HB)))
  have C1 := hide (unhide C _ w1.heap.size (show ((w1.alloc (.cells #[.int .u64 x.key, .int .u64 x.val, .int .i64 x.at_, .bool x.fix] 100)).drew).heap[w1.heap.size]? = _ from heap_alloc_new w1 _) (unhide HB).size (unhide hb2))
  have C2 := hide (unhide fin _ · · (unhide hb2))
  have hgl1 : g < w1.heap.size := Nat.lt_of_lt_of_le hgl (unhide HB).size
  have hgl2 := block_lt_of_cell c3.1
  clear C fin
  go_region_with (go_at_call 52; refine (unhide C1).mono ?_; rintro e w3 ⟨ao, m, c, rfl, o3, g3, n3⟩; have hf3 := unhide C2 w3 _ g3 o3 n3; have hf4 := hide hf3.2; have hf5 := (cells3 hf3.1).2.2; clear o3 g3 n3 hf3)
  all_goals (go_wp2_with fail; go_end0; exact ⟨rfl, unhide (by assumption)⟩)
end Go.Proofs.YtljhgehlaehgnaaDoor
