/-
  The document's table: what its row holds; what a call on it has turned; lists made anew; the contracts of gangwayref12's time and less.
-/
import Derived.Test.YtljhgehlaehgnaaGreatDoorHdPlain
import Derived.Test.YtljhgehlaehgnaaGreatDoorRef12a
namespace Go.Proofs.YtljhgehlaehgnaaGreatDoor
open Go.RowKit Go.Sort

theorem Tryz.infoHeard : (Tryz.prog.info? 75).map (fun i => (i.zero, i.size, i.bytes)) = some (some (.agg #[.int .i64 0, .int .u32 0, .int .u64 0, .int .i64 0]), 4, 32) := by kernel_rfl
/-- what was heard, as a slice owns it, in memory from block B on -/
def HTells (B : Nat) (w : World) (v : Value) (L : List Hd) : Prop := w.ownsRow B 75 4 v L.length (hcs L)
/-- a row of what was heard, in memory -/
structure HProw (w : World) (r : Nat) (L : List Hd) : Prop where
  at0 : ∀ j (h : j < L.length), w.cell? ⟨r, j * 4, none⟩ = some (.int .i64 (L[j]).vid)
  at1 : ∀ j (h : j < L.length), w.cell? ⟨r, j * 4 + 1, none⟩ = some (.int .u32 (L[j]).ip)
  at2 : ∀ j (h : j < L.length), w.cell? ⟨r, j * 4 + 2, none⟩ = some (.int .u64 (L[j]).mac)
  at3 : ∀ j (h : j < L.length), w.cell? ⟨r, j * 4 + 3, none⟩ = some (.int .i64 (L[j]).at_)
theorem HProw.below {w w' : World} {r : Nat} {L : List Hd} (h : HProw w r L) (b : Below w.heap.size w w') : HProw w' r L := by
  by_cases h0 : 0 < L.length
  · have hr : r < w.heap.size := block_lt_of_cell (h.at0 0 h0)
    exact ⟨fun j hj => (b.cell (p := ⟨r, _, none⟩) hr).trans (h.at0 j hj), fun j hj => (b.cell (p := ⟨r, _, none⟩) hr).trans (h.at1 j hj), fun j hj => (b.cell (p := ⟨r, _, none⟩) hr).trans (h.at2 j hj), fun j hj => (b.cell (p := ⟨r, _, none⟩) hr).trans (h.at3 j hj)⟩
  · exact ⟨fun j hj => absurd hj (by omega), fun j hj => absurd hj (by omega), fun j hj => absurd hj (by omega), fun j hj => absurd hj (by omega)⟩
/-- the document's table in a block of its own -/
structure HTab (B : Nat) (w : World) (g : Nat) (room life : Int) (v : Value) (M : List Hd) : Prop where
  row : w.heap[g]? = some (.cells #[v, .int .i64 room, .int .i64 life] 57 (0, 0))
  own : HTells B w v M
  low : B ≤ g
  apart : v.ownBlock ≠ some g
  uniq : HUniq M
  oks : HOks M
  fit : (M.length : Int) ≤ room
  room1 : 1 ≤ room
  room2 : room ≤ 4096
  life1 : 1 ≤ life
  life2 : life ≤ 1099511627776
theorem HTells.parts {B : Nat} {w : World} {v : Value} {L : List Hd} (h : HTells B w v L) :
    (v = .slice none 0 0 ∧ L = []) ∨ ∃ r cap R, v = .slice (some ⟨r, 0, none⟩) L.length cap ∧ B ≤ r ∧ w.heap[r]? = some (.cells (hcs L ++ R).toArray 75 (0, 0)) ∧ L.length ≤ cap ∧ cap ≤ maxLen ∧ L.length * 4 + R.length = cap * 4 := by
  obtain ⟨hl, ⟨rfl, h0⟩ | ⟨r, cap, cur, rfl, hB, hr, h1, h2, h3, h4⟩⟩ := h
  · exact .inl ⟨rfl, List.length_eq_zero_iff.1 h0⟩
  · refine .inr ⟨r, cap, cur.toList.drop (L.length * 4), rfl, hB, ?_, h1, h2, ?_⟩
    · rw [hr]
      congr
      rw [← h4, List.take_append_drop]
    · have hc : cur.toList.length = cap * 4 := by simpa using h3
      rw [List.length_drop, hc]
      have := Nat.mul_le_mul_right 4 h1
      omega
theorem htells_of {B : Nat} {w : World} {L : List Hd} {r cap : Nat} {R : List Value} (hB : B ≤ r) (hr : w.heap[r]? = some (.cells (hcs L ++ R).toArray 75 (0, 0))) (h1 : L.length ≤ cap) (h2 : cap ≤ maxLen) (h3 : L.length * 4 + R.length = cap * 4) :
    HTells B w (.slice (some ⟨r, 0, none⟩) L.length cap) L := by
  refine ⟨hcs_length L, .inr ⟨r, cap, _, rfl, hB, hr, h1, h2, ?_, ?_⟩⟩
  · simp [hcs_length]; omega
  · rw [List.take_append_of_le_length (by rw [hcs_length]; exact Nat.le_refl _), List.take_of_length_le (by rw [hcs_length]; exact Nat.le_refl _)]
theorem hrow_at {w : World} {r : Nat} {L : List Hd} {R : List Value} (hr : w.heap[r]? = some (.cells (hcs L ++ R).toArray 75 (0, 0))) (j : Nat) (h : j < L.length) (t : Nat) (ht : t < 4) : w.cell? ⟨r, j * 4 + t, none⟩ = (L[j]).cs[t]? := by
  rw [cell_of_row w r (j * 4 + t) _ _ _ hr, List.getElem?_toArray, List.getElem?_append_left (by rw [hcs_length]; omega), hcs_get L j h t ht]
theorem hrow_of {w : World} {r : Nat} {L : List Hd} {R : List Value} (hr : w.heap[r]? = some (.cells (hcs L ++ R).toArray 75 (0, 0))) : HProw w r L :=
  ⟨fun j h => hrow_at hr j h 0 (by omega), fun j h => hrow_at hr j h 1 (by omega), fun j h => hrow_at hr j h 2 (by omega), fun j h => hrow_at hr j h 3 (by omega)⟩
/-- a row of entries, as a loop reads it: no row, or one in a block of its own -/
def HRow (W : World) (ao : Option Addr) (n : Nat) (M : List Hd) : Prop := M.length = n ∧ (0 < n → ∃ r, ao = some ⟨r, 0, none⟩ ∧ r < W.heap.size ∧ HProw W r M)
theorem HRow.below {W W' : World} {ao : Option Addr} {n : Nat} {M : List Hd} (h : HRow W ao n M) (b : Below W.heap.size W W') : HRow W' ao n M := by
  refine ⟨h.1, fun hn => ?_⟩
  obtain ⟨r, h1, h2, h3⟩ := h.2 hn
  exact ⟨r, h1, Nat.lt_of_lt_of_le h2 b.size, h3.below b⟩
theorem HTells.hrow {B : Nat} {w : World} {v : Value} {L : List Hd} (h : HTells B w v L) : ∃ ao cap, v = .slice ao L.length cap ∧ L.length ≤ cap ∧ HRow w ao L.length L := by
  rcases h.parts with ⟨rfl, rfl⟩ | ⟨r, cap, R, rfl, _, hr, hc, _⟩
  · exact ⟨none, 0, rfl, Nat.le_refl _, rfl, fun h => absurd h (by simp)⟩
  · exact ⟨_, cap, rfl, hc, rfl, fun _ => ⟨r, rfl, lt_of_row hr, hrow_of hr⟩⟩
theorem HTab.below {B : Nat} {w w' : World} {g : Nat} {room life : Int} {v : Value} {M : List Hd} (h : HTab B w g room life v M) (b : Below w.heap.size w w') : HTab B w' g room life v M :=
  ⟨Below.row b h.row, owns_below h.own b, h.low, h.apart, h.uniq, h.oks, h.fit, h.room1, h.room2, h.life1, h.life2⟩
theorem HTab.lt {B : Nat} {w : World} {g : Nat} {room life : Int} {v : Value} {M : List Hd} (h : HTab B w g room life v M) : g < w.heap.size := lt_of_row h.row
theorem HTab.cells {B : Nat} {w : World} {g : Nat} {room life : Int} {v : Value} {M : List Hd} (h : HTab B w g room life v M) : w.cell? ⟨g, 0, none⟩ = some v ∧ w.cell? ⟨g, 1, none⟩ = some (.int .i64 room) ∧ w.cell? ⟨g, 2, none⟩ = some (.int .i64 life) :=
  ⟨(cells3 h.row).1, (cells3 h.row).2.1, (cells3 h.row).2.2.1⟩
theorem HTab.len {B : Nat} {w : World} {g : Nat} {room life : Int} {v : Value} {M : List Hd} (h : HTab B w g room life v M) : M.length ≤ 4096 := by
  have := h.fit; have := h.room2; omega
theorem HTab.base {B : Nat} {w : World} {g : Nat} {room life : Int} {v : Value} {M : List Hd} (h : HTab B w g room life v M) : B ≤ w.heap.size := by
  have := h.low; have := h.lt; omega
theorem HTab.vlt {B : Nat} {w : World} {g : Nat} {room life : Int} {v : Value} {M : List Hd} (h : HTab B w g room life v M) : ∀ k, v.ownBlock = some k → B ≤ k ∧ k < w.heap.size := World.ownsRow.lt h.own
/-- behind a call: the document's table holds these entries now; nothing else has turned but its block and the row that it owned -/
def HTurned (B g : Nat) (room life : Int) (v : Value) (M' : List Hd) (w w' : World) : Prop :=
  ∃ v', HTab B w' g room life v' M' ∧ But2 g v.ownBlock w w' ∧ Nb w v.ownBlock v'.ownBlock
theorem hturned_same {B : Nat} {w w' : World} {g : Nat} {room life : Int} {v : Value} {M : List Hd} (h : HTab B w g room life v M) (b : Below w.heap.size w w') : HTurned B g room life v M w w' :=
  ⟨v, h.below b, But2.of b, Nb.refl _ _⟩
theorem HTurned.trans {B : Nat} {w w1 w2 : World} {g : Nat} {room life : Int} {v : Value} {L1 L2 : List Hd} (h1 : HTurned B g room life v L1 w w1)
    (h2 : ∀ v1, HTab B w1 g room life v1 L1 → HTurned B g room life v1 L2 w1 w2) : HTurned B g room life v L2 w w2 := by
  obtain ⟨v1, t1, b1, n1⟩ := h1
  obtain ⟨v2, t2, b2, n2⟩ := h2 v1 t1
  exact ⟨v2, t2, b1.trans n1 b2, n1.trans b1.size n2⟩
theorem HTurned.then {B : Nat} {w w1 w2 : World} {g : Nat} {room life : Int} {v : Value} {L1 : List Hd} (h1 : HTurned B g room life v L1 w w1) (b : Below w1.heap.size w1 w2) : HTurned B g room life v L1 w w2 :=
  h1.trans fun _ t => hturned_same t b
/-- a table whose row is another one now -/
theorem hturned_of {B : Nat} {w w1 w2 : World} {g : Nat} {room life : Int} {v v' : Value} {L L' : List Hd} {row : Option Nat} (T : HTab B w g room life v L) (b : Below w.heap.size w w1) (hg : w1.grownBy w2 row) (hr : row = v.ownBlock ∨ row = none)
    (ho : HTells B w2 v' L') (hn : Nb w v.ownBlock v'.ownBlock) (hs : HUniq L') (hk : HOks L') (hf : (L'.length : Int) ≤ room) : HTurned B g room life v L' w (w2.setCell ⟨g, 0, none⟩ v') := by
  have hgl := T.lt
  have hap : v'.ownBlock ≠ some g := by
    rcases hn with hn | hn
    · rw [hn]; exact T.apart
    · intro e; have := hn g e; omega
  have hrow : some g ≠ row := by
    rcases hr with rfl | rfl
    · exact fun e => T.apart e.symm
    · simp
  have r1 := Below.row b T.row
  have r2 : w2.heap[g]? = _ := (hg.block g (lt_of_row r1) hrow).trans r1
  refine ⟨v', ⟨rtab_set r2, ownsRow_setCell_other ho hap v', T.low, hap, hs, hk, hf, T.room1, T.room2, T.life1, T.life2⟩, ?_, hn⟩
  refine But2.setCell ?_ v'
  refine ⟨hg.os.trans b.os, hg.tape.trans b.tape, hg.output.trans b.output, Nat.le_trans b.size hg.size, fun k hk _ hkr => ?_⟩
  refine (hg.block k (Nat.lt_of_lt_of_le hk b.size) ?_).trans (b.block k hk)
  rcases hr with rfl | rfl
  · exact hkr
  · simp
/-- a list made anew stands for the row -/
theorem hturned_new {B : Nat} {w w2 : World} {g : Nat} {room life : Int} {v v' : Value} {L L' : List Hd} (T : HTab B w g room life v L) (b : Below w.heap.size w w2) (ho : HTells w.heap.size w2 v' L') (hs : HUniq L') (hk : HOks L') (hf : (L'.length : Int) ≤ room) :
    HTurned B g room life v L' w (w2.setCell ⟨g, 0, none⟩ v') := by
  refine hturned_of (row := none) T b (grown_of (Below.refl _ _) none) (.inr rfl) ?_ (.inr fun k hk => (World.ownsRow.lt ho k hk).1) hs hk hf
  have hb := T.base
  obtain ⟨hl, hx | ⟨k, cap, cur, hv, h1, hrest⟩⟩ := ho
  · exact ⟨hl, .inl hx⟩
  · exact ⟨hl, .inr ⟨k, cap, cur, hv, by omega, hrest⟩⟩
/-- a list made since w -/
def HAcc (w W : World) (V : Value) (N : List Hd) : Prop := HTells w.heap.size W V N ∧ Below w.heap.size w W
theorem hacc_new {w W : World} (b : Below w.heap.size w W) : HAcc w (W.alloc (.cells #[] 75)) (.slice (some ⟨W.heap.size, 0, none⟩) 0 0) [] :=
  ⟨World.ownsRow_made W #[] 0 b.size (by unfold maxLen; omega) rfl, alloc_then b⟩
theorem HAcc.below {w W W' : World} {V : Value} {N : List Hd} (h : HAcc w W V N) (b : Below W.heap.size W W') : HAcc w W' V N := ⟨owns_below h.1 b, bthen h.2 b⟩
theorem htells_shape {B n : Nat} {V : Value} {xs : List Value} {W : World} (h : W.ownsRow B 75 4 V n xs) (hn : ¬ V = .slice none 0 0) : ∃ r c, V = .slice (some ⟨r, 0, none⟩) n c := by
  obtain ⟨_, ⟨rfl, _⟩ | ⟨k, cap, cur, rfl, _⟩⟩ := h
  · exact absurd rfl hn
  · exact ⟨k, cap, rfl⟩
theorem hcs4_one (x : Hd) : ∀ u ∈ x.cs, u.oneCell' = true := by
  have := hcs_oneCell [x]
  rw [hcs_one] at this
  exact this
theorem src4h (w : World) (x : Hd) : ∀ j u, x.cs[j]? = some u → (w.alloc (.cells #[.int .i64 x.vid, .int .u32 x.ip, .int .u64 x.mac, .int .i64 x.at_] 75)).cell? ((⟨w.heap.size, 0, none⟩ : Addr).add j) = some u := by
  intro j u hu
  rw [Addr.add_lit, Nat.zero_add, cell_of_row _ w.heap.size j _ _ _ (heap_alloc_new w _)]
  simpa [Hd.cs] using hu
/-- an entry appended to such a list -/
theorem hp_app {ops : Array Oper} {rest : List Oper} {o : Oper} {a : Act} {Q : Exit → Act → World → Prop} (hgd : o.guard = none) (s x : Operand)
    (ho : o.op = .call { callee := .builtin .append, args := #[s, x], argTypes := #[55, 55] }) (w W : World) (v : Value) (n : Nat) (N : List Hd) (E : Hd) (hn : N.length = n) (hs : a.eval s = v) (hacc : HAcc w W v N)
    (hx : a.eval x = .slice (some ⟨W.heap.size, 0, none⟩) 1 1) (hl : n ≤ 4096)
    (h : ∀ r c W', Hid (HAcc w W' (.slice (some ⟨r, 0, none⟩) (n + 1) c) (N ++ [E])) → wpList Tryz.prog ops Q rest (a.put o.dst (.slice (some ⟨r, 0, none⟩) (n + 1) c)) W') :
    wpList Tryz.prog ops Q (o :: rest) a (W.alloc (.cells #[.int .i64 E.vid, .int .u32 E.ip, .int .u64 E.mac, .int .i64 E.at_] 75)) := by
  obtain ⟨i0, hi0, hz0, hz1, hz2⟩ := info_parts Tryz.infoHeard
  subst hn
  have hb := alloc_below W (.cells #[.int .i64 E.vid, .int .u32 E.ip, .int .u64 E.mac, .int .i64 E.at_] 75)
  have hacc' := hacc.below hb
  refine wpList_append_own_at _ hgd s x 55 ho w.heap.size 75 i0 _ 4 32 Tryz.underlying55 hi0 hz0 hz1 hz2 rfl (by decide) v N.length (hcs N) hs hacc'.1 ⟨W.heap.size, 0, none⟩ 1 1 E.cs hx rfl (src4h W E) (hcs4_one E) (by unfold maxLen; omega) (by omega) hacc'.2.size ?_
  intro v' w' ho' hg hnil _
  obtain ⟨r, c, rfl⟩ := htells_shape ho' (fun e => by have := (hnil.1 e).2; omega)
  refine h r c w' ⟨?_, ?_⟩
  · show World.ownsRow _ _ _ _ _ _ _
    rw [List.length_append, hcs_append, hcs_one]
    exact ho'
  · exact hacc'.2.grown hg hacc'.2.size (fun k hk => (World.ownsRow.lt hacc'.1 k hk).1)
/-- a row that holds other entries now -/
theorem hturned_row {B : Nat} {w w1 w2 : World} {g r n c : Nat} {room life : Int} {L L' : List Hd} (T : HTab B w g room life (.slice (some ⟨r, 0, none⟩) n c) L) (b : Below w.heap.size w w1) (hg : w1.grownBy w2 (some r))
    (ho : HTells B w2 (.slice (some ⟨r, 0, none⟩) n c) L') (hs : HUniq L') (hk : HOks L') (hf : (L'.length : Int) ≤ room) : HTurned B g room life (.slice (some ⟨r, 0, none⟩) n c) L' w w2 := by
  have hgr : some g ≠ some r := fun e => T.apart e.symm
  have r1 := Below.row b T.row
  have r2 : w2.heap[g]? = _ := (hg.block g (lt_of_row r1) hgr).trans r1
  refine ⟨_, ⟨r2, ho, T.low, T.apart, hs, hk, hf, T.room1, T.room2, T.life1, T.life2⟩, ⟨hg.os.trans b.os, hg.tape.trans b.tape, hg.output.trans b.output, Nat.le_trans b.size hg.size, fun k hk _ hkr => ?_⟩, .inl rfl⟩
  exact (hg.block k (Nat.lt_of_lt_of_le hk b.size) hkr).trans (b.block k hk)
/-- four cells of the row, behind a struct's store -/
theorem hrow_put {w : World} {r : Nat} {A D : List Hd} {x y : Hd} {R : List Value} (h : w.heap[r]? = some (.cells (hcs (A ++ y :: D) ++ R).toArray 75 (0, 0))) :
    ((((w.setCell ⟨r, A.length * 4, none⟩ (.int .i64 x.vid)).setCell ⟨r, A.length * 4 + 1, none⟩ (.int .u32 x.ip)).setCell ⟨r, A.length * 4 + 2, none⟩ (.int .u64 x.mac)).setCell ⟨r, A.length * 4 + 3, none⟩ (.int .i64 x.at_)).heap[r]? = some (.cells (hcs (A ++ x :: D) ++ R).toArray 75 (0, 0)) := by
  have h' : w.heap[r]? = some (.cells (hcs A ++ .int .i64 y.vid :: .int .u32 y.ip :: .int .u64 y.mac :: .int .i64 y.at_ :: (hcs D ++ R)).toArray 75 (0, 0)) := by
    rw [h, hcs_append, hcs_cons]; simp [Hd.cs]
  rw [put4 (hcs_length A) h', hcs_append, hcs_cons]
  simp [Hd.cs]
theorem hrow_cells {w : World} {r : Nat} {A D : List Hd} {y : Hd} {R : List Value} (h : w.heap[r]? = some (.cells (hcs (A ++ y :: D) ++ R).toArray 75 (0, 0))) :
    w.cell? ⟨r, A.length * 4, none⟩ = some (.int .i64 y.vid) ∧ w.cell? ⟨r, A.length * 4 + 1, none⟩ = some (.int .u32 y.ip) ∧ w.cell? ⟨r, A.length * 4 + 2, none⟩ = some (.int .u64 y.mac) ∧ w.cell? ⟨r, A.length * 4 + 3, none⟩ = some (.int .i64 y.at_) ∧
    w.frozen? ⟨r, A.length * 4, none⟩ = false ∧ w.frozen? ⟨r, A.length * 4 + 1, none⟩ = false ∧ w.frozen? ⟨r, A.length * 4 + 2, none⟩ = false ∧ w.frozen? ⟨r, A.length * 4 + 3, none⟩ = false := by
  refine mid4 (t := 75) (X := hcs A) (Z := hcs D ++ R) (hcs_length A) ?_
  rw [h, hcs_append, hcs_cons]; simp [Hd.cs]
theorem htime_any (n : Int) (w : World) : Calls Tryz.prog 35 #[.int .i64 n] w fun e w' => e = .returned (.bool (timeB n)) ∧ w' = w := by
  unfold timeB
  by_cases h1 : 0 ≤ n
  · by_cases h2 : n ≤ 1099511627776
    · rw [decide_eq_true h1, decide_eq_true h2]
      go_enter Tryz.func35, Tryz.ntmps35
      go_wp2
      go_ret
      exact ⟨rfl, rfl⟩
    · rw [decide_eq_true h1, decide_eq_false h2]
      go_enter Tryz.func35, Tryz.ntmps35
      go_wp2
      go_ret
      exact ⟨rfl, rfl⟩
  · rw [decide_eq_false h1]
    go_enter Tryz.func35, Tryz.ntmps35
    go_wp2
    go_ret
    exact ⟨rfl, rfl⟩
set_option maxRecDepth 100000 in
theorem hless_any (a b : Hd) (w : World) :
    Calls Tryz.prog 50 #[.agg #[.int .i64 a.vid, .int .u32 a.ip, .int .u64 a.mac, .int .i64 a.at_], .agg #[.int .i64 b.vid, .int .u32 b.ip, .int .u64 b.mac, .int .i64 b.at_]] w fun e w' => e = .returned (.bool (lessH a b)) ∧ Below w.heap.size w w' := by
  obtain ⟨v, i, m, t⟩ := a
  obtain ⟨v2, i2, m2, t2⟩ := b
  unfold lessH
  simp only
  have q0 := cells4 (heap_alloc2_old w (.cells #[.int .i64 v, .int .u32 i, .int .u64 m, .int .i64 t] 75) (.cells #[.int .i64 v2, .int .u32 i2, .int .u64 m2, .int .i64 t2] 75))
  have r0 := cells4 (heap_alloc2_new w (.cells #[.int .i64 v, .int .u32 i, .int .u64 m, .int .i64 t] 75) (.cells #[.int .i64 v2, .int .u32 i2, .int .u64 m2, .int .i64 t2] 75))
  have hB := hide (alloc_then (o := .cells #[.int .i64 v2, .int .u32 i2, .int .u64 m2, .int .i64 t2] 75) (alloc_below w (.cells #[.int .i64 v, .int .u32 i, .int .u64 m, .int .i64 t] 75)))
  by_cases h1 : t = t2
  · have e1 : (t != t2) = false := by simpa using h1
    rw [if_pos h1]
    clear h1
    by_cases h2 : v = v2
    · have e2 : (v != v2) = false := by simpa using h2
      rw [if_pos h2]
      clear h2
      go_enter Tryz.func50, Tryz.ntmps50
      go_wp2_with fail
      go_ret
      exact ⟨rfl, unhide hB⟩
    · have e2 : (v != v2) = true := by simpa using h2
      rw [if_neg h2]
      clear h2
      go_enter Tryz.func50, Tryz.ntmps50
      go_wp2_with fail
      go_ret
      exact ⟨rfl, unhide hB⟩
  · have e1 : (t != t2) = true := by simpa using h1
    rw [if_neg h1]
    clear h1
    go_enter Tryz.func50, Tryz.ntmps50
    go_wp2_with fail
    go_ret
    exact ⟨rfl, unhide hB⟩
end Go.Proofs.YtljhgehlaehgnaaGreatDoor
