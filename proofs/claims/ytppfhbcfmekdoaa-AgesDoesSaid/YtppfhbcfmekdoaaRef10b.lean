/-
  The document's table: what its row holds; what a call on it has turned; the contracts of gangwayref10's Old and place.
-/
import Derived.Test.YtppfhbcfmekdoaaBegun10
import Derived.Test.YtppfhbcfmekdoaaAgPlain3
namespace Go.Proofs.Ytppfhbcfmekdoaa
open Go.RowKit Go.Sort

theorem Tells.parts {B : Nat} {w : World} {v : Value} {L : List Ent} (h : Tells B w v L) :
    (v = .slice none 0 0 ∧ L = []) ∨ ∃ r cap R, v = .slice (some ⟨r, 0, none⟩) L.length cap ∧ B ≤ r ∧ w.heap[r]? = some (.cells (cs L ++ R).toArray 41 (0, 0)) ∧ L.length ≤ cap ∧ cap ≤ maxLen ∧ L.length * 4 + R.length = cap * 4 := by
  obtain ⟨hl, ⟨rfl, h0⟩ | ⟨r, cap, cur, rfl, hB, hr, h1, h2, h3, h4⟩⟩ := h
  · exact .inl ⟨rfl, List.length_eq_zero_iff.1 h0⟩
  · refine .inr ⟨r, cap, cur.toList.drop (L.length * 4), rfl, hB, ?_, h1, h2, ?_⟩
    · rw [hr]
      congr
      rw [← h4, List.take_append_drop]
    · have hc : cur.toList.length = cap * 4 := by simpa using h3
      rw [List.length_drop, hc]
      have := Nat.mul_le_mul_right 4 h1
      omega
theorem tells_of {B : Nat} {w : World} {L : List Ent} {r cap : Nat} {R : List Value} (hB : B ≤ r) (hr : w.heap[r]? = some (.cells (cs L ++ R).toArray 41 (0, 0))) (h1 : L.length ≤ cap) (h2 : cap ≤ maxLen) (h3 : L.length * 4 + R.length = cap * 4) :
    Tells B w (.slice (some ⟨r, 0, none⟩) L.length cap) L := by
  refine ⟨cs_length L, .inr ⟨r, cap, _, rfl, hB, hr, h1, h2, ?_, ?_⟩⟩
  · simp [cs_length]; omega
  · rw [List.take_append_of_le_length (by rw [cs_length]; exact Nat.le_refl _), List.take_of_length_le (by rw [cs_length]; exact Nat.le_refl _)]
theorem erow_at {w : World} {r : Nat} {L : List Ent} {R : List Value} (hr : w.heap[r]? = some (.cells (cs L ++ R).toArray 41 (0, 0))) (j : Nat) (h : j < L.length) (t : Nat) (ht : t < 4) : w.cell? ⟨r, j * 4 + t, none⟩ = (L[j]).cs[t]? := by
  rw [cell_of_row w r (j * 4 + t) _ _ _ hr, List.getElem?_toArray, List.getElem?_append_left (by rw [cs_length]; omega), cs_get L j h t ht]
theorem erow_of {w : World} {r : Nat} {L : List Ent} {R : List Value} (hr : w.heap[r]? = some (.cells (cs L ++ R).toArray 41 (0, 0))) : Prow w r L :=
  ⟨fun j h => erow_at hr j h 0 (by omega), fun j h => erow_at hr j h 1 (by omega), fun j h => erow_at hr j h 2 (by omega), fun j h => erow_at hr j h 3 (by omega)⟩
/-- a row of entries, as a loop reads it: no row, or one in a block of its own -/
def Rrow (W : World) (ao : Option Addr) (n : Nat) (M : List Ent) : Prop := M.length = n ∧ (0 < n → ∃ r, ao = some ⟨r, 0, none⟩ ∧ r < W.heap.size ∧ Prow W r M)
theorem Rrow.below {W W' : World} {ao : Option Addr} {n : Nat} {M : List Ent} (h : Rrow W ao n M) (b : Below W.heap.size W W') : Rrow W' ao n M := by
  refine ⟨h.1, fun hn => ?_⟩
  obtain ⟨r, h1, h2, h3⟩ := h.2 hn
  exact ⟨r, h1, Nat.lt_of_lt_of_le h2 b.size, h3.below b⟩
theorem Tells.rrow {B : Nat} {w : World} {v : Value} {L : List Ent} (h : Tells B w v L) : ∃ ao cap, v = .slice ao L.length cap ∧ L.length ≤ cap ∧ Rrow w ao L.length L := by
  rcases h.parts with ⟨rfl, rfl⟩ | ⟨r, cap, R, rfl, _, hr, hc, _⟩
  · exact ⟨none, 0, rfl, Nat.le_refl _, rfl, fun h => absurd h (by simp)⟩
  · exact ⟨_, cap, rfl, hc, rfl, fun _ => ⟨r, rfl, lt_of_row hr, erow_of hr⟩⟩
theorem RTab.lt {B : Nat} {w : World} {g : Nat} {room life : Int} {v : Value} {M : List Ent} (h : RTab B w g room life v M) : g < w.heap.size := lt_of_row h.row
theorem RTab.cells {B : Nat} {w : World} {g : Nat} {room life : Int} {v : Value} {M : List Ent} (h : RTab B w g room life v M) : w.cell? ⟨g, 0, none⟩ = some v ∧ w.cell? ⟨g, 1, none⟩ = some (.int .i64 room) ∧ w.cell? ⟨g, 2, none⟩ = some (.int .i64 life) :=
  ⟨(cells3 h.row).1, (cells3 h.row).2.1, (cells3 h.row).2.2.1⟩
theorem RTab.len {B : Nat} {w : World} {g : Nat} {room life : Int} {v : Value} {M : List Ent} (h : RTab B w g room life v M) : M.length ≤ 4096 := by
  have := h.fit; have := h.room2; omega
theorem RTab.base {B : Nat} {w : World} {g : Nat} {room life : Int} {v : Value} {M : List Ent} (h : RTab B w g room life v M) : B ≤ w.heap.size := by
  have := h.low; have := h.lt; omega
theorem RTab.vlt {B : Nat} {w : World} {g : Nat} {room life : Int} {v : Value} {M : List Ent} (h : RTab B w g room life v M) : ∀ k, v.ownBlock = some k → B ≤ k ∧ k < w.heap.size := World.ownsRow.lt h.own
/-- behind a call: the document's table holds these entries now; nothing else has turned but its block and the row that it owned -/
def RTurned (B g : Nat) (room life : Int) (v : Value) (M' : List Ent) (w w' : World) : Prop :=
  ∃ v', RTab B w' g room life v' M' ∧ But2 g v.ownBlock w w' ∧ Nb w v.ownBlock v'.ownBlock
theorem rturned_same {B : Nat} {w w' : World} {g : Nat} {room life : Int} {v : Value} {M : List Ent} (h : RTab B w g room life v M) (b : Below w.heap.size w w') : RTurned B g room life v M w w' :=
  ⟨v, h.below b, But2.of b, Nb.refl _ _⟩
theorem RTurned.trans {B : Nat} {w w1 w2 : World} {g : Nat} {room life : Int} {v : Value} {L1 L2 : List Ent} (h1 : RTurned B g room life v L1 w w1)
    (h2 : ∀ v1, RTab B w1 g room life v1 L1 → RTurned B g room life v1 L2 w1 w2) : RTurned B g room life v L2 w w2 := by
  obtain ⟨v1, t1, b1, n1⟩ := h1
  obtain ⟨v2, t2, b2, n2⟩ := h2 v1 t1
  exact ⟨v2, t2, b1.trans n1 b2, n1.trans b1.size n2⟩
theorem RTurned.then {B : Nat} {w w1 w2 : World} {g : Nat} {room life : Int} {v : Value} {L1 : List Ent} (h1 : RTurned B g room life v L1 w w1) (b : Below w1.heap.size w1 w2) : RTurned B g room life v L1 w w2 :=
  h1.trans fun _ t => rturned_same t b
theorem rtab_set {w : World} {g : Nat} {t : TypeId} {a b c u : Value} (h : w.heap[g]? = some (.cells #[a, b, c] t (0, 0))) : (w.setCell ⟨g, 0, none⟩ u).heap[g]? = some (.cells #[u, b, c] t (0, 0)) := by
  have := heap_setCell_same _ g 0 _ t u h
  simpa using this
/-- a table whose row is another one now -/
theorem rturned_of {B : Nat} {w w1 w2 : World} {g : Nat} {room life : Int} {v v' : Value} {L L' : List Ent} {row : Option Nat} (T : RTab B w g room life v L) (b : Below w.heap.size w w1) (hg : w1.grownBy w2 row) (hr : row = v.ownBlock ∨ row = none)
    (ho : Tells B w2 v' L') (hn : Nb w v.ownBlock v'.ownBlock) (hs : Uniq L') (hk : Oks L') (hf : (L'.length : Int) ≤ room) : RTurned B g room life v L' w (w2.setCell ⟨g, 0, none⟩ v') := by
  have hgl := T.lt
  have hap : v'.ownBlock ≠ some g := by
    rcases hn with hn | hn
    · rw [hn]; exact T.apart
    · intro e; have := hn g e; omega
  have hrow : some g ≠ row := by
    rcases hr with rfl | rfl
    · exact fun e => T.apart e.symm
    · simp
  have r1 := Below.row b T.row
  have r2 : w2.heap[g]? = _ := (hg.block g (lt_of_row r1) hrow).trans r1
  refine ⟨v', ⟨rtab_set r2, ownsRow_setCell_other ho hap v', T.low, hap, hs, hk, hf, T.room1, T.room2, T.life1, T.life2⟩, ?_, hn⟩
  refine But2.setCell ?_ v'
  refine ⟨hg.os.trans b.os, hg.tape.trans b.tape, hg.output.trans b.output, Nat.le_trans b.size hg.size, fun k hk _ hkr => ?_⟩
  refine (hg.block k (Nat.lt_of_lt_of_le hk b.size) ?_).trans (b.block k hk)
  rcases hr with rfl | rfl
  · exact hkr
  · simp
/-- a list made anew stands for the row -/
theorem rturned_new {B : Nat} {w w2 : World} {g : Nat} {room life : Int} {v v' : Value} {L L' : List Ent} (T : RTab B w g room life v L) (b : Below w.heap.size w w2) (ho : Tells w.heap.size w2 v' L') (hs : Uniq L') (hk : Oks L') (hf : (L'.length : Int) ≤ room) :
    RTurned B g room life v L' w (w2.setCell ⟨g, 0, none⟩ v') := by
  refine rturned_of (row := none) T b (grown_of (Below.refl _ _) none) (.inr rfl) ?_ (.inr fun k hk => (World.ownsRow.lt ho k hk).1) hs hk hf
  have hb := T.base
  obtain ⟨hl, hx | ⟨k, cap, cur, hv, h1, hrest⟩⟩ := ho
  · exact ⟨hl, .inl hx⟩
  · exact ⟨hl, .inr ⟨k, cap, cur, hv, by omega, hrest⟩⟩
set_option maxRecDepth 100000 in
theorem rold_any (g : Nat) (life now : Int) (e : Ent) (w : World) (hg : w.cell? ⟨g, 2, none⟩ = some (.int .i64 life)) (he : e.ok) (h1 : 1 ≤ life) (h2 : life ≤ 1099511627776) :
    Calls Try.prog 50 #[.pointer (some ⟨g, 0, none⟩), .agg #[.int .u64 e.key, .int .u64 e.val, .int .i64 e.at_, .bool e.fix], .int .i64 now] w fun x w' => x = .returned (.bool (oldE life now e)) ∧ Below w.heap.size w w' := by
  obtain ⟨key, val, at_, fix⟩ := e
  have h3 := he.2.2.2.2.1
  have h4 := he.2.2.2.2.2.1
  clear he
  unfold oldE
  simp only at h3 h4 ⊢
  have hgl := block_lt_of_cell hg
  have hg' := ((alloc_below w (.cells #[.int .u64 key, .int .u64 val, .int .i64 at_, .bool fix] 41)).cell (p := ⟨g, 2, none⟩) hgl).trans hg
  have hB := hide (alloc_below w (.cells #[.int .u64 key, .int .u64 val, .int .i64 at_, .bool fix] 41))
  clear hg
  cases fix with
  | true =>
    go_enter Try.func50, Try.ntmps50
    go_wp2_with fail
    go_quiet (fail)
    go_wp2_with fail
    go_ret
    exact ⟨rfl, drewN_below (unhide hB) _⟩
  | false =>
    have hw : IntKind.i64.wrap (at_ + life) = at_ + life := by rw [IntKind.wrap_i64]; omega
    by_cases h : at_ + life ≤ now
    · have hd : decide (at_ + life ≤ now) = true := decide_eq_true h
      rw [hd]
      go_enter Try.func50, Try.ntmps50
      go_wp2_with fail
      go_quiet (fail)
      go_wp2_with fail
      go_ret
      exact ⟨rfl, drewN_below (unhide hB) _⟩
    · have hd : decide (at_ + life ≤ now) = false := decide_eq_false h
      rw [hd]
      go_enter Try.func50, Try.ntmps50
      go_wp2_with fail
      go_quiet (fail)
      go_wp2_with fail
      go_ret
      exact ⟨rfl, drewN_below (unhide hB) _⟩
set_option maxRecDepth 100000 in
theorem rplace_at (B : Nat) (M : List Ent) (v : Value) (g q : Nat) (room life key z : Int) (w : World) (T : RTab B w g room life v M) (hq : q ≤ M.length) (h1 : ∀ j (h : j < M.length), j < q → (M[j]).key ≠ key) (h2 : ∀ h : q < M.length, (M[q]).key = key) (hz : z = if q < M.length then (q : Int) else -1) :
    Calls Try.prog 48 #[.pointer (some ⟨g, 0, none⟩), .int .u64 key] w fun e w' => e = .returned (.int .i64 z) ∧ w' = w := by
  obtain ⟨ao, cap, rfl, hc, hrr⟩ := T.own.rrow
  have hgl := T.lt
  have hl := T.len
  have hcx := T.cells.1
  have HR := hide hrr
  have H1 := hide h1
  have H2 := hide h2
  have HZ := hide hz
  clear T hrr h1 h2 hz
  go_enter Try.func48, Try.ntmps48
  go_wp2_with fail
  go_loopw [5] (fun a wr => ∃ k : Nat, a = .int .i64 k ∧ k ≤ q ∧ k ≤ M.length ∧ wr = w) (fun a _ => M.length - (intOf a).toNat)
  case atStart => exact ⟨0, rfl, by omega, by omega, by trivial⟩
  case round =>
    obtain ⟨k, rfl, hkq, hkl, rfl⟩ := hrel
    by_cases hlt : k < M.length
    · obtain ⟨r, rfl, hr, hp⟩ := (unhide HR).2 (by omega)
      have e0 := hp.at0 k hlt
      have q1 := hide (fun x => unhide H1 k hlt x)
      have q2 := hide (fun (x : k = q) => by subst x; exact unhide H2 hlt : k = q → (M[k]).key = key)
      clear hp
      generalize (M[k]).key = K at e0 q1 q2
      by_cases hkk : k = q
      · have hK : K = key := unhide q2 hkk
        have hz : z = (k : Int) := by rw [unhide HZ, if_pos (by omega), hkk]
        subst hz hK
        clear q1 q2 hkk
        go_wp2_with fail
        go_ret
        exact ⟨rfl, rfl⟩
      · have hK : ¬ K = key := unhide q1 (by omega)
        have hK' : decide (K = key) = false := decide_eq_false hK
        clear q1 q2
        go_wp2_with fail
        go_roundw
        case rel => exact ⟨k + 1, by go_num, by omega, by omega, by trivial⟩
        case measure => simp [intOf]; omega
    · have hz : z = -1 := by rw [unhide HZ, if_neg (by omega)]
      subst hz
      go_wp2_with fail
      go_ret
      first | exact ⟨rfl, rfl⟩ | exact ⟨rfl, trivial⟩
/-- where a key stands, in no order -/
theorem mlook_some {M : List Ent} {k : Int} {e : Ent} (hu : Uniq M) (h : look M k = some e) : ∃ A D, M = A ++ e :: D ∧ e.key = k ∧ (∀ x ∈ A, x.key ≠ k) ∧ (∀ x ∈ D, x.key ≠ k) := by
  obtain ⟨A, D, hL, hA⟩ := (List.find?_eq_some_iff_append.1 h).2
  have hk : e.key = k := by simpa using (List.find?_eq_some_iff_append.1 h).1
  subst hL
  refine ⟨A, D, rfl, hk, ?_, ?_⟩
  · intro x hx
    rw [← hk]
    exact (List.pairwise_append.1 hu).2.2 x hx e (by simp)
  · intro x hx
    rw [← hk]
    exact fun e2 => (List.pairwise_cons.1 (List.pairwise_append.1 hu).2.1).1 x hx e2.symm
theorem rplace_some (B : Nat) (A D : List Ent) (x : Ent) (v : Value) (g : Nat) (room life key : Int) (w : World) (T : RTab B w g room life v (A ++ x :: D)) (hk : x.key = key) (hA : ∀ y ∈ A, y.key ≠ key) :
    Calls Try.prog 48 #[.pointer (some ⟨g, 0, none⟩), .int .u64 key] w fun e w' => e = .returned (.int .i64 (A.length : Int)) ∧ w' = w := by
  refine rplace_at B _ v g A.length room life key _ w T (by simp) ?_ ?_ ?_
  · intro j h hj
    rw [List.getElem_append_left hj]
    exact hA _ (List.getElem_mem _)
  · intro h
    simp [hk]
  · rw [if_pos (by simp)]
theorem rplace_none (B : Nat) (M : List Ent) (v : Value) (g : Nat) (room life key : Int) (w : World) (T : RTab B w g room life v M) (h : look M key = none) :
    Calls Try.prog 48 #[.pointer (some ⟨g, 0, none⟩), .int .u64 key] w fun e w' => e = .returned (.int .i64 (-1)) ∧ w' = w := by
  refine rplace_at B _ v g M.length room life key _ w T (Nat.le_refl _) ?_ ?_ ?_
  · intro j h1 _
    exact look_none_iff.1 h _ (List.getElem_mem _)
  · intro h
    exact absurd h (by omega)
  · rw [if_neg (by omega)]
end Go.Proofs.Ytppfhbcfmekdoaa
