/-
  What a table holds; what a call on it has turned; and the contract of ordered's drop: a key's part is taken out, if there is one.
-/
import Derived.Test.YtljhgehlaehgnaaDoorAg5
namespace Go.Proofs.YtljhgehlaehgnaaDoor
open Go.RowKit Go.Sort

/-- a table in a block of its own: room, life, and a row of parts, in memory from block B on -/
structure Tab (B : Nat) (w : World) (g : Nat) (room life : Int) (v : Value) (L : List Ent) : Prop where
  row : w.heap[g]? = some (.cells #[.int .i64 room, .int .i64 life, v] 80 (0, 0))
  own : Own B w v L
  low : B ≤ g
  apart : v.ownBlock ≠ some g
  srt : Srt L
  oks : Oks L
  fit : (L.length : Int) ≤ room
  room1 : 1 ≤ room
  room2 : room ≤ 4096
  life1 : 1 ≤ life
  life2 : life ≤ 1099511627776
theorem Tab.len {B : Nat} {w : World} {g : Nat} {room life : Int} {v : Value} {L : List Ent} (h : Tab B w g room life v L) : L.length ≤ 4096 := by
  have := h.fit; have := h.room2; omega
theorem Tab.lt {B : Nat} {w : World} {g : Nat} {room life : Int} {v : Value} {L : List Ent} (h : Tab B w g room life v L) : g < w.heap.size := lt_of_row h.row
theorem Tab.vlt {B : Nat} {w : World} {g : Nat} {room life : Int} {v : Value} {L : List Ent} (h : Tab B w g room life v L) : ∀ k, v.ownBlock = some k → B ≤ k ∧ k < w.heap.size := World.ownsRow.lt h.own
theorem Tab.below {B : Nat} {w w' : World} {g : Nat} {room life : Int} {v : Value} {L : List Ent} (h : Tab B w g room life v L) (b : Below w.heap.size w w') : Tab B w' g room life v L :=
  ⟨Below.row b h.row, h.own.below b, h.low, h.apart, h.srt, h.oks, h.fit, h.room1, h.room2, h.life1, h.life2⟩
theorem Tab.cell {B : Nat} {w : World} {g : Nat} {room life : Int} {v : Value} {L : List Ent} (h : Tab B w g room life v L) : w.cell? ⟨g, 2, none⟩ = some v := (cells3 h.row).2.2.1
/-- behind a call: the table holds these parts now; nothing else has turned but its block and the row that it owned -/
def Turned (B g : Nat) (room life : Int) (v : Value) (L' : List Ent) (w w' : World) : Prop :=
  ∃ v', Tab B w' g room life v' L' ∧ But2 g v.ownBlock w w' ∧ Nb w v.ownBlock v'.ownBlock
theorem turned_same {B : Nat} {w w' : World} {g : Nat} {room life : Int} {v : Value} {L : List Ent} (h : Tab B w g room life v L) (b : Below w.heap.size w w') : Turned B g room life v L w w' :=
  ⟨v, h.below b, But2.of b, Nb.refl _ _⟩
theorem Turned.trans {B : Nat} {w w1 w2 : World} {g : Nat} {room life : Int} {v : Value} {L1 L2 : List Ent} (h1 : Turned B g room life v L1 w w1)
    (h2 : ∀ v1, Tab B w1 g room life v1 L1 → Turned B g room life v1 L2 w1 w2) : Turned B g room life v L2 w w2 := by
  obtain ⟨v1, t1, b1, n1⟩ := h1
  obtain ⟨v2, t2, b2, n2⟩ := h2 v1 t1
  exact ⟨v2, t2, b1.trans n1 b2, n1.trans b1.size n2⟩
theorem Turned.then {B : Nat} {w w1 w2 : World} {g : Nat} {room life : Int} {v : Value} {L1 : List Ent} (h1 : Turned B g room life v L1 w w1) (b : Below w1.heap.size w1 w2) : Turned B g room life v L1 w w2 :=
  h1.trans fun _ t => turned_same t b
theorem tab_set {w : World} {g : Nat} {t : TypeId} {a b c u : Value} (h : w.heap[g]? = some (.cells #[a, b, c] t (0, 0))) : (w.setCell ⟨g, 2, none⟩ u).heap[g]? = some (.cells #[a, b, u] t (0, 0)) := by
  have := heap_setCell_same _ g 2 _ t u h
  simpa using this
theorem Own.setCell {B : Nat} {w : World} {v : Value} {L : List Ent} (h : Own B w v L) {g o : Nat} (hg : v.ownBlock ≠ some g) (u : Value) : Own B (w.setCell ⟨g, o, none⟩ u) v L := ownsRow_setCell_other h hg u
/-- a table whose row is another one now -/
theorem turned_of {B : Nat} {w w1 w2 : World} {g : Nat} {room life : Int} {v v' : Value} {L L' : List Ent} {row : Option Nat} (T : Tab B w g room life v L) (b : Below w.heap.size w w1) (hg : w1.grownBy w2 row) (hr : row = v.ownBlock ∨ row = none)
    (ho : Own B w2 v' L') (hn : Nb w v.ownBlock v'.ownBlock) (hs : Srt L') (hk : Oks L') (hf : (L'.length : Int) ≤ room) : Turned B g room life v L' w (w2.setCell ⟨g, 2, none⟩ v') := by
  have hgl := T.lt
  have hap : v'.ownBlock ≠ some g := by
    rcases hn with hn | hn
    · rw [hn]; exact T.apart
    · intro e; have := hn g e; omega
  have hrow : some g ≠ row := by
    rcases hr with rfl | rfl
    · exact fun e => T.apart e.symm
    · simp
  have r1 := Below.row b T.row
  have r2 : w2.heap[g]? = _ := (hg.block g (lt_of_row r1) hrow).trans r1
  refine ⟨v', ⟨tab_set r2, ho.setCell hap v', T.low, hap, hs, hk, hf, T.room1, T.room2, T.life1, T.life2⟩, ?_, hn⟩
  refine But2.setCell ?_ v'
  refine ⟨hg.os.trans b.os, hg.tape.trans b.tape, hg.output.trans b.output, Nat.le_trans b.size hg.size, fun k hk _ hkr => ?_⟩
  refine (hg.block k (Nat.lt_of_lt_of_le hk b.size) ?_).trans (b.block k hk)
  rcases hr with rfl | rfl
  · exact hkr
  · simp
theorem nb_of {w : World} {a : Option Nat} {r : Nat} (h : a = some r) : Nb w a (some r) := .inl h.symm

set_option maxRecDepth 100000 in
theorem drop_some (B : Nat) (L : List Ent) (v : Value) (g : Nat) (room life key : Int) (x : Ent) (w : World) (T : Tab B w g room life v L) (hx : look L key = some x) :
    Calls Tryd.prog 51 #[.pointer (some ⟨g, 2, none⟩), .int .u64 key] w fun e w' => e = .returned (.bool true) ∧ Turned B g room life v (del L key) w w' := by
  obtain ⟨A, D, rfl, hk, hA, hD⟩ := look_some T.srt hx
  rw [del_at hk hA hD]
  rcases T.own.parts with ⟨_, h⟩ | ⟨r, cap, R, rfl, hB, hr, hcap, hm, hR⟩
  · simp at h
  have hvg := T.lt
  have hc := T.len
  have F := hide (find_at B _ _ g 2 A.length key true w T.cell T.own hc (spot_some hk hA hD))
  have hil : A.length < 4096 := by simp at hc; omega
  have HT := hide T
  have hcx := T.cell
  have hgr : g ≠ r := fun e => T.apart (by rw [e]; rfl)
  have hnb : Value.ownBlock (.slice (some ⟨r, 0, none⟩) (A ++ x :: D).length cap) = some r := rfl
  have fin : Hid (∀ w1 w2, Below w.heap.size w w1 → w1.grownBy w2 (some r) → (∃ R' : List Value, w2.heap[r]? = some (.cells (cs (A ++ D) ++ R').toArray 100 (0, 0)) ∧ R'.length = R.length + 4) →
      Turned B g room life (.slice (some ⟨r, 0, none⟩) (A ++ x :: D).length cap) (A ++ D) w (w2.setCell ⟨g, 2, none⟩ (.slice (some ⟨r, 0, none⟩) (A ++ D).length cap))) := by
    intro w1 w2 b1 g2 ⟨R', r2, hR'⟩
    have hL : (A ++ D).length ≤ (A ++ x :: D).length := by simp
    exact turned_of T b1 g2 (.inl rfl) (own_of (cap := cap) hB r2 (Nat.le_trans hL hcap) hm (by rw [hR']; simp at hR ⊢; omega)) (nb_of rfl) (T.srt.sublist (by simp)) (fun e he => T.oks e (by simp at he ⊢; rcases he with h | h <;> simp [h])) (by have := T.fit; omega)
  have G := hide (fun i j n hi hj hn hc hcap hR W (h : Below w.heap.size w W) => del_part A D x r cap i j n R W (Below.row h hr) hi hj hn hc hcap hm hR)
  replace G := hide (unhide G _ _ _ rfl rfl rfl hc hcap hR)
  rw [show ((A.length + 1 : Nat) : Int) = (A.length : Int) + 1 by omega] at G
  clear T hr hx hR hc hcap
  generalize (A ++ x :: D).length = n at *
  generalize (A ++ D).length = m at *
  generalize hal : A.length = i at *
  clear hal hk hA hD hnb hB hm
  go_enter Tryd.func51, Tryd.ntmps51
  go_wp2_with fail
  refine (unhide F).mono ?_
  rintro e w1 ⟨rfl, b1⟩
  have hc1 := (b1.cell (p := ⟨g, 2, none⟩) hvg).trans hcx
  go_wp2_with fail
  refine (unhide G w1 b1).mono ?_
  rintro e w2 ⟨rfl, g2, R', r2, hR'⟩
  have T1 := (unhide HT).below b1
  have r3 := (g2.block g (lt_of_row T1.row) (by simpa using hgr)).trans T1.row
  have hfx2 := (cells3 r3).2.2.2.2.2
  have hfc2 := (cells3 r3).2.2.1
  have fin2 := hide (unhide fin w1 w2 b1 g2 ⟨R', r2, hR'⟩)
  clear r3 T1 g2 r2 G F fin HT
  go_wp2_with fail
  go_ret
  exact ⟨rfl, unhide fin2⟩
theorem drop_none (B : Nat) (L : List Ent) (v : Value) (g : Nat) (room life key : Int) (w : World) (T : Tab B w g room life v L) (hx : look L key = none) :
    Calls Tryd.prog 51 #[.pointer (some ⟨g, 2, none⟩), .int .u64 key] w fun e w' => e = .returned (.bool false) ∧ Turned B g room life v (del L key) w w' := by
  rw [del_none hx]
  have HT := hide T
  obtain ⟨A, D, rfl, hA, hD⟩ := look_none T.srt hx
  have F := hide (find_at B _ _ g 2 A.length key false w T.cell T.own T.len (spot_none hA hD))
  clear T hx
  go_enter Tryd.func51, Tryd.ntmps51
  go_wp2_with fail
  refine (unhide F).mono ?_
  rintro e w1 ⟨rfl, b1⟩
  go_wp2_with fail
  go_ret
  exact ⟨rfl, turned_same (unhide HT) b1⟩
theorem drop_any (B : Nat) (L : List Ent) (v : Value) (g : Nat) (room life key : Int) (w : World) (T : Tab B w g room life v L) :
    Calls Tryd.prog 51 #[.pointer (some ⟨g, 2, none⟩), .int .u64 key] w fun e w' => e = .returned (.bool (look L key).isSome) ∧ Turned B g room life v (del L key) w w' := by
  cases hx : look L key with
  | none => exact drop_none B L v g room life key w T hx
  | some x => exact drop_some B L v g room life key x w T hx
end Go.Proofs.YtljhgehlaehgnaaDoor
