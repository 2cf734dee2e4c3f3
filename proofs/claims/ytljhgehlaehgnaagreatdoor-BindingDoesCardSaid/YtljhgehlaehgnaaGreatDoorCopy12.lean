/-
  A copy of binding's table, and a Note on what it was copied from: the contracts.
-/
import Derived.Test.YtljhgehlaehgnaaGreatDoorBds
import Derived.Test.YtljhgehlaehgnaaGreatDoorFixed12
namespace Go.Proofs.YtljhgehlaehgnaaGreatDoor
open Go.RowKit Go.Sort

set_option maxRecDepth 100000 in
theorem note_put_gen {W : World} {g p : Nat} {vid now op s i t j key c : Int} {P : World → Prop} (hrow : W.heap[g]? = some (.cells #[.iface 47 (.pointer (some ⟨p, 0, none⟩)), .pointer (some ⟨p, 0, none⟩)] 49 (0, 0)))
    (C : Hid (∀ W, Calls Tryz.prog 16 #[.int .i64 vid] W fun e w' => e = .returned (.bool true) ∧ w' = W))
    (K : Hid (∀ W, Calls Tryz.prog 17 #[.agg #[.int .i64 op, .int .u64 s, .int .u32 i, .int .u64 t, .int .u32 j]] W fun e w' => e = .returned (.int .i64 0) ∧ Below W.heap.size W w'))
    (V : Hid (∀ W, Calls Tryz.prog 19 #[.int .i64 vid, .int .u32 i] W fun e w' => e = .returned (.int .u64 key) ∧ w' = W)) (hi : (i != 0) = true)
    (G : Hid (∀ W2, Below (W.alloc (.cells #[.int .i64 op, .int .u64 s, .int .u32 i, .int .u64 t, .int .u32 j] 35)).heap.size (W.alloc (.cells #[.int .i64 op, .int .u64 s, .int .u32 i, .int .u64 t, .int .u32 j] 35)) W2 → Calls Tryz.prog 18 #[.pointer (some ⟨p, 0, none⟩), .int .u64 key, .int .u64 s, .int .i64 now] W2 fun e W' => e = .returned (.int .i64 c) ∧ P W' ∧ Stays (W.alloc (.cells #[.int .i64 op, .int .u64 s, .int .u32 i, .int .u64 t, .int .u32 j] 35)) W')) :
    Calls Tryz.prog 7 #[.pointer (some ⟨g, 0, none⟩), .int .i64 vid, .agg #[.int .i64 op, .int .u64 s, .int .u32 i, .int .u64 t, .int .u32 j], .int .i64 now] W fun e W' => e = .returned (.bool (c == 0)) ∧ P W' ∧ Stays (W.alloc (.cells #[.int .i64 op, .int .u64 s, .int .u32 i, .int .u64 t, .int .u32 j] 35)) W' := by
  have r0 := heap_alloc_new W (.cells #[.int .i64 op, .int .u64 s, .int .u32 i, .int .u64 t, .int .u32 j] 35)
  have b0 := alloc_below W (.cells #[.int .i64 op, .int .u64 s, .int .u32 i, .int .u64 t, .int .u32 j] 35)
  have G1 := hide (Below.row b0 hrow)
  have R1 := hide r0
  generalize hW1 : W.alloc (.cells #[.int .i64 op, .int .u64 s, .int .u32 i, .int .u64 t, .int .u32 j] 35) = W1 at *
  have keepG : Hid (∀ W2, Below W1.heap.size W1 W2 → W2.cell? ⟨g, 1, none⟩ = some (.pointer (some ⟨p, 0, none⟩)) ∧ W2.cell? ⟨W.heap.size, 0, none⟩ = some (.int .i64 op) ∧ W2.cell? ⟨W.heap.size, 1, none⟩ = some (.int .u64 s) ∧ W2.cell? ⟨W.heap.size, 2, none⟩ = some (.int .u32 i) ∧ W2.cell? ⟨W.heap.size, 3, none⟩ = some (.int .u64 t) ∧ W2.cell? ⟨W.heap.size, 4, none⟩ = some (.int .u32 j)) := fun W2 h => by
    have c := cells5 (Below.row h (unhide R1))
    exact ⟨(cells2 (Below.row h (unhide G1))).2.1, c.1, c.2.1, c.2.2.1, c.2.2.2.1, c.2.2.2.2.1⟩
  have keepS : Hid (∀ W2, Stays W1 W2 → W2.cell? ⟨g, 1, none⟩ = some (.pointer (some ⟨p, 0, none⟩)) ∧ W2.cell? ⟨W.heap.size, 0, none⟩ = some (.int .i64 op) ∧ W2.cell? ⟨W.heap.size, 1, none⟩ = some (.int .u64 s) ∧ W2.cell? ⟨W.heap.size, 2, none⟩ = some (.int .u32 i) ∧ W2.cell? ⟨W.heap.size, 3, none⟩ = some (.int .u64 t) ∧ W2.cell? ⟨W.heap.size, 4, none⟩ = some (.int .u32 j)) := fun W2 h => by
    have c := cells5 (h _ _ rfl (unhide R1))
    exact ⟨(cells2 (h _ _ rfl (unhide G1))).2.1, c.1, c.2.1, c.2.2.1, c.2.2.2.1, c.2.2.2.2.1⟩
  clear r0 b0 hrow
  go_enter Tryz.func7, Tryz.ntmps7
  go_wp2_with fail
  clear hW1
  go_region_held3 (fun w' => w'.cell? ⟨g, 1, none⟩ = some (.pointer (some ⟨p, 0, none⟩)) ∧ w'.cell? ⟨W.heap.size, 0, none⟩ = some (.int .i64 op) ∧ w'.cell? ⟨W.heap.size, 1, none⟩ = some (.int .u64 s) ∧ w'.cell? ⟨W.heap.size, 2, none⟩ = some (.int .u32 i) ∧ w'.cell? ⟨W.heap.size, 3, none⟩ = some (.int .u64 t) ∧ w'.cell? ⟨W.heap.size, 4, none⟩ = some (.int .u32 j)) ((first | exact unhide keepS _ (unhide S3) | (refine unhide keepG _ ?_; (repeat (first | (with_reducible exact Below.refl _ _) | (with_reducible refine Below.drew ?_) | (with_reducible refine bthen ?_ B2))); done)))
    ((first | (go_at_call 16; refine (unhide C _).mono ?_; rintro e2 w4 ⟨rfl, rfl⟩) | (go_at_call 17; refine (unhide K _).mono ?_; rintro e2 w2 ⟨rfl, B2⟩) | (go_at_call 19; refine (unhide V _).mono ?_; rintro e2 w5 ⟨rfl, rfl⟩) | (go_at_call 18; refine (unhide G _ ?_).mono ?_; (repeat (first | (with_reducible exact Below.refl _ _) | (with_reducible refine Below.drew ?_) | (with_reducible refine bthen ?_ B2))); rintro e3 w3 ⟨rfl, h3, s3⟩; have H3 := hide h3; have S3 := hide s3; clear h3 s3)))
  all_goals
    go_wp2_with fail
    go_ret
    exact ⟨rfl, unhide H3, unhide S3⟩
theorem twin_keep {B p g : Nat} {W1 W2 : World} {room life : Int} {v' : Value} {L : List Ent} {r : Option Nat} (T : Tab B W1 p room life v' L) (b : But2 g r W1 W2) (hpg : p ≠ g) (hpr : some p ≠ r) (hvg : v'.ownBlock ≠ some g) (hvr : v'.ownBlock = none ∨ v'.ownBlock ≠ r) : Tab B W2 p room life v' L :=
  ⟨b.row hpg hpr T.row, own_row T.own b hvg hvr, T.low, T.apart, T.srt, T.oks, T.fit, T.room1, T.room2, T.life1, T.life2⟩
/-- a table of ages, and a copy of it that was made since W -/
structure Copied (w : World) (g p g2 p2 : Nat) (room life : Int) (L : List Ent) (W W' : World) : Prop where
  row : W'.heap[g]? = some (.cells #[.iface 47 (.pointer (some ⟨p, 0, none⟩)), .pointer (some ⟨p, 0, none⟩)] 49 (0, 0))
  row2 : W'.heap[g2]? = some (.cells #[.iface 47 (.pointer (some ⟨p2, 0, none⟩)), .pointer (some ⟨p2, 0, none⟩)] 49 (0, 0))
  low2 : w.heap.size ≤ g2
  tabs : ∃ v v', Tab w.heap.size W' p room life v L ∧ Tab w.heap.size W' p2 room life v' L ∧ p < W.heap.size ∧ W.heap.size ≤ p2 ∧ (∀ k, v.ownBlock = some k → k < W.heap.size) ∧ ∀ k, v'.ownBlock = some k → W.heap.size ≤ k
  all : Below w.heap.size w W'
  grew : Below W.heap.size W W'
theorem Copied.below {w : World} {g p g2 p2 : Nat} {room life : Int} {L : List Ent} {W W' W2 : World} (h : Copied w g p g2 p2 room life L W W') (b : Below W'.heap.size W' W2) : Copied w g p g2 p2 room life L W W2 := by
  obtain ⟨v, v', T, T', h1, h2, h3, h4⟩ := h.tabs
  exact ⟨Below.row b h.row, Below.row b h.row2, h.low2, ⟨v, v', T.below b, T'.below b, h1, h2, h3, h4⟩, bthen h.all b, bthen h.grew b⟩
theorem bcopy_any {w W : World} {g p : Nat} {room life : Int} {L : List Ent} (hB : Bnd w g p room life L W) :
    Calls Tryz.prog 6 #[.pointer (some ⟨g, 0, none⟩)] W fun e W' => ∃ g2 p2, e = .returned (.pointer (some ⟨g2, 0, none⟩)) ∧ Copied w g p g2 p2 room life L W W' := by
  obtain ⟨hb, v, T⟩ := hB.has
  have C := hide (copy_any _ L v p room life W T)
  have O := hide (fun p W => bof_any p W)
  have f1 := hB.ptr.2
  have hgl := hB.lt
  have HB := hide hB
  have HT := hide T
  clear hB T hb
  go_enter Tryz.func6, Tryz.ntmps6
  go_wp2_with fail
  refine (unhide C).mono ?_
  rintro e w1 ⟨p2, rfl, v', T', b1, h1, h2⟩
  have HT' := hide T'
  have B1 := hide b1
  clear T' b1 C f1
  go_wp2_with fail
  refine (unhide O _ _).mono ?_
  rintro e w2 ⟨rfl, rfl⟩
  have FIN := hide (show Copied w g p w1.heap.size p2 room life L W (w1.alloc (.cells #[.iface 47 (.pointer (some ⟨p2, 0, none⟩)), .pointer (some ⟨p2, 0, none⟩)] 49)) from
    have ba := alloc_below w1 (.cells #[.iface 47 (.pointer (some ⟨p2, 0, none⟩)), .pointer (some ⟨p2, 0, none⟩)] 49)
    have b2 := bthen (unhide B1) ba
    ⟨Below.row b2 (unhide HB).row, heap_alloc_new w1 _, Nat.le_trans (unhide HB).has.1.size (unhide B1).size, ⟨v, v', (unhide HT).below b2, (unhide HT').below ba, (unhide HT).lt, h1, fun k hk => ((unhide HT).vlt k hk).2, h2⟩, bthen (unhide HB).has.1 b2, b2⟩)
  clear HB HT HT' h1 h2
  go_wp2_with fail
  go_ret
  exact ⟨_, _, rfl, unhide FIN⟩
/-- a Note on what was copied leaves the copy as it was -/
theorem was_noted {w W0 W : World} {g p g2 p2 : Nat} {room life : Int} {L : List Ent} (h : Copied w g p g2 p2 room life L W0 W) (hn : NF L) :
    Calls Tryz.prog 7 #[.pointer (some ⟨g, 0, none⟩), .int .i64 9, .agg #[.int .i64 2, .int .u64 6, .int .u32 167772162, .int .u64 0, .int .u32 0], .int .i64 5] W fun e W' => (∃ b, e = .returned (.bool b)) ∧ Bnd w g2 p2 room life L W' ∧ Stays W W' := by
  have C := hide (fun W => isVlan_any 9 W)
  rw [show vlanB 9 = true from rfl] at C
  have K : Hid (∀ W, Calls Tryz.prog 17 #[.agg #[.int .i64 2, .int .u64 6, .int .u32 167772162, .int .u64 0, .int .u32 0]] W fun e w' => e = .returned (.int .i64 0) ∧ Below W.heap.size W w') := fun W => arpCheck_any tellsA W (by unfold Ar.fits tellsA; simp)
  have V : Hid (∀ W, Calls Tryz.prog 19 #[.int .i64 9, .int .u32 167772162] W fun e w' => e = .returned (.int .u64 38822477826) ∧ w' = W) := fun W => bkeyOf_at 9 167772162 W (by omega) (by omega)
  have b0 := alloc_below W (.cells #[.int .i64 2, .int .u64 6, .int .u32 167772162, .int .u64 0, .int .u32 0] 35)
  refine (note_put_gen (p := p) (c := (putP room life L ⟨38822477826, 6, 5, false⟩).1) (P := fun W' => Bnd w g2 p2 room life L W') h.row C K V rfl (fun W2 b => ?_)).mono fun e W' ⟨h1, h2, h3⟩ => ⟨⟨_, h1⟩, h2, (Stays.of b0).trans h3⟩
  have h2 := h.below (bthen b0 b)
  obtain ⟨v, v', T, T', q1, q2, q3, q4⟩ := h2.tabs
  refine (put_any _ L v p room life 38822477826 6 5 W2 T (by omega) (by omega)).mono fun e W' ⟨e1, t⟩ => ⟨e1, ?_, (Stays.of b).trans (t.stays T)⟩
  have hs := t.stays T
  have hh := (Has.turned h2.all T t).1
  obtain ⟨v3, T3, bb, _⟩ := t
  refine ⟨hs _ _ rfl h2.row2, ⟨hh.1, v', twin_keep T' bb (by omega) (fun e => ?_) (fun e => ?_) ?_⟩, h2.low2, hn⟩
  · have := q3 p2 e.symm; omega
  · have := q4 p e; omega
  · cases ho : v'.ownBlock with
    | none => exact .inl rfl
    | some k => exact .inr fun e => by have h1 := q4 k ho; have h2 := q3 k e.symm; omega
end Go.Proofs.YtljhgehlaehgnaaGreatDoor
