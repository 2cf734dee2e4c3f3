/-
  The contracts of slices.Clone of parts, ordered's copied and Table's Copy: another one in the same state, in memory of its own.
-/
import Derived.Test.YtppfhbcfmekdoaaAg21
namespace Go.Proofs.Ytppfhbcfmekdoaa
open Go.RowKit Go.Sort

/-- what a clone is -/
def Cloned (L : List Ent) (w : World) (a : Option Addr) (m c : Nat) (w' : World) : Prop := Own w.heap.size w' (.slice a m c) L ∧ Below w.heap.size w w'
set_option maxRecDepth 100000 in
theorem clone_nil (w : World) : Calls Try.prog 42 #[.slice none 0 0] w fun e w' => ∃ a m c, e = .returned (.slice a m c) ∧ Cloned [] w a m c w' := by
  have he : ∀ W, (binOp .eql 59 (.slice none 0 0) (.slice none 0 0)).run Try.prog W = .ok (.bool true) W := fun W => Lib.run_eql_slice_nil (P := Try.prog) W 59 73 none 0 0 0 0 Try.underlying59
  go_enter Try.func42, Try.ntmps42
  go_wp2
  go_ret
  exact ⟨none, 0, 0, rfl, World.ownsRow_nil _ _ _ _, Below.refl _ _⟩
set_option maxRecDepth 100000 in
theorem clone_at (L : List Ent) (r cap n : Nat) (R : List Value) (w : World) (hr : w.heap[r]? = some (.cells (cs L ++ R).toArray 73 (0, 0))) (hn : L.length = n) (hc : n ≤ 4096) :
    Calls Try.prog 42 #[.slice (some ⟨r, 0, none⟩) n cap] w fun e w' => ∃ a m c, e = .returned (.slice a m c) ∧ Cloned L w a m c w' := by
  obtain ⟨i0, hi0, hz0, hz1, hz2⟩ := info_parts Try.infoPart
  have hb := alloc_below w (.cells #[] 73)
  have hr2 := Below.row hb hr
  have hsrc : Hid (∀ j u, (cs L)[j]? = some u → (w.alloc (.cells #[] 73)).cell? ((⟨r, 0, none⟩ : Addr).add j) = some u) := by
    intro j u hu
    have ht : j < (cs L).length := (List.getElem?_eq_some_iff.1 hu).1
    rw [Addr.add_lit, Nat.zero_add, cell_of_row _ r _ _ _ _ hr2, List.getElem?_toArray, List.getElem?_append_left ht]
    exact hu
  have hlen : Hid ((cs L).length = n * 4) := by show _ = _; rw [cs_length, hn]
  have hown : Hid ((w.alloc (.cells #[] 73)).ownsRow w.heap.size 73 4 (.slice (some ⟨w.heap.size, 0, none⟩) 0 0) 0 []) := World.ownsRow_made w #[] 0 (Nat.le_refl _) (by unfold maxLen; omega) rfl
  have HN := hide hn
  have HB := hide hb
  have hsz : w.heap.size ≤ (w.alloc (.cells #[] 73)).heap.size := hb.size
  clear hr hr2 hn hb
  have he : ∀ W, (binOp .eql 59 (.slice (some ⟨r, 0, none⟩) n cap) (.slice none 0 0)).run Try.prog W = .ok (.bool false) W := fun W => Lib.run_eql_slice_nil (P := Try.prog) W 59 73 (some ⟨r, 0, none⟩) n cap 0 0 Try.underlying59
  go_enter Try.func42, Try.ntmps42
  go_wp2_with (at_builtin; refine wpList_append_own_at _ rfl (.tmp 5) (.tmp 6) 59 rfl w.heap.size 73 i0 _ 4 32 Try.underlying59 hi0 hz0 hz1 hz2 rfl (by decide) _ 0 [] rfl (unhide hown) ⟨r, 0, none⟩ n cap (cs L) rfl (unhide hlen) (unhide hsrc) (cs_oneCell L) (by unfold maxLen; omega) (by omega) hsz ?_; intro v' w1 ho1 hg1 hn1 hat1; have H1 := hide ho1; have H2 := hide hg1; clear ho1 hg1 hn1 hat1)
  go_ret
  have h1 := unhide H1
  have hown' : Own w.heap.size w1 v' L := by
    show World.ownsRow _ _ _ _ _ _ _
    rw [unhide HN]
    simpa using h1
  have hb1 : Below w.heap.size w w1 := (unhide HB).grown (unhide H2) hsz (fun k hk => by have e : some w.heap.size = some k := hk; have e2 : w.heap.size = k := Option.some.inj e; exact Nat.le_of_eq e2)
  rcases hown'.parts with ⟨rfl, rfl⟩ | ⟨r', cap', R', rfl, _⟩
  · exact ⟨_, _, _, rfl, hown', hb1⟩
  · exact ⟨_, _, _, rfl, hown', hb1⟩
theorem clone_any (B : Nat) (L : List Ent) (v : Value) (w : World) (ho : Own B w v L) (hc : L.length ≤ 4096) :
    Calls Try.prog 42 #[v] w fun e w' => ∃ a m c, e = .returned (.slice a m c) ∧ Cloned L w a m c w' := by
  rcases ho.parts with ⟨rfl, rfl⟩ | ⟨r, cap, R, rfl, hB, hr, _⟩
  · exact clone_nil w
  · exact clone_at L r cap L.length R w hr rfl hc
set_option maxRecDepth 100000 in
theorem copied_any (B : Nat) (L : List Ent) (v : Value) (g : Nat) (room life : Int) (w : World) (T : Tab B w g room life v L) :
    Calls Try.prog 25 #[.pointer (some ⟨g, 2, none⟩)] w fun e w' => ∃ a m c, e = .returned (.agg #[.slice a m c]) ∧ Own w.heap.size w' (.slice a m c) L ∧ Below w.heap.size w w' := by
  have b0 := alloc_below w (.cells #[.slice none 0 0] 61)
  have T0 := T.below b0
  have C := hide (clone_any B L v _ T0.own T0.len)
  have hcx := T0.cell
  have hgl := T.lt
  have hr0 := hide (heap_alloc_new w (.cells #[.slice none 0 0] 61))
  have hB := hide b0
  have hcx0 := T.cell
  clear T T0 b0
  go_enter Try.func25, Try.ntmps25
  go_wp2_with fail
  refine (unhide C).mono ?_
  rintro e w1 ⟨a, m, c, rfl, o1, b1⟩
  have r1 := Below.row b1 (unhide hr0)
  have c1 := cells1 r1
  have R1 := hide r1
  have O1 := hide o1
  have B1 := hide (bthen (unhide hB) b1)
  clear C r1 o1 b1 hr0 hB
  go_wp2_with fail
  refine bodyPost_ret (v := .agg #[.slice a m c]) ?_ rfl ⟨a, m, c, rfl, ?_, below1 (unhide B1) (Nat.le_refl _)⟩
  · exact results_cell_row rfl _ _ w.heap.size 61 _ _ _ rfl (set1 (unhide R1)) Try.underlying61 rfl (by kernel_rfl)
  · have h := unhide O1
    have hw : (w.alloc (.cells #[.slice none 0 0] 61)).heap.size = w.heap.size + 1 := by simp
    rw [hw] at h
    have hne : (Value.slice a m c).ownBlock ≠ some w.heap.size := fun e => by have := (World.ownsRow.lt h _ e).1; omega
    have h2 := Own.setCell (o := 0) h hne (.slice a m c)
    obtain ⟨hl, hx | ⟨k, cap, cur, hv, h1, hrest⟩⟩ := h2
    · exact ⟨hl, .inl hx⟩
    · exact ⟨hl, .inr ⟨k, cap, cur, hv, by omega, hrest⟩⟩
/-- another table in the same state, in memory of its own -/
def Twin (B : Nat) (room life : Int) (L : List Ent) (w w' : World) (p : Nat) : Prop :=
  ∃ v', Tab B w' p room life v' L ∧ Below w.heap.size w w' ∧ w.heap.size ≤ p ∧ ∀ k, v'.ownBlock = some k → w.heap.size ≤ k
theorem own_mono {B B' : Nat} {w : World} {v : Value} {L : List Ent} (h : Own B w v L) (hb : B' ≤ B) : Own B' w v L := by
  obtain ⟨hl, hx | ⟨k, cap, cur, hv, h1, hrest⟩⟩ := h
  · exact ⟨hl, .inl hx⟩
  · exact ⟨hl, .inr ⟨k, cap, cur, hv, by omega, hrest⟩⟩
set_option maxHeartbeats 1000000 in
set_option maxRecDepth 100000 in
theorem copy_any (B : Nat) (L : List Ent) (v : Value) (g : Nat) (room life : Int) (w : World) (T : Tab B w g room life v L) :
    Calls Try.prog 10 #[.pointer (some ⟨g, 0, none⟩)] w fun e w' => ∃ p, e = .returned (.pointer (some ⟨p, 0, none⟩)) ∧ Twin B room life L w w' p := by
  have C := hide (fun W (h : Below w.heap.size w W) => copied_any B L v g room life W (T.below h))
  have keepG : Hid (∀ W, Below w.heap.size w W → W.cell? ⟨g, 0, none⟩ = some (.int .i64 room) ∧ W.cell? ⟨g, 1, none⟩ = some (.int .i64 life)) := fun W h => by
    have := cells3 (T.below h).row
    exact ⟨this.1, this.2.1⟩
  have fin : Hid (∀ W w1 a m c, Below w.heap.size w W → Own W.heap.size w1 (.slice a m c) L → Below W.heap.size W w1 → Twin B room life L w (w1.alloc (.cells #[.int .i64 room, .int .i64 life, .slice a m c] 63)) w1.heap.size) := by
    intro W w1 a m c h ho hb
    have hs : w.heap.size ≤ w1.heap.size := Nat.le_trans h.size hb.size
    have ho' := own_mono (B' := w.heap.size) ho h.size
    refine ⟨.slice a m c, ⟨heap_alloc_new w1 _, (own_mono ho' T.base).below (alloc_below _ _), Nat.le_trans T.base hs, ?_, T.srt, T.oks, T.fit, T.room1, T.room2, T.life1, T.life2⟩, alloc_then (bthen h hb), hs, fun k hk => (World.ownsRow.lt ho' k hk).1⟩
    intro e
    have := (World.ownsRow.lt ho' _ e).2
    omega
  have hgl := T.lt
  have hf := cells3 T.row
  have hc0 := hf.1
  have hc1 := hf.2.1
  clear T hf
  go_enter Try.func10, Try.ntmps10
  go_wp2_with fail
  go_region_held3 (fun W => W.cell? ⟨g, 0, none⟩ = some (.int .i64 room) ∧ W.cell? ⟨g, 1, none⟩ = some (.int .i64 life)) ((refine unhide keepG _ ?_; (repeat (first | (with_reducible exact Below.refl _ _) | (with_reducible refine Below.drew ?_) | (with_reducible refine alloc_then ?_) | (with_reducible refine bthen ?_ B3))); done))
    ((go_at_call 25; refine (unhide C _ ?_).mono ?_; (repeat (first | (with_reducible exact Below.refl _ _) | (with_reducible refine Below.drew ?_) | (with_reducible refine alloc_then ?_))); rintro e w3 ⟨a, m, c, rfl, o3, B3⟩))
  have O3 := hide o3
  have BB := hide B3
  clear o3 B3
  go_wp2_with fail
  go_ret
  exact ⟨_, rfl, unhide fin _ w3 a m c (by first | exact Below.refl _ _ | exact Below.drew (Below.refl _ _)) (unhide O3) (unhide BB)⟩
end Go.Proofs.Ytppfhbcfmekdoaa
