/-
  The contracts of fdb's move, at the one address that moves.
-/
import Derived.Test.YtpddbfdgaeldjaaFd5
namespace Go.Proofs.Ytpddbfdgaeldjaa
open Go.RowKit Go.Sort

theorem Tab.but2 {B : Nat} {W W' : World} {p b : Nat} {mr : Option Nat} {room life : Int} {v : Value} {L : List Ent} (T : Tab B W p room life v L) (h : But2 b mr W W') (hb : ∃ es cl, W.heap[b]? = some (.map es cl)) (hr : ∀ r, mr = some r → ∃ cur, W.heap[r]? = some (.cells cur 3 (0, 0))) : Tab B W' p room life v L := by
  obtain ⟨es, cl, hb⟩ := hb
  have h1 : p ≠ b := fun e => by have := T.row; rw [e, hb] at this; cases this
  have h2 : some p ≠ mr := fun e => by
    obtain ⟨cur, hc⟩ := hr p e.symm
    have := T.row
    rw [hc] at this
    have := Option.some.inj this
    simp at this
  refine ⟨h.row h1 h2 T.row, own_row T.own h ?_ ?_, T.low, T.apart, T.srt, T.oks, T.fit, T.room1, T.room2, T.life1, T.life2⟩
  · intro e
    obtain ⟨c, hc⟩ := T.ownRow e
    rw [hb] at hc
    cases hc
  · cases hv : v.ownBlock with
    | none => exact .inl rfl
    | some k =>
      refine .inr fun e => ?_
      obtain ⟨cur, hc⟩ := hr k e.symm
      obtain ⟨c, hc2⟩ := T.ownRow hv
      rw [hc] at hc2
      have := Option.some.inj hc2
      simp at this
theorem fdb_but2 {w : World} {g p b : Nat} {mr mr' : Option Nat} {v v' : Value} {most win room life : Int} {L : List Ent} {M M' : List Int} {W W' : World} (hF : Fdb w g p b mr v most win room life L M W) (h : But2 b mr W W') (hm : Mv w.heap.size W' b mr' v' M') :
    Fdb w g p b mr' v' most win room life L M' W' ∧ StaysM mr W W' := by
  obtain ⟨es, cl, hb, _⟩ := hF.mv.map
  have hr : ∀ r, mr = some r → ∃ cur, W.heap[r]? = some (.cells cur 3 (0, 0)) := fun r e => (hF.mv.sl.base r e).2
  have hgb : g ≠ b := fun e => by have := hF.row; rw [e, hb] at this; cases this
  obtain ⟨bb, v0, T⟩ := hF.has
  refine ⟨⟨h.row hgb (hF.ne (by decide) hF.row) hF.row, ⟨?_, v0, T.but2 h ⟨es, cl, hb⟩ hr⟩, hm, hF.low⟩, ?_⟩
  · exact bb.trans (h.below hF.mv.low (fun k hk => (hF.mv.sl.base k hk).1) bb.size)
  · intro k o ho hk ho2
    exact h.row (fun e => by rw [e, hb] at ho2; obtain rfl := Option.some.inj ho2; cases ho) hk ho2
theorem Fdb.mapc {w : World} {g p b : Nat} {mr : Option Nat} {v : Value} {most win room life : Int} {L : List Ent} {M : List Int} {W : World} (h : Fdb w g p b mr v most win room life L M W) : W.cell? ⟨g, 0, none⟩ = some (.int .i64 most) ∧ W.cell? ⟨g, 3, none⟩ = some (.map (some b)) := by
  have c := cells4 h.row
  exact ⟨c.1, c.2.2.2.1⟩
/-- whatever was there, and is no part of the table, does not become one -/
def Apart (mr mr' : Option Nat) (W : World) : Prop := ∀ (k : Nat) (o : Obj), notT o = true → some k ≠ mr → W.heap[k]? = some o → some k ≠ mr'
set_option maxRecDepth 100000 in
theorem move_held {w : World} {g p b : Nat} {mr : Option Nat} {v : Value} {most win room life : Int} {L : List Ent} {M : List Int} {val now : Int} (W : World) (hF : Fdb w g p b mr v most win room life L M W) (hl : M.length ≤ 64) (hn : 0 ≤ now ∧ now ≤ 1099511627776) (hc : most ≤ cnt M now win) :
    Calls Try.prog 31 #[.pointer (some ⟨g, 0, none⟩), .int .u64 281474976710658, .int .u64 val, .int .i64 now] W fun e W' => e = .returned (.int .i64 4) ∧ Below W.heap.size W W' := by
  have C := fun n => counting_any w.heap.size b mr v M now win (W.drewN n) ((hF.below (drewN_below (Below.refl _ _) n)).mv) hl hn
  obtain ⟨f0, f1, f2, f3, _⟩ := cells4 hF.row
  generalize cnt M now win = q at *
  clear hF
  go_enter Try.func31, Try.ntmps31
  go_wp2_with fail
  go_quiet ((go_at_call 46; exact Calls.quiet_of_same (C _)))
  have hB := drewN_below (Below.refl W.heap.size W) nq
  go_wp2_with fail
  go_ret
  exact ⟨rfl, hB⟩
set_option maxHeartbeats 1000000 in
set_option maxRecDepth 100000 in
theorem move_moved {w : World} {g p b : Nat} {mr : Option Nat} {v : Value} {most : Nat} {win room life : Int} {L : List Ent} {M : List Int} {val now c : Int} {L' : List Ent} (W : World) (n : Nat) (hF : Fdb w g p b mr v most win room life L M W) (hln : M.length = n) (hl : n ≤ 11) (hn : 0 ≤ now ∧ now ≤ 1099511627776) (hc : cnt M now win < most) (hm : most ≤ 64) (hx : ∀ y ∈ M, y ≤ now)
    (hvb : 0 ≤ val ∧ val < 18446744073709551616) (hP : putP room life L ⟨281474976710658, val, now, false⟩ = (c, L')) :
    Calls Try.prog 31 #[.pointer (some ⟨g, 0, none⟩), .int .u64 281474976710658, .int .u64 val, .int .i64 now] W fun e W' => e = .returned (.int .i64 3) ∧ ∃ mr', (∃ v', Fdb w g p b mr' v' most win room life L' ((M ++ [now]).drop (n + 1 - most)) W') ∧ StaysM mr W W' ∧ Apart mr mr' W := by
  have C := fun n => counting_any w.heap.size b mr v M now win (W.drewN n) ((hF.below (drewN_below (Below.refl _ _) n)).mv) (by omega) hn
  obtain ⟨f0, f1, f2, f3, _⟩ := cells4 hF.row
  have PG := hide (fun W1 (bl : Below W.heap.size W W1) => fdb_call (hF.below bl) (fun W2 h => has_put (w := w) (W := W2) (g := p) (room := room) (life := life) (L := L) 281474976710658 val now h (by omega) hvb))
  rw [hP] at PG
  have A := hide (fun W2 (h : Fdb w g p b mr v most win room life L' M W2) => add_any w.heap.size b most n mr v M now W2 h.mv h.has.1.size hln hl hn hx (by omega) hm)
  have hq : ¬ (most : Int) ≤ (cnt M now win : Int) := by omega
  generalize cnt M now win = q at *
  clear hF hP hc
  go_enter Try.func31, Try.ntmps31
  go_wp2_with fail
  go_quiet ((go_at_call 46; exact Calls.quiet_of_same (C _)))
  have HB := hide (drewN_below (Below.refl W.heap.size W) nq)
  have f2' := ((unhide HB).cell (p := ⟨g, 2, none⟩) (block_lt_of_cell f2)).trans f2
  have P1 := hide (unhide PG _ (unhide HB) _ (Below.refl _ _))
  clear f0 f1 f2 f3 C PG
  generalize W.drewN nq = W1 at *
  go_wp2_with fail
  refine (unhide P1).mono ?_
  rintro e W2 ⟨rfl, h2, s2⟩
  have H2 := hide h2
  have S2 := hide ((StaysM.of (unhide HB)).trans s2)
  have A2 := hide (fun (W3 : World) (bl : Below W2.heap.size W2 W3) => unhide A W3 (h2.below bl))
  obtain ⟨m0, m3⟩ := h2.mapc
  have keepG : Hid (∀ W3, Below W2.heap.size W2 W3 → W3.cell? ⟨g, 0, none⟩ = some (.int .i64 most) ∧ W3.cell? ⟨g, 3, none⟩ = some (.map (some b))) := fun W3 bl => ((unhide H2).below bl).mapc
  clear h2 s2 f2' P1 A
  go_wp2_with fail
  go_region_held3 (fun w' => w'.cell? ⟨g, 0, none⟩ = some (.int .i64 most) ∧ w'.cell? ⟨g, 3, none⟩ = some (.map (some b))) ((first | exact (unhide H4).1.mapc | (refine unhide keepG _ ?_; (repeat (first | (with_reducible exact Below.refl _ _) | (with_reducible refine Below.drew ?_))); done)))
    ((go_at_call 47; refine (unhide A2 _ ?_).mono ?_; (repeat (first | (with_reducible exact Below.refl _ _) | (with_reducible refine Below.drew ?_))); rintro e4 w4 ⟨rfl, mr', v', h4, t4, n4⟩; have H4 := hide (fdb_but2 ((unhide H2).below (by (repeat (first | (with_reducible exact Below.refl _ _) | (with_reducible refine Below.drew ?_))))) t4 h4); have N4 := hide n4; clear h4 t4 n4))
  go_wp2_with fail
  go_ret
  refine ⟨rfl, mr', ⟨v', (unhide H4).1⟩, (unhide S2).trans (fun k o h1 h2 h3 => (unhide H4).2 k o h1 h2 h3), fun k o h1 h2 h3 e => ?_⟩
  rcases unhide N4 with h | h
  · exact h2 (e.trans h)
  · have hk := lt_of_row ((unhide S2) k o h1 h2 h3)
    have := h k e.symm
    exact absurd hk (Nat.not_lt_of_le this)
