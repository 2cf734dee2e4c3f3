/-
  The contracts of fdb's New, Forget, Flush and Expire.
-/
import Derived.Test.YtpddbfdgaeldjaaFd1
import Derived.Maps.RangeWalk
namespace Go.Proofs.Ytpddbfdgaeldjaa
open Go.RowKit Go.Sort

/-- may a table be -/
def keepOk (room life most win : Int) : Prop := newOk room life ∧ 0 ≤ most ∧ most ≤ 64 ∧ 1 ≤ win ∧ win ≤ 1099511627776
set_option maxRecDepth 100000 in
theorem fnew_ok {w W : World} (room life most win : Int) (b : Below w.heap.size w W) (h : keepOk room life most win) :
    Calls Try.prog 7 #[.agg #[.int .i64 room, .int .i64 life, .int .i64 most, .int .i64 win]] W fun e W' => ∃ g, e = .returned (.tuple #[.pointer (some ⟨g, 0, none⟩), .int .i64 0]) ∧ (∃ p b, Fdb w g p b none (.slice none 0 0) most win room life [] [] W') ∧ Below W.heap.size W W' ∧ W.heap.size ≤ g := by
  obtain ⟨hn, h1, h2, h3, h4⟩ := h
  have b0 := alloc_below W (.cells #[.int .i64 room, .int .i64 life, .int .i64 most, .int .i64 win] 23)
  have C0 := hide (has_new (w := w) room life (bthen b b0) hn)
  have r0 := hide (heap_alloc_new W (.cells #[.int .i64 room, .int .i64 life, .int .i64 most, .int .i64 win] 23))
  have n1 : ¬ most < 0 := by omega
  have n2 : ¬ 64 < most := by omega
  have n3 : ¬ win < 1 := by omega
  have n4 : ¬ 1099511627776 < win := by omega
  have hmm := @run_makeMap Try.prog
  have B0 := hide b0
  have BB := hide b
  clear b0 b hn h1 h2 h3 h4
  go_enter Try.func7, Try.ntmps7
  go_wp2_with fail
  refine (unhide C0).mono ?_
  rintro e w1 ⟨rfl, h1, b1⟩
  have R1 := Below.row b1 (unhide r0)
  obtain ⟨q0, q1, q2, q3, _⟩ := cells4 R1
  have H1 := hide h1
  have B1 := hide (bthen (unhide B0) b1)
  generalize (W.alloc (.cells #[.int .i64 room, .int .i64 life, .int .i64 most, .int .i64 win] 23)).heap.size = p at *
  clear h1 b1 C0 r0
  go_wp2_with fail
  go_ret2
  have hs : w.heap.size ≤ w1.heap.size := Nat.le_trans (unhide BB).size (unhide B1).size
  refine ⟨w1.heap.size + 1, rfl, ⟨p, w1.heap.size, heap_alloc2_new w1 _ _, ((unhide H1).below (alloc_below _ _)).below (alloc_below _ _), ⟨hs, fun _ h => (by cases h), List.Pairwise.nil, ((World.ownsMap_made w1 Try.prog 39 RH).mono (Nat.zero_le 1)).alloc _, .inl ⟨rfl, rfl, rfl⟩⟩, Nat.le_succ_of_le hs⟩, alloc_then (alloc_then (unhide B1)), Nat.le_succ_of_le (unhide B1).size⟩
set_option maxRecDepth 100000 in
theorem fnew_no {W : World} (room life most win : Int) (h : ¬ keepOk room life most win) :
    Calls Try.prog 7 #[.agg #[.int .i64 room, .int .i64 life, .int .i64 most, .int .i64 win]] W fun e W' => e = .returned (.tuple #[.pointer none, .int .i64 1]) ∧ Below W.heap.size W W' := by
  have b0 := alloc_below W (.cells #[.int .i64 room, .int .i64 life, .int .i64 most, .int .i64 win] 23)
  have r0 := heap_alloc_new W (.cells #[.int .i64 room, .int .i64 life, .int .i64 most, .int .i64 win] 23)
  have B0 := hide b0
  have R0 := hide r0
  by_cases hn : newOk room life
  · have C0 := hide (has_new (w := W) room life b0 hn)
    have hq : most < 0 ∨ (0 ≤ most ∧ 64 < most) ∨ (0 ≤ most ∧ most ≤ 64 ∧ win < 1) ∨ (0 ≤ most ∧ most ≤ 64 ∧ 1 ≤ win ∧ 1099511627776 < win) := by
      unfold keepOk at h
      have : ¬ (0 ≤ most ∧ most ≤ 64 ∧ 1 ≤ win ∧ win ≤ 1099511627776) := fun q => h ⟨hn, q⟩
      omega
    clear b0 r0 hn h
    rcases hq with h | ⟨h1, h⟩ | ⟨h1, h2, h⟩ | ⟨h1, h2, h3, h⟩
    all_goals
      go_enter Try.func7, Try.ntmps7
      go_wp2_with fail
      refine (unhide C0).mono ?_
      rintro e w1 ⟨rfl, _, b1⟩
      have R1 := Below.row b1 (unhide R0)
      obtain ⟨q0, q1, q2, q3, _⟩ := cells4 R1
      have B1 := hide (bthen (unhide B0) b1)
      clear b1 C0
      go_wp2_with fail
      go_ret2
      exact ⟨rfl, unhide B1⟩
  · have C0 := hide (fun W => new_no room life W hn)
    obtain ⟨q0, q1, q2, q3, _⟩ := cells4 r0
    clear b0 r0 hn h
    go_enter Try.func7, Try.ntmps7
    go_wp2_with fail
    refine (unhide C0 _).mono ?_
    rintro e w1 ⟨rfl, rfl⟩
    go_wp2_with fail
    go_ret2
    exact ⟨rfl, unhide B0⟩
theorem StaysM.trans {mr : Option Nat} {a b c : World} (h : StaysM mr a b) (k : StaysM mr b c) : StaysM mr a c := fun i o h1 h2 h3 => k i o h1 h2 (h i o h1 h2 h3)
/-- a call on the table of ages within -/
theorem fdb_call {w : World} {g p b : Nat} {mr : Option Nat} {v : Value} {most win room life : Int} {L L' : List Ent} {M : List Int} {W : World} (hF : Fdb w g p b mr v most win room life L M W) {f : FuncId} {args : Array Value} {r : Value}
    (C : ∀ W2, Has w p room life L W2 → Calls Try.prog f args W2 fun e W' => e = .returned r ∧ Has w p room life L' W' ∧ Stays W2 W') (W2 : World) (bl : Below W.heap.size W W2) :
    Calls Try.prog f args W2 fun e W' => e = .returned r ∧ Fdb w g p b mr v most win room life L' M W' ∧ StaysM mr W W' :=
  (C W2 (hF.has.below bl)).mono fun _ _ ⟨h1, h2, h3⟩ => ⟨h1, (hF.below bl).stays h2 h3, (StaysM.of bl).trans (StaysM.by h3)⟩
theorem Fdb.ptr {w : World} {g p b : Nat} {mr : Option Nat} {v : Value} {most win room life : Int} {L : List Ent} {M : List Int} {W : World} (h : Fdb w g p b mr v most win room life L M W) : W.cell? ⟨g, 2, none⟩ = some (.pointer (some ⟨p, 0, none⟩)) := (cells4 h.row).2.2.1
theorem Fdb.ne {w : World} {g p b : Nat} {mr : Option Nat} {v : Value} {most win room life : Int} {L : List Ent} {M : List Int} {W : World} (h : Fdb w g p b mr v most win room life L M W) {k : Nat} {cs : Array Value} {t : TypeId} {fr : Nat × Nat} (ht : t ≠ 3) (hk : W.heap[k]? = some (.cells cs t fr)) : some k ≠ mr := by
  intro e
  obtain ⟨_, cur, hc⟩ := h.mv.sl.base k e.symm
  rw [hk] at hc
  have := Option.some.inj hc
  simp at this
  exact ht this.2.1
theorem Fdb.drew {w : World} {g p b : Nat} {mr : Option Nat} {v : Value} {most win room life : Int} {L : List Ent} {M : List Int} {W : World} (h : Fdb w g p b mr v most win room life L M W) : Fdb w g p b mr v most win room life L M W.drew := h.below (Below.drew (Below.refl _ _))
/-- Forget -/
theorem forget_may {w : World} {g p b : Nat} {mr : Option Nat} {v : Value} {most win room life : Int} {L : List Ent} {M : List Int} {vid mac : Int} (W : World) (hF : Fdb w g p b mr v most win room life L M W) (hm : 0 ≤ mac ∧ mac < 18446744073709551616) (h : mayB vid mac = true) :
    Calls Try.prog 20 #[.pointer (some ⟨g, 0, none⟩), .int .i64 vid, .int .u64 mac] W fun e W' => e = .returned (.bool (look L (vid * 281474976710656 + mac)).isSome) ∧ Fdb w g p b mr v most win room life (del L (vid * 281474976710656 + mac)) M W' ∧ StaysM mr W W' := by
  have C := hide (fun W => may_any vid mac W hm)
  rw [h] at C
  obtain ⟨hv, hmm⟩ := mac_lt h hm.1
  have K := hide (fun W => keyOf_any vid mac W hv hmm)
  generalize vid * 281474976710656 + mac = key at *
  have G := hide (fdb_call hF (fun W2 h => has_drop (w := w) (W := W2) (g := p) (room := room) (life := life) (L := L) key h))
  obtain ⟨f0, f1, f2, f3, _⟩ := cells4 hF.row
  have keepG : Hid (∀ W2, Below W.heap.size W W2 → W2.cell? ⟨g, 2, none⟩ = some (.pointer (some ⟨p, 0, none⟩))) := fun W2 h => (h.cell (p := ⟨g, 2, none⟩) (block_lt_of_cell f2)).trans f2
  have HF := hide hF
  clear hF h hv hmm
  generalize (look L key).isSome = q at *
  go_enter Try.func20, Try.ntmps20
  go_wp2_with fail
  go_region_held3 (fun w' => w'.cell? ⟨g, 2, none⟩ = some (.pointer (some ⟨p, 0, none⟩))) (first | exact (unhide H3).ptr | (refine unhide keepG _ ?_; (repeat (first | (with_reducible exact Below.refl _ _) | (with_reducible refine Below.drew ?_))); done))
    ((first | (go_at_call 25; refine (unhide C _).mono ?_; rintro e2 w2 ⟨rfl, rfl⟩) | (go_at_call 27; refine (unhide K _).mono ?_; rintro e2 w2 ⟨rfl, rfl⟩) | (go_at_call 39; refine (unhide G _ ?_).mono ?_; (repeat (first | (with_reducible exact Below.refl _ _) | (with_reducible refine Below.drew ?_))); rintro e3 w3 ⟨rfl, h3, s3⟩; have H3 := hide h3; have S3 := hide s3; clear h3 s3)))
  go_wp2_with fail
  go_ret
  exact ⟨rfl, unhide H3, unhide S3⟩
theorem flush_no {k n : Int} (g : Nat) (W : World) (hn : 0 ≤ n) (h : ¬ Tgt k n) :
    Calls Try.prog 15 #[.pointer (some ⟨g, 0, none⟩), .agg #[.int .i64 k, .int .u32 n]] W fun e W' => e = .returned (.int .i64 0) ∧ Below W.heap.size W W' := by
  have C := hide (fun W => isTarget_any k n false W hn ⟨fun h => (by cases h), fun q => absurd q h⟩)
  have b0 := alloc_below W (.cells #[.int .i64 k, .int .u32 n] 42)
  obtain ⟨q0, q1, _⟩ := cells2 (heap_alloc_new W (.cells #[.int .i64 k, .int .u32 n] 42))
  have B0 := hide b0
  clear b0 h
  go_enter Try.func15, Try.ntmps15
  go_wp2_with fail
  refine (unhide C _).mono ?_
  rintro e w1 ⟨rfl, b1⟩
  have B1 := hide (bthen (unhide B0) b1)
  clear b1 C
  go_wp2_with fail
  go_ret
  exact ⟨rfl, unhide B1⟩
theorem tgt_rng {k n : Int} (h : Tgt k n) : 0 ≤ k ∧ k ≤ 1 := by unfold Tgt at h; omega
set_option maxRecDepth 100000 in
theorem flush_yes {w : World} {g p b : Nat} {mr : Option Nat} {v : Value} {most win room life : Int} {L : List Ent} {M : List Int} {k n : Int} (W : World) (hF : Fdb w g p b mr v most win room life L M W) (hn : 0 ≤ n ∧ n < 4294967296) (h : Tgt k n) :
    Calls Try.prog 15 #[.pointer (some ⟨g, 0, none⟩), .agg #[.int .i64 k, .int .u32 n]] W fun e W' => e = .returned (.int .i64 ((L.length : Int) - ((kept (hasVal (k * 4294967296 + n)) L).length : Int))) ∧ Fdb w g p b mr v most win room life (kept (hasVal (k * 4294967296 + n)) L) M W' ∧ StaysM mr W W' := by
  have C := hide (fun W => isTarget_any k n true W hn.1 ⟨fun _ => h, fun _ => rfl⟩)
  have V := hide (fun W => valueOf_any k n W (tgt_rng h) hn)
  have G := hide (fun W1 (bl : Below W.heap.size W W1) => fdb_call (hF.below bl) (fun W2 h => has_clear (w := w) (W := W2) (g := p) (room := room) (life := life) (L := L) (k * 4294967296 + n) h))
  have r0 := heap_alloc_new W (.cells #[.int .i64 k, .int .u32 n] 42)
  have b0 := alloc_below W (.cells #[.int .i64 k, .int .u32 n] 42)
  obtain ⟨q0, q1, _⟩ := cells2 r0
  have R0 := hide r0
  have B0 := hide b0
  have F0 := hide hF
  generalize (L.length : Int) - ((kept (hasVal (k * 4294967296 + n)) L).length : Int) = cnt' at *
  generalize k * 4294967296 + n = val at *
  clear b0 h r0 hF
  go_enter Try.func15, Try.ntmps15
  go_wp2_with fail
  refine (unhide C _).mono ?_
  rintro e w1 ⟨rfl, b1⟩
  have B1 := hide (bthen (unhide B0) b1)
  have R1 := hide (Below.row b1 (unhide R0))
  have keepG : Hid (∀ W2, Below w1.heap.size w1 W2 → W2.cell? ⟨g, 2, none⟩ = some (.pointer (some ⟨p, 0, none⟩)) ∧ W2.cell? ⟨W.heap.size, 0, none⟩ = some (.int .i64 k) ∧ W2.cell? ⟨W.heap.size, 1, none⟩ = some (.int .u32 n)) := fun W2 h => by
    have c := cells2 (Below.row h (unhide R1))
    exact ⟨(((unhide F0).below (unhide B1)).below h).ptr, c.1, c.2.1⟩
  clear b1 C q0 q1
  go_wp2_with fail
  go_region_held3 (fun w' => w'.cell? ⟨g, 2, none⟩ = some (.pointer (some ⟨p, 0, none⟩)) ∧ w'.cell? ⟨W.heap.size, 0, none⟩ = some (.int .i64 k) ∧ w'.cell? ⟨W.heap.size, 1, none⟩ = some (.int .u32 n)) ((first | exact unhide K3 | (refine unhide keepG _ ?_; (repeat (first | (with_reducible exact Below.refl _ _) | (with_reducible refine Below.drew ?_) | (with_reducible refine bthen ?_ B2))); done)))
    ((first | (go_at_call 30; refine (unhide V _).mono ?_; rintro e2 w2 ⟨rfl, B2⟩) | (go_at_call 33; refine (unhide G w1 (unhide B1) _ ?_).mono ?_; (repeat (first | (with_reducible exact Below.refl _ _) | (with_reducible refine Below.drew ?_) | (with_reducible refine bthen ?_ B2))); rintro e3 w3 ⟨rfl, h3, s3⟩; have K3 := hide (And.intro h3.ptr (by have c := cells2 (s3 _ _ rfl (((unhide F0).below (unhide B1)).ne (by decide) (unhide R1)) (unhide R1)); exact And.intro c.1 c.2.1)); have H3 := hide h3; have S3 := hide s3; clear h3 s3)))
  go_wp2_with fail
  go_ret
  exact ⟨rfl, unhide H3, (StaysM.of (unhide B1)).trans (unhide S3)⟩
end Go.Proofs.Ytpddbfdgaeldjaa
