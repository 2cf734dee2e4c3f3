/-
  The contracts of fdb's Expire where nothing moved, and of Fix.
-/
import Derived.Test.YtpddbfdgaeldjaaFd2
namespace Go.Proofs.Ytpddbfdgaeldjaa
open Go.RowKit Go.Sort

theorem mexpire_none (b : Nat) (now win : Int) (w : World) (h : w.ownsMap Try.prog 39 RH b 1 (.map [])) :
    Calls Try.prog 37 #[.map (some b), .int .i64 now, .int .i64 win] w fun e w' => e = .returned (.tuple #[]) ∧ Below w.heap.size w w' := by
  go_enter Try.func37, Try.ntmps37
  go_wp2_with (first
    | (at_range; refine wpList_range_own _ rfl _ 64 rfl 39 38 lawU Try.underlying64 _ b 1 _ rfl h ?_; intro w0 hrg0 hg0 hs0)
    | go_in)
  go_frame
  refine wp_loop_rounds 1 ?_
  rw [rounds_succ]
  go_wp2_with (first
    | (at_next; refine wpList_next_ranges _ rfl _ rfl 39 lawU RH (Value.int .u64) (fun v => v) (fun key kl hkey => by obtain ⟨x, rfl, _⟩ := Go.Maps.keyOf_int_inv Try.underlying39 hkey; exact ⟨x, rfl⟩) (fun v y _ => ⟨v, rfl⟩) b w.heap.size 1 _ _ _ rfl hrg0 ?_ ?_)
    | go_in)
  · intro _ _
    go_wp2
    go_end0
    exact ⟨rfl, (Below.refl _ _).grown hg0 (Nat.le_refl _) (fun k hk => by cases hk)⟩
  · intro x c kl y ps w' cnt' hk hl
    simp [Go.Maps.has] at hl
theorem fexpire_none {w : World} {g p b : Nat} {mr : Option Nat} {v : Value} {most win room life : Int} {L : List Ent} {now : Int} (W : World) (hF : Fdb w g p b mr v most win room life L [] W) :
    Calls Try.prog 19 #[.pointer (some ⟨g, 0, none⟩), .int .i64 now] W fun e W' => e = .returned (.int .i64 ((L.length : Int) - ((expP life now L).length : Int))) ∧ Fdb w g p b mr v most win room life (expP life now L) [] W' ∧ StaysM mr W W' := by
  have C := hide (fun W => fisTime_any now W)
  have E := hide (mexpire_none b now win)
  have G := hide (fun W1 (bl : Below W.heap.size W W1) => fdb_call (hF.below bl) (fun W2 h => has_expire (w := w) (W := W2) (g := p) (room := room) (life := life) (L := L) now h))
  obtain ⟨f0, f1, f2, f3, _⟩ := cells4 hF.row
  have F0 := hide hF
  generalize (L.length : Int) - ((expP life now L).length : Int) = cnt' at *
  have keepG : Hid (∀ W2, Below W.heap.size W W2 → W2.cell? ⟨g, 1, none⟩ = some (.int .i64 win) ∧ W2.cell? ⟨g, 2, none⟩ = some (.pointer (some ⟨p, 0, none⟩)) ∧ W2.cell? ⟨g, 3, none⟩ = some (.map (some b))) := fun W2 h => by
    have c := cells4 (Below.row h hF.row)
    exact ⟨c.2.1, c.2.2.1, c.2.2.2.1⟩
  have EM := hide (fun W2 (h : Below W.heap.size W W2) => unhide E W2 ((hF.below h).mv.map))
  have G1 := hide (unhide G W (Below.refl _ _))
  clear hF E
  cases hq : timeB now with
  | false =>
    rw [hq] at C
    go_enter Try.func19, Try.ntmps19
    go_wp2_with fail
    refine (unhide C _).mono ?_
    rintro e w1 ⟨rfl, rfl⟩
    go_wp2_with fail
    refine (unhide G1 _ (Below.refl _ _)).mono ?_
    rintro e w2 ⟨rfl, h2, s2⟩
    have H2 := hide h2
    have S2 := hide s2
    clear h2 s2 f0 f1 f2 f3
    go_wp2_with fail
    go_ret
    exact ⟨rfl, unhide H2, unhide S2⟩
  | true =>
    rw [hq] at C
    go_enter Try.func19, Try.ntmps19
    go_wp2_with fail
    refine (unhide C _).mono ?_
    rintro e w1 ⟨rfl, rfl⟩
    go_wp2_with fail
    go_region_held3 (fun w' => w'.cell? ⟨g, 1, none⟩ = some (.int .i64 win) ∧ w'.cell? ⟨g, 2, none⟩ = some (.pointer (some ⟨p, 0, none⟩)) ∧ w'.cell? ⟨g, 3, none⟩ = some (.map (some b))) ((refine unhide keepG _ ?_; (repeat (first | (with_reducible exact Below.refl _ _) | (with_reducible refine Below.drew ?_) | (with_reducible refine bthen ?_ B2))); done))
      ((go_at_call 37; refine (unhide EM _ ?_).mono ?_; (repeat (first | (with_reducible exact Below.refl _ _) | (with_reducible refine Below.drew ?_))); rintro e2 w2 ⟨rfl, B2⟩; have K2 := hide (bthen (w := w1) ((Below.refl _ _).drew) B2)))
    have F2 := hide (((unhide F0).below (unhide K2)))
    have G2 := hide (unhide G w2 (unhide K2) w2 (Below.refl _ _))
    have p2 := (unhide F2).ptr
    clear B2 f0 f1 f2 f3 G1
    go_wp2_with fail
    refine (unhide G2).mono ?_
    rintro e w3 ⟨rfl, h3, s3⟩
    have H3 := hide h3
    have S3 := hide s3
    clear h3 s3 p2
    go_wp2_with fail
    go_ret
    exact ⟨rfl, unhide H3, (StaysM.of (unhide K2)).trans (unhide S3)⟩
set_option maxRecDepth 100000 in
theorem fix_not {vid mac k n : Int} (g : Nat) (W : World) (hm : 0 ≤ mac ∧ mac < 18446744073709551616) (h : mayB vid mac = false) :
    Calls Try.prog 18 #[.pointer (some ⟨g, 0, none⟩), .int .i64 vid, .int .u64 mac, .agg #[.int .i64 k, .int .u32 n]] W fun e W' => e = .returned (.bool false) ∧ Below W.heap.size W W' := by
  have C := fun W => may_any vid mac W hm
  rw [h] at C
  have B0 := hide (alloc_below W (.cells #[.int .i64 k, .int .u32 n] 42))
  obtain ⟨q0, q1, _⟩ := cells2 (heap_alloc_new W (.cells #[.int .i64 k, .int .u32 n] 42))
  go_enter Try.func18, Try.ntmps18
  go_wp2_with fail
  go_quiet ((go_at_call 25; exact Calls.quiet_of_same (C _)))
  go_wp2_with fail
  go_ret
  exact ⟨rfl, drewN_below (unhide B0) _⟩
theorem below_then (w W : World) (h : Below w.heap.size w W) (d : Nat) (os : Array Obj) : Below w.heap.size w (grow (redrawn W d) os) := h.trans ((below_regrown W d os).mono h.size)
/-- a contract that leaves the world as it was, in a world with more blocks -/
theorem same_regrown {P : Program} {f : FuncId} {args : Array Value} {w : World} {d : Nat} {os : Array Obj} {v : Value}
    (h : Calls P f args (grow (redrawn w d) os) fun e w' => e = .returned v ∧ w' = grow (redrawn w d) os) : Calls P f args (grow (redrawn w d) os) fun e w'' => e = .returned v ∧ ∃ p : Regrown, w'' = grow (redrawn w p.d) p.os :=
  h.mono fun _ _ ⟨he, hw⟩ => ⟨he, ⟨d, os⟩, hw⟩
set_option maxRecDepth 100000 in
theorem tgt_not {vid mac k n : Int} (g : Nat) (W : World) (hm : 0 ≤ mac ∧ mac < 18446744073709551616) (hn : 0 ≤ n) (h : mayB vid mac = true) (ht : ¬ Tgt k n) :
    Calls Try.prog 18 #[.pointer (some ⟨g, 0, none⟩), .int .i64 vid, .int .u64 mac, .agg #[.int .i64 k, .int .u32 n]] W fun e W' => e = .returned (.bool false) ∧ Below W.heap.size W W' := by
  have C : ∀ (W1 : World) d os, Calls Try.prog 25 #[.int .i64 vid, .int .u64 mac] (grow (redrawn W1 d) os) fun e w'' => e = .returned (.bool true) ∧ ∃ p : Regrown, w'' = grow (redrawn W1 p.d) p.os := fun W1 d os => same_regrown (by have := may_any vid mac (grow (redrawn W1 d) os) hm; rw [h] at this; exact this)
  have T : ∀ (W1 : World) d os, Calls Try.prog 29 #[.agg #[.int .i64 k, .int .u32 n]] (grow (redrawn W1 d) os) fun e w'' => e = .returned (.bool false) ∧ ∃ p : Regrown, w'' = grow (redrawn W1 p.d) p.os := fun W1 d os => Calls.regrown_of (isTarget_any k n false _ hn ⟨fun h => (by cases h), fun q => absurd q ht⟩)
  have b0 := alloc_below W (.cells #[.int .i64 k, .int .u32 n] 42)
  have B0 := hide b0
  have k0 := fun d os => cell_regrown (cells2 (heap_alloc_new W (.cells #[.int .i64 k, .int .u32 n] 42))).1 d os
  have k1 := fun d os => cell_regrown (cells2 (heap_alloc_new W (.cells #[.int .i64 k, .int .u32 n] 42))).2.1 d os
  clear b0
  go_enter Try.func18, Try.ntmps18
  go_wp2_with fail
  generalize W.alloc (.cells #[.int .i64 k, .int .u32 n] 42) = W1 at *
  have C1 := C W1
  have T1 := T W1
  clear C T
  refine wp_region_quiet_below (by kernel_rfl) (by kernel_rfl) ?_
  repeat (go_big_quiet_step (first | (go_at_call 25; exact C1 _ _) | (go_at_call 29; exact T1 _ _)))
  refine wpQuiet_nil ?_
  rintro _ ⟨⟨dq, osq⟩, rfl⟩
  go_wp2
  go_ret
  exact ⟨rfl, below_then W W1 (unhide B0) dq osq⟩
set_option maxRecDepth 100000 in
theorem fix_yes {w : World} {g p b : Nat} {mr : Option Nat} {v : Value} {most win room life : Int} {L : List Ent} {M : List Int} {vid mac k n c : Int} {L' : List Ent} (W : World) (hF : Fdb w g p b mr v most win room life L M W) (hm : 0 ≤ mac ∧ mac < 18446744073709551616) (hn : 0 ≤ n ∧ n < 4294967296) (h : mayB vid mac = true) (ht : Tgt k n)
    (hP : fixP room L ⟨vid * 281474976710656 + mac, k * 4294967296 + n, 0, true⟩ = (c, L')) :
    Calls Try.prog 18 #[.pointer (some ⟨g, 0, none⟩), .int .i64 vid, .int .u64 mac, .agg #[.int .i64 k, .int .u32 n]] W fun e W' => e = .returned (.bool (c == 0)) ∧ Fdb w g p b mr v most win room life L' M W' ∧ StaysM mr W W' := by
  have C := hide (fun W => may_any vid mac W hm)
  rw [h] at C
  obtain ⟨hv, hmm⟩ := mac_lt h hm.1
  have T := hide (fun W => isTarget_any k n true W hn.1 ⟨fun _ => ht, fun _ => rfl⟩)
  have V := hide (fun W => valueOf_any k n W (tgt_rng ht) hn)
  have K := hide (fun W => keyOf_any vid mac W hv hmm)
  have hkb : 0 ≤ vid * 281474976710656 + mac ∧ vid * 281474976710656 + mac < 18446744073709551616 := by omega
  have hvb : 0 ≤ k * 4294967296 + n ∧ k * 4294967296 + n < 18446744073709551616 := by have := tgt_rng ht; omega
  generalize vid * 281474976710656 + mac = key at *
  generalize k * 4294967296 + n = val at *
  have r0 := heap_alloc_new W (.cells #[.int .i64 k, .int .u32 n] 42)
  have b0 := alloc_below W (.cells #[.int .i64 k, .int .u32 n] 42)
  have F1 := hF.below b0
  have B0 := hide b0
  have R0 := hide r0
  generalize hW1 : W.alloc (.cells #[.int .i64 k, .int .u32 n] 42) = W1 at *
  have G := hide (fdb_call F1 (fun W2 h => has_fix (w := w) (W := W2) (g := p) (room := room) (life := life) (L := L) key val h hkb hvb))
  rw [hP] at G
  have keepG : Hid (∀ W2, Below W1.heap.size W1 W2 → W2.cell? ⟨g, 2, none⟩ = some (.pointer (some ⟨p, 0, none⟩)) ∧ W2.cell? ⟨W.heap.size, 0, none⟩ = some (.int .i64 k) ∧ W2.cell? ⟨W.heap.size, 1, none⟩ = some (.int .u32 n)) := fun W2 h => by
    have c := cells2 (Below.row h r0)
    exact ⟨(F1.below h).ptr, c.1, c.2.1⟩
  have ne := F1.ne (by decide) r0
  clear r0 b0 hF h hv hmm hP F1 ht hkb hvb
  rw [← hW1] at *
  clear hW1
  go_enter Try.func18, Try.ntmps18
  go_wp2_with fail
  generalize W.alloc (.cells #[.int .i64 k, .int .u32 n] 42) = W1 at *
  go_region_held3 (fun w' => w'.cell? ⟨g, 2, none⟩ = some (.pointer (some ⟨p, 0, none⟩)) ∧ w'.cell? ⟨W.heap.size, 0, none⟩ = some (.int .i64 k) ∧ w'.cell? ⟨W.heap.size, 1, none⟩ = some (.int .u32 n)) ((first | exact unhide K3 | (refine unhide keepG _ ?_; (repeat (first | (with_reducible exact Below.refl _ _) | (with_reducible refine Below.drew ?_) | (with_reducible refine bthen ?_ B3) | (with_reducible refine bthen ?_ B2))); done)))
    ((first | (go_at_call 25; refine (unhide C _).mono ?_; rintro e2 w2 ⟨rfl, rfl⟩) | (go_at_call 27; refine (unhide K _).mono ?_; rintro e2 w2 ⟨rfl, rfl⟩) | (go_at_call 29; refine (unhide T _).mono ?_; rintro e2 w2 ⟨rfl, B2⟩) | (go_at_call 30; refine (unhide V _).mono ?_; rintro e2 w3 ⟨rfl, B3⟩) | (go_at_call 35; refine (unhide G _ ?_).mono ?_; (repeat (first | (with_reducible exact Below.refl _ _) | (with_reducible refine Below.drew ?_) | (with_reducible refine bthen ?_ B3) | (with_reducible refine bthen ?_ B2))); rintro e4 w4 ⟨rfl, h4, s4⟩; have K3 := hide (And.intro h4.ptr (by have c := cells2 (s4 _ _ rfl ne (unhide R0)); exact And.intro c.1 c.2.1)); have H4 := hide h4; have S4 := hide s4; clear h4 s4)))
  go_wp2_with fail
  go_ret
  exact ⟨rfl, unhide H4, (StaysM.of (unhide B0)).trans (unhide S4)⟩
end Go.Proofs.Ytpddbfdgaeldjaa
