/-
  The contract of udp.flaw: the kind of what is wrong with bytes; no cell that was there before has turned.
-/
import Derived.Test.YtcgilcofcjehmaaDoorUdp2
import Derived.Test.YtcgilcofcjehmaaDoorCut6
namespace Go.Proofs.YtcgilcofcjehmaaDoor
open Go.RowKit Go.Sort

theorem take_at {P : Program} {ops : Array Oper} {Q : Exit → Act → World → Prop} {md : Region.Mode} {S : World → Prop} {oi : Oper} {fuel : Nat} {listed : Array Bool} {a : Act} {w : World} (i d : Nat) (v : Value) (hi : ops[i]? = some oi) (hd : oi.dst = some d)
    (hs : Region.noSelect ops = true) (hf : Region.free md ops listed i = true) (hr : (Region.ready md ops listed).contains i = true)
    (hQ : ∀ c a w, Q (.panic c) (a.put oi.dst v) w → Q (.panic c) a w) (hw : Region.wanted oi (yielded ops a.tmps) = true) (hy : ∀ w, S w → (execOp a.eval oi).run P w = .ok (.value v) w) (hS : S w)
    (h : wpAnyH P md ops Q S fuel (listed.setIfInBounds i true) (a.put (some d) v) w) : wpAnyH P md ops Q S (fuel + 1) listed a w :=
  wpAnyH_take hi hs hf hr hQ (Or.inl ⟨hw, hy⟩) hS (by rw [hd]; exact h)
theorem skip_at {P : Program} {ops : Array Oper} {Q : Exit → Act → World → Prop} {md : Region.Mode} {S : World → Prop} {oi : Oper} {fuel : Nat} {listed : Array Bool} {a : Act} {w : World} (i d : Nat) (hi : ops[i]? = some oi) (hd : oi.dst = some d)
    (hs : Region.noSelect ops = true) (hf : Region.free md ops listed i = true) (hr : (Region.ready md ops listed).contains i = true)
    (hQ : ∀ c a w, Q (.panic c) (a.put oi.dst undef) w → Q (.panic c) a w) (hw : Region.wanted oi (yielded ops a.tmps) = false) (hS : S w)
    (h : wpAnyH P md ops Q S fuel (listed.setIfInBounds i true) (a.put (some d) undef) w) : wpAnyH P md ops Q S (fuel + 1) listed a w :=
  wpAnyH_take hi hs hf hr hQ (Or.inr ⟨hw, rfl⟩) hS (by rw [hd]; exact h)
set_option maxRecDepth 100000 in
set_option maxHeartbeats 4000000 in
theorem flaw_few (S : ByteArray) (s d : Nat) (w : World) (h : S.size < 8) :
    Calls Tryd.prog 25 #[.int .u32 (s : Int), .int .u32 (d : Int), .string S] w fun e w' => e = .returned (.int .i64 1) ∧ Below w.heap.size w w' := by
  go_enter Tryd.func25, Tryd.ntmps25
  go_wp2_with fail
  go_ret
  exact ⟨rfl, Below.refl _ _⟩
set_option maxRecDepth 100000 in
set_option maxHeartbeats 4000000 in
theorem flaw_length (S : ByteArray) (s d : Nat) (n : Nat) (w : World) (h8 : (8 : Int) ≤ (S.size : Int)) (hl0 : (S.size : Int) ≤ 10000)
    (kn : Hid (∀ W, Calls Tryd.prog 27 #[.string S, .int .i64 4] W fun e W' => e = .returned (.int .i64 (n : Int)) ∧ W' = W))
    (hn : (n : Int) < 8) :
    Calls Tryd.prog 25 #[.int .u32 (s : Int), .int .u32 (d : Int), .string S] w fun e w' => e = .returned (.int .i64 5) ∧ Below w.heap.size w w' := by
  go_enter Tryd.func25, Tryd.ntmps25
  go_wp2_with fail
  refine (unhide kn _).mono ?_
  rintro e w1 ⟨rfl, rfl⟩
  go_wp2_with fail
  go_ret
  exact ⟨rfl, Below.refl _ _⟩
set_option maxRecDepth 100000 in
set_option maxHeartbeats 4000000 in
theorem flaw_body (S : ByteArray) (s d : Nat) (n : Nat) (w : World) (h8 : (8 : Int) ≤ (S.size : Int)) (hl0 : (S.size : Int) ≤ 10000)
    (kn : Hid (∀ W, Calls Tryd.prog 27 #[.string S, .int .i64 4] W fun e W' => e = .returned (.int .i64 (n : Int)) ∧ W' = W))
    (hn : ¬ (n : Int) < 8) (hb : (S.size : Int) < (n : Int)) :
    Calls Tryd.prog 25 #[.int .u32 (s : Int), .int .u32 (d : Int), .string S] w fun e w' => e = .returned (.int .i64 2) ∧ Below w.heap.size w w' := by
  go_enter Tryd.func25, Tryd.ntmps25
  go_wp2_with fail
  refine (unhide kn _).mono ?_
  rintro e w1 ⟨rfl, rfl⟩
  go_wp2_with fail
  go_ret
  exact ⟨rfl, Below.refl _ _⟩
set_option maxRecDepth 100000 in
set_option maxHeartbeats 4000000 in
theorem flaw_bare (S : ByteArray) (s d : Nat) (n : Nat) (w : World) (h8 : (8 : Int) ≤ (S.size : Int)) (hl0 : (S.size : Int) ≤ 10000)
    (kn : Hid (∀ W, Calls Tryd.prog 27 #[.string S, .int .i64 4] W fun e W' => e = .returned (.int .i64 (n : Int)) ∧ W' = W))
    (hn : ¬ (n : Int) < 8) (hb : ¬ (S.size : Int) < (n : Int))
    (kc : Hid (∀ W, Calls Tryd.prog 27 #[.string S, .int .i64 6] W fun e W' => e = .returned (.int .i64 0) ∧ W' = W)) :
    Calls Tryd.prog 25 #[.int .u32 (s : Int), .int .u32 (d : Int), .string S] w fun e w' => e = .returned (.int .i64 0) ∧ Below w.heap.size w w' := by
  go_enter Tryd.func25, Tryd.ntmps25
  go_wp2_with fail
  refine (unhide kn _).mono ?_
  rintro e w1 ⟨rfl, rfl⟩
  go_wp2_with fail
  refine wp_region_held_drew (S := fun _ => True) (by kernel_rfl) True.intro (fun hHeld => ?_)
  refine take_at 0 22 (.string S) rfl rfl (by kernel_rfl) (by kernel_rfl) (by kernel_rfl) (fun _ _ _ h => h) (by rfl) (fun w hSw => by first | (go_simp; done) | (go_simp; with_reducible rfl)) hHeld ?_
  simp only [Act.put, List.setIfInBounds_toArray, List.set_cons_zero, List.set_cons_succ]
  refine wpAnyH_ready (rs := [1]) (by kernel_rfl) (by simp) ?_
  refine AllReadyH.cons rfl (fun K hK => ?_) AllReadyH.nil
  go_simp
  refine (unhide kc _).mono ?_
  rintro e5 w5 ⟨rfl, rfl⟩
  go_wp2_with fail
  refine hK.out _ _ True.intro (fun hHeld => ?_)
  clear hK K
  refine take_at 2 24 (.bool false) rfl rfl (by kernel_rfl) (by kernel_rfl) (by kernel_rfl) (fun _ _ _ h => h) (by rfl) (fun w hSw => by first | (go_simp; done) | (go_simp; with_reducible rfl)) hHeld ?_
  simp only [Act.put, List.setIfInBounds_toArray, List.set_cons_zero, List.set_cons_succ]
  refine take_at 3 25 (.bool false) rfl rfl (by kernel_rfl) (by kernel_rfl) (by kernel_rfl) (fun _ _ _ h => h) (by rfl) (fun w hSw => by first | (go_simp; done) | (go_simp; with_reducible rfl)) hHeld ?_
  simp only [Act.put, List.setIfInBounds_toArray, List.set_cons_zero, List.set_cons_succ]
  refine skip_at 4 26 rfl rfl (by kernel_rfl) (by kernel_rfl) (by kernel_rfl) (fun _ _ _ h => h) (by rfl) hHeld ?_
  simp only [Act.put, List.setIfInBounds_toArray, List.set_cons_zero, List.set_cons_succ]
  refine skip_at 5 27 rfl rfl (by kernel_rfl) (by kernel_rfl) (by kernel_rfl) (fun _ _ _ h => h) (by rfl) hHeld ?_
  simp only [Act.put, List.setIfInBounds_toArray, List.set_cons_zero, List.set_cons_succ]
  refine skip_at 6 28 rfl rfl (by kernel_rfl) (by kernel_rfl) (by kernel_rfl) (fun _ _ _ h => h) (by rfl) hHeld ?_
  simp only [Act.put, List.setIfInBounds_toArray, List.set_cons_zero, List.set_cons_succ]
  refine skip_at 7 29 rfl rfl (by kernel_rfl) (by kernel_rfl) (by kernel_rfl) (fun _ _ _ h => h) (by rfl) hHeld ?_
  simp only [Act.put, List.setIfInBounds_toArray, List.set_cons_zero, List.set_cons_succ]
  refine skip_at 8 30 rfl rfl (by kernel_rfl) (by kernel_rfl) (by kernel_rfl) (fun _ _ _ h => h) (by rfl) hHeld ?_
  simp only [Act.put, List.setIfInBounds_toArray, List.set_cons_zero, List.set_cons_succ]
  refine skip_at 9 31 rfl rfl (by kernel_rfl) (by kernel_rfl) (by kernel_rfl) (fun _ _ _ h => h) (by rfl) hHeld ?_
  simp only [Act.put, List.setIfInBounds_toArray, List.set_cons_zero, List.set_cons_succ]
  refine skip_at 10 32 rfl rfl (by kernel_rfl) (by kernel_rfl) (by kernel_rfl) (fun _ _ _ h => h) (by rfl) hHeld ?_
  simp only [Act.put, List.setIfInBounds_toArray, List.set_cons_zero, List.set_cons_succ]
  refine skip_at 11 33 rfl rfl (by kernel_rfl) (by kernel_rfl) (by kernel_rfl) (fun _ _ _ h => h) (by rfl) hHeld ?_
  simp only [Act.put, List.setIfInBounds_toArray, List.set_cons_zero, List.set_cons_succ]
  refine skip_at 12 34 rfl rfl (by kernel_rfl) (by kernel_rfl) (by kernel_rfl) (fun _ _ _ h => h) (by rfl) hHeld ?_
  simp only [Act.put, List.setIfInBounds_toArray, List.set_cons_zero, List.set_cons_succ]
  refine skip_at 13 35 rfl rfl (by kernel_rfl) (by kernel_rfl) (by kernel_rfl) (fun _ _ _ h => h) (by rfl) hHeld ?_
  simp only [Act.put, List.setIfInBounds_toArray, List.set_cons_zero, List.set_cons_succ]
  refine take_at 14 36 (.bool false) rfl rfl (by kernel_rfl) (by kernel_rfl) (by kernel_rfl) (fun _ _ _ h => h) (by rfl) (fun w hSw => by first | (go_simp; done) | (go_simp; with_reducible rfl)) hHeld ?_
  simp only [Act.put, List.setIfInBounds_toArray, List.set_cons_zero, List.set_cons_succ]
  refine take_at 15 21 (.bool false) rfl rfl (by kernel_rfl) (by kernel_rfl) (by kernel_rfl) (fun _ _ _ h => h) (by rfl) (fun w hSw => by first | (go_simp; done) | (go_simp; with_reducible rfl)) hHeld ?_
  simp only [Act.put, List.setIfInBounds_toArray, List.set_cons_zero, List.set_cons_succ]
  refine wpAnyH_done (by kernel_rfl) ?_ _
  go_wp2_with fail
  go_ret
  exact ⟨rfl, (Below.refl _ _).drew⟩
set_option maxRecDepth 100000 in
set_option maxHeartbeats 4000000 in
theorem flaw_sum (S : ByteArray) (s d : Nat) (n c : Nat) (H P : ByteArray) (w : World) (h8 : (8 : Int) ≤ (S.size : Int)) (hl0 : (S.size : Int) ≤ 10000)
    (kn : Hid (∀ W, Calls Tryd.prog 27 #[.string S, .int .i64 4] W fun e W' => e = .returned (.int .i64 (n : Int)) ∧ W' = W))
    (hn : ¬ (n : Int) < 8) (hb : ¬ (S.size : Int) < (n : Int))
    (kc : Hid (∀ W, Calls Tryd.prog 27 #[.string S, .int .i64 6] W fun e W' => e = .returned (.int .i64 (c : Int)) ∧ W' = W))
    (hc : ((c : Int) != 0) = true)
    (kh : Hid (∀ W, Calls Tryd.prog 19 #[.int .u32 (s : Int), .int .u32 (d : Int), .int .i64 17, .int .i64 (n : Int)] W fun e W' => e = .returned (.string H) ∧ Below W.heap.size W W'))
    (sl : ∀ W, (Instr.slice 9 (.string S) none (some (.int .i64 (n : Int))) none).run Tryd.prog W = .ok (.string P) W)
    (kr : Hid (∀ W g, W.heap[g]? = some (.cells #[.string H, .string P] 9 (0, 0)) → Calls Tryd.prog 36 #[.slice (some ⟨g, 0, none⟩) 2 2] W fun e W' => e = .returned (.bool false) ∧ W' = W)) :
    Calls Tryd.prog 25 #[.int .u32 (s : Int), .int .u32 (d : Int), .string S] w fun e w' => e = .returned (.int .i64 6) ∧ Below w.heap.size w w' := by
  go_enter Tryd.func25, Tryd.ntmps25
  go_wp2_with fail
  refine (unhide kn _).mono ?_
  rintro e w1 ⟨rfl, rfl⟩
  go_wp2_with fail
  go_region_held3 (fun _ => True) (exact True.intro) (first | (go_at_call 27; refine (unhide kc _).mono ?_; rintro e5 w5 ⟨rfl, rfl⟩) | (go_at_call 19; refine (unhide kh _).mono ?_; rintro e6 w6 ⟨rfl, B6⟩) | (go_at_call 36; refine (unhide kr _ _ (heap_alloc_new _ _)).mono ?_; rintro e7 w7 ⟨rfl, rfl⟩))
  go_wp2_with fail
  go_ret
  exact ⟨rfl, alloc_then (bthen (Below.refl _ _).drew B6)⟩
set_option maxRecDepth 100000 in
set_option maxHeartbeats 4000000 in
theorem flaw_none (S : ByteArray) (s d : Nat) (n c : Nat) (H P : ByteArray) (w : World) (h8 : (8 : Int) ≤ (S.size : Int)) (hl0 : (S.size : Int) ≤ 10000)
    (kn : Hid (∀ W, Calls Tryd.prog 27 #[.string S, .int .i64 4] W fun e W' => e = .returned (.int .i64 (n : Int)) ∧ W' = W))
    (hn : ¬ (n : Int) < 8) (hb : ¬ (S.size : Int) < (n : Int))
    (kc : Hid (∀ W, Calls Tryd.prog 27 #[.string S, .int .i64 6] W fun e W' => e = .returned (.int .i64 (c : Int)) ∧ W' = W))
    (hc : ((c : Int) != 0) = true)
    (kh : Hid (∀ W, Calls Tryd.prog 19 #[.int .u32 (s : Int), .int .u32 (d : Int), .int .i64 17, .int .i64 (n : Int)] W fun e W' => e = .returned (.string H) ∧ Below W.heap.size W W'))
    (sl : ∀ W, (Instr.slice 9 (.string S) none (some (.int .i64 (n : Int))) none).run Tryd.prog W = .ok (.string P) W)
    (kr : Hid (∀ W g, W.heap[g]? = some (.cells #[.string H, .string P] 9 (0, 0)) → Calls Tryd.prog 36 #[.slice (some ⟨g, 0, none⟩) 2 2] W fun e W' => e = .returned (.bool true) ∧ W' = W)) :
    Calls Tryd.prog 25 #[.int .u32 (s : Int), .int .u32 (d : Int), .string S] w fun e w' => e = .returned (.int .i64 0) ∧ Below w.heap.size w w' := by
  go_enter Tryd.func25, Tryd.ntmps25
  go_wp2_with fail
  refine (unhide kn _).mono ?_
  rintro e w1 ⟨rfl, rfl⟩
  go_wp2_with fail
  go_region_held3 (fun _ => True) (exact True.intro) (first | (go_at_call 27; refine (unhide kc _).mono ?_; rintro e5 w5 ⟨rfl, rfl⟩) | (go_at_call 19; refine (unhide kh _).mono ?_; rintro e6 w6 ⟨rfl, B6⟩) | (go_at_call 36; refine (unhide kr _ _ (heap_alloc_new _ _)).mono ?_; rintro e7 w7 ⟨rfl, rfl⟩))
  go_wp2_with fail
  go_ret
  exact ⟨rfl, alloc_then (bthen (Below.refl _ _).drew B6)⟩
theorem cut_to (l : List UInt8) (k : Nat) (h : k ≤ l.length) (W : World) : (Instr.slice 9 (.string (bs l)) none (some (.int .i64 (k : Int))) none).run Tryd.prog W = .ok (.string (bs (l.take k))) W := by
  have e := run_slice_string_h (P := Tryd.prog) W 9 (bs l) Tryd.underlying9 .i64 (k : Int) (by omega) (by rw [bs_size]; omega)
  rw [show ((k : Int)).toNat = k by omega] at e
  rw [e]
  have : (bs l).extract 0 k = bs (l.take k) := by
    rw [← bs_of ((bs l).extract 0 k), extract_toList, bs_toList]; simp
  rw [this]
theorem right_two (x y : List UInt8) (W : World) (g : Nat) (h : W.heap[g]? = some (.cells #[.string (bs x), .string (bs y)] 9 (0, 0))) (hl : x.length + y.length ≤ 10012) :
    Calls Tryd.prog 36 #[.slice (some ⟨g, 0, none⟩) 2 2] W fun e W' => e = .returned (.bool (decide (fold (tot (x ++ y)) = 65535))) ∧ W' = W := by
  obtain ⟨c0, c1, _⟩ := cells2 h
  have := right_any g 0 2 [x, y] W (by simp; omega) (by simp) (fun j hj => by
    match j, hj with
    | 0, _ => exact c0
    | 1, _ => exact c1)
  simpa using this
theorem flaw_any (l : List UInt8) (s d : Nat) (w : World) (hl : l.length ≤ 10000) (hs : s < 4294967296) (hd : d < 4294967296) :
    Calls Tryd.prog 25 #[.int .u32 (s : Int), .int .u32 (d : Int), .string (bs l)] w fun e w' => e = .returned (.int .i64 (kindOf s d l : Nat)) ∧ Below w.heap.size w w' := by
  have hz : (bs l).size = l.length := bs_size l
  unfold kindOf
  by_cases h0 : l.length < 8
  · rw [if_pos h0]; exact flaw_few _ s d w (by omega)
  rw [if_neg h0]
  have kn := fun W => uget_any l 4 W hl (by omega)
  have kc := fun W => uget_any l 6 W hl (by omega)
  have h1 : (8 : Int) ≤ ((bs l).size : Int) := by omega
  have h2 : ((bs l).size : Int) ≤ 10000 := by omega
  have hn2 := nm2_lt l 4
  by_cases hn : nm l 4 2 < 8
  · rw [if_pos hn]; exact flaw_length _ s d _ w h1 h2 (hide kn) (by omega)
  rw [if_neg hn]
  by_cases hb : l.length < nm l 4 2
  · rw [if_pos hb]; exact flaw_body _ s d _ w h1 h2 (hide kn) (by omega) (by omega)
  rw [if_neg hb]
  have kh := fun W => head_any s d 17 (nm l 4 2) 17 (nm l 4 2 : Nat) W hs hd (by decide) (by rw [IntKind.wrap_u64]; omega)
  have sl := fun W => cut_to l (nm l 4 2) (by omega) W
  have kr := fun W g h => right_two (headB s d 17 (nm l 4 2)) (l.take (nm l 4 2)) W g h (by rw [headB_length, List.length_take]; omega)
  by_cases hc : nm l 6 2 = 0
  · rw [if_neg fun x => x.1 hc]
    rw [hc] at kc
    exact flaw_bare _ s d _ w h1 h2 (hide kn) (by omega) (by omega) (hide kc)
  · have hc' : (((nm l 6 2 : Nat) : Int) != 0) = true := by rw [bne_iff_ne]; omega
    by_cases hr : fold (tot (headB s d 17 (nm l 4 2) ++ l.take (nm l 4 2))) = 65535
    · rw [if_neg fun x => x.2 hr]
      rw [decide_eq_true hr] at kr
      exact flaw_none _ s d _ _ _ _ w h1 h2 (hide kn) (by omega) (by omega) (hide kc) hc' (hide kh) sl (hide kr)
    · rw [if_pos ⟨hc, hr⟩]
      rw [decide_eq_false hr] at kr
      exact flaw_sum _ s d _ _ _ _ w h1 h2 (hide kn) (by omega) (by omega) (hide kc) hc' (hide kh) sl (hide kr)
end Go.Proofs.YtcgilcofcjehmaaDoor
