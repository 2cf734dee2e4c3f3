/-
  The contracts of inet.flaw: what is wrong with bytes; no cell that was there before has turned.
-/
import Derived.Test.YtojipoifjioglaaDoorInet2
import Derived.Test.YtojipoifjioglaaDoorCut6
namespace Go.Proofs.YtojipoifjioglaaDoor
open Go.RowKit Go.Sort

theorem flaw_few (S : ByteArray) (w : World) (h : S.size < 20) : Calls Tryd.prog 28 #[.string S] w fun e w' => ∃ E, e = .returned E ∧ Fl 60 E ∧ Below w.heap.size w w' := by
  go_enter Tryd.func28, Tryd.ntmps28
  go_wp2_with fail
  go_ret
  exact ⟨_, rfl, fl_some (by decide) _, Below.refl _ _⟩
set_option maxRecDepth 100000 in
theorem flaw_version (S : ByteArray) (n f : Nat) (w : World) (h20 : (20 : Int) ≤ (S.size : Int)) (hl0 : (S.size : Int) ≤ 10000)
    (kn : Hid (∀ W, Calls Tryd.prog 31 #[.string S, .int .i64 2, .int .i64 2] W fun e W' => e = .returned (.int .i64 n) ∧ W' = W))
    (kf : Hid (∀ W, Calls Tryd.prog 31 #[.string S, .int .i64 0, .int .i64 1] W fun e W' => e = .returned (.int .i64 f) ∧ W' = W))
    (hf : ((f : Int) != 69) = true) :
    Calls Tryd.prog 28 #[.string S] w fun e w' => ∃ E, e = .returned E ∧ Fl 61 E ∧ Below w.heap.size w w' := by
  go_enter Tryd.func28, Tryd.ntmps28
  go_wp2_with fail
  refine (unhide kn _).mono ?_
  rintro e w1 ⟨rfl, rfl⟩
  go_wp2_with fail
  refine (unhide kf _).mono ?_
  rintro e w1 ⟨rfl, rfl⟩
  go_wp2_with fail
  go_ret
  exact ⟨_, rfl, fl_some (by decide) _, Below.refl _ _⟩
set_option maxRecDepth 100000 in
theorem flaw_sum (S P : ByteArray) (n : Nat) (w : World) (h20 : (20 : Int) ≤ (S.size : Int)) (hl0 : (S.size : Int) ≤ 10000)
    (kn : Hid (∀ W, Calls Tryd.prog 31 #[.string S, .int .i64 2, .int .i64 2] W fun e W' => e = .returned (.int .i64 n) ∧ W' = W))
    (kf : Hid (∀ W, Calls Tryd.prog 31 #[.string S, .int .i64 0, .int .i64 1] W fun e W' => e = .returned (.int .i64 69) ∧ W' = W))
    (sl : ∀ W, (Instr.slice 9 (.string S) none (some (.int .i64 20)) none).run Tryd.prog W = .ok (.string P) W)
    (kr : Hid (∀ W h, W.heap[h]? = some (.cells #[.string P] 9 (0, 0)) → Calls Tryd.prog 42 #[.slice (some ⟨h, 0, none⟩) 1 1] W fun e W' => e = .returned (.bool false) ∧ W' = W)) :
    Calls Tryd.prog 28 #[.string S] w fun e w' => ∃ E, e = .returned E ∧ Fl 62 E ∧ Below w.heap.size w w' := by
  go_enter Tryd.func28, Tryd.ntmps28
  go_wp2_with fail
  refine (unhide kn _).mono ?_
  rintro e w1 ⟨rfl, rfl⟩
  go_wp2_with fail
  refine (unhide kf _).mono ?_
  rintro e w1 ⟨rfl, rfl⟩
  go_wp2_with fail
  refine (unhide kr _ _ (heap_alloc_new _ _)).mono ?_
  rintro e w1 ⟨rfl, rfl⟩
  go_wp2_with fail
  go_ret
  exact ⟨_, rfl, fl_some (by decide) _, alloc_below _ _⟩
set_option maxRecDepth 100000 in
theorem flaw_length (S P : ByteArray) (n : Nat) (w : World) (h20 : (20 : Int) ≤ (S.size : Int)) (hl0 : (S.size : Int) ≤ 10000)
    (kn : Hid (∀ W, Calls Tryd.prog 31 #[.string S, .int .i64 2, .int .i64 2] W fun e W' => e = .returned (.int .i64 n) ∧ W' = W))
    (kf : Hid (∀ W, Calls Tryd.prog 31 #[.string S, .int .i64 0, .int .i64 1] W fun e W' => e = .returned (.int .i64 69) ∧ W' = W))
    (sl : ∀ W, (Instr.slice 9 (.string S) none (some (.int .i64 20)) none).run Tryd.prog W = .ok (.string P) W)
    (kr : Hid (∀ W h, W.heap[h]? = some (.cells #[.string P] 9 (0, 0)) → Calls Tryd.prog 42 #[.slice (some ⟨h, 0, none⟩) 1 1] W fun e W' => e = .returned (.bool true) ∧ W' = W))
    (hn : (n : Int) < 20) :
    Calls Tryd.prog 28 #[.string S] w fun e w' => ∃ E, e = .returned E ∧ Fl 61 E ∧ Below w.heap.size w w' := by
  go_enter Tryd.func28, Tryd.ntmps28
  go_wp2_with fail
  refine (unhide kn _).mono ?_
  rintro e w1 ⟨rfl, rfl⟩
  go_wp2_with fail
  refine (unhide kf _).mono ?_
  rintro e w1 ⟨rfl, rfl⟩
  go_wp2_with fail
  refine (unhide kr _ _ (heap_alloc_new _ _)).mono ?_
  rintro e w1 ⟨rfl, rfl⟩
  go_wp2_with fail
  go_ret
  exact ⟨_, rfl, fl_some (by decide) _, alloc_below _ _⟩
set_option maxRecDepth 100000 in
theorem flaw_flags (S P : ByteArray) (n g k : Nat) (w : World) (h20 : (20 : Int) ≤ (S.size : Int)) (hl0 : (S.size : Int) ≤ 10000)
    (kn : Hid (∀ W, Calls Tryd.prog 31 #[.string S, .int .i64 2, .int .i64 2] W fun e W' => e = .returned (.int .i64 n) ∧ W' = W))
    (kf : Hid (∀ W, Calls Tryd.prog 31 #[.string S, .int .i64 0, .int .i64 1] W fun e W' => e = .returned (.int .i64 69) ∧ W' = W))
    (sl : ∀ W, (Instr.slice 9 (.string S) none (some (.int .i64 20)) none).run Tryd.prog W = .ok (.string P) W)
    (kr : Hid (∀ W h, W.heap[h]? = some (.cells #[.string P] 9 (0, 0)) → Calls Tryd.prog 42 #[.slice (some ⟨h, 0, none⟩) 1 1] W fun e W' => e = .returned (.bool true) ∧ W' = W))
    (hn : ¬ (n : Int) < 20)
    (kg : Hid (∀ W, Calls Tryd.prog 31 #[.string S, .int .i64 6, .int .i64 2] W fun e W' => e = .returned (.int .i64 g) ∧ W' = W))
    (hk : bits BinOp.and IntKind.i64 (g : Int) 32768 = (k : Int))
    (hz : ((k : Int) != 0) = true) :
    Calls Tryd.prog 28 #[.string S] w fun e w' => ∃ E, e = .returned E ∧ Fl 61 E ∧ Below w.heap.size w w' := by
  go_enter Tryd.func28, Tryd.ntmps28
  go_wp2_with fail
  refine (unhide kn _).mono ?_
  rintro e w1 ⟨rfl, rfl⟩
  go_wp2_with fail
  refine (unhide kf _).mono ?_
  rintro e w1 ⟨rfl, rfl⟩
  go_wp2_with fail
  refine (unhide kr _ _ (heap_alloc_new _ _)).mono ?_
  rintro e w1 ⟨rfl, rfl⟩
  go_wp2_with fail
  refine (unhide kg _).mono ?_
  rintro e w1 ⟨rfl, rfl⟩
  go_wp2_with fail
  go_ret
  exact ⟨_, rfl, fl_some (by decide) _, alloc_below _ _⟩
set_option maxRecDepth 100000 in
theorem flaw_body (S P : ByteArray) (n g : Nat) (w : World) (h20 : (20 : Int) ≤ (S.size : Int)) (hl0 : (S.size : Int) ≤ 10000)
    (kn : Hid (∀ W, Calls Tryd.prog 31 #[.string S, .int .i64 2, .int .i64 2] W fun e W' => e = .returned (.int .i64 n) ∧ W' = W))
    (kf : Hid (∀ W, Calls Tryd.prog 31 #[.string S, .int .i64 0, .int .i64 1] W fun e W' => e = .returned (.int .i64 69) ∧ W' = W))
    (sl : ∀ W, (Instr.slice 9 (.string S) none (some (.int .i64 20)) none).run Tryd.prog W = .ok (.string P) W)
    (kr : Hid (∀ W h, W.heap[h]? = some (.cells #[.string P] 9 (0, 0)) → Calls Tryd.prog 42 #[.slice (some ⟨h, 0, none⟩) 1 1] W fun e W' => e = .returned (.bool true) ∧ W' = W))
    (hn : ¬ (n : Int) < 20)
    (kg : Hid (∀ W, Calls Tryd.prog 31 #[.string S, .int .i64 6, .int .i64 2] W fun e W' => e = .returned (.int .i64 g) ∧ W' = W))
    (hk : bits BinOp.and IntKind.i64 (g : Int) 32768 = 0)
    (hb : (S.size : Int) < (n : Int)) :
    Calls Tryd.prog 28 #[.string S] w fun e w' => ∃ E, e = .returned E ∧ Fl 60 E ∧ Below w.heap.size w w' := by
  go_enter Tryd.func28, Tryd.ntmps28
  go_wp2_with fail
  refine (unhide kn _).mono ?_
  rintro e w1 ⟨rfl, rfl⟩
  go_wp2_with fail
  refine (unhide kf _).mono ?_
  rintro e w1 ⟨rfl, rfl⟩
  go_wp2_with fail
  refine (unhide kr _ _ (heap_alloc_new _ _)).mono ?_
  rintro e w1 ⟨rfl, rfl⟩
  go_wp2_with fail
  refine (unhide kg _).mono ?_
  rintro e w1 ⟨rfl, rfl⟩
  go_wp2_with fail
  go_ret
  exact ⟨_, rfl, fl_some (by decide) _, alloc_below _ _⟩
set_option maxRecDepth 100000 in
theorem flaw_none (S P : ByteArray) (n g : Nat) (w : World) (h20 : (20 : Int) ≤ (S.size : Int)) (hl0 : (S.size : Int) ≤ 10000)
    (kn : Hid (∀ W, Calls Tryd.prog 31 #[.string S, .int .i64 2, .int .i64 2] W fun e W' => e = .returned (.int .i64 n) ∧ W' = W))
    (kf : Hid (∀ W, Calls Tryd.prog 31 #[.string S, .int .i64 0, .int .i64 1] W fun e W' => e = .returned (.int .i64 69) ∧ W' = W))
    (sl : ∀ W, (Instr.slice 9 (.string S) none (some (.int .i64 20)) none).run Tryd.prog W = .ok (.string P) W)
    (kr : Hid (∀ W h, W.heap[h]? = some (.cells #[.string P] 9 (0, 0)) → Calls Tryd.prog 42 #[.slice (some ⟨h, 0, none⟩) 1 1] W fun e W' => e = .returned (.bool true) ∧ W' = W))
    (hn : ¬ (n : Int) < 20)
    (kg : Hid (∀ W, Calls Tryd.prog 31 #[.string S, .int .i64 6, .int .i64 2] W fun e W' => e = .returned (.int .i64 g) ∧ W' = W))
    (hk : bits BinOp.and IntKind.i64 (g : Int) 32768 = 0)
    (hb : ¬ (S.size : Int) < (n : Int)) :
    Calls Tryd.prog 28 #[.string S] w fun e w' => ∃ E, e = .returned E ∧ Fl 0 E ∧ Below w.heap.size w w' := by
  go_enter Tryd.func28, Tryd.ntmps28
  go_wp2_with fail
  refine (unhide kn _).mono ?_
  rintro e w1 ⟨rfl, rfl⟩
  go_wp2_with fail
  refine (unhide kf _).mono ?_
  rintro e w1 ⟨rfl, rfl⟩
  go_wp2_with fail
  refine (unhide kr _ _ (heap_alloc_new _ _)).mono ?_
  rintro e w1 ⟨rfl, rfl⟩
  go_wp2_with fail
  refine (unhide kg _).mono ?_
  rintro e w1 ⟨rfl, rfl⟩
  go_wp2_with fail
  go_ret
  exact ⟨_, rfl, fl_nil, alloc_below _ _⟩
theorem cut_to (l : List UInt8) (k : Nat) (h : k ≤ l.length) (W : World) : (Instr.slice 9 (.string (bs l)) none (some (.int .i64 (k : Int))) none).run Tryd.prog W = .ok (.string (bs (l.take k))) W := by
  have e := run_slice_string_h (P := Tryd.prog) W 9 (bs l) Tryd.underlying9 .i64 (k : Int) (by omega) (by rw [bs_size]; omega)
  rw [show ((k : Int)).toNat = k by omega] at e
  rw [e]
  have : (bs l).extract 0 k = bs (l.take k) := by
    rw [← bs_of ((bs l).extract 0 k), extract_toList, bs_toList]; simp
  rw [this]
theorem right_row (x : List UInt8) (W : World) (g : Nat) (h : W.heap[g]? = some (.cells #[.string (bs x)] 9 (0, 0))) (hl : x.length ≤ 10000) :
    Calls Tryd.prog 42 #[.slice (some ⟨g, 0, none⟩) 1 1] W fun e W' => e = .returned (.bool (decide (fold (tot x) = 65535))) ∧ W' = W := by
  have c0 := cell_of_row W g 0 _ _ _ h
  have := right_any g 0 1 [x] W (by simp; omega) (by simp) (fun j hj => by
    match j, hj with
    | 0, _ => exact c0)
  simpa using this
theorem high_and (g : Nat) (h : g < 65536) : (g &&& 32768 = 0 ↔ g < 32768) := by
  have := bit_and g 15
  rw [show (2 : Nat) ^ 15 = 32768 from rfl] at this
  constructor
  · intro e
    rw [e] at this
    have h2 := of_decide_eq_false (show decide (g / 32768 % 2 = 1) = false from this.symm)
    omega
  · intro e
    rw [decide_eq_false (by omega)] at this
    simpa using this
theorem flaw_any (l : List UInt8) (w : World) (hl : l.length ≤ 10000) : Calls Tryd.prog 28 #[.string (bs l)] w fun e w' => ∃ E, e = .returned E ∧ Fl (flawOf l) E ∧ Below w.heap.size w w' := by
  have hs : (bs l).size = l.length := bs_size l
  unfold flawOf
  by_cases h0 : l.length < 20
  · rw [if_pos h0]; exact flaw_few _ w (by omega)
  rw [if_neg h0]
  have kn := fun W => iget_any l 2 2 W hl (by decide) (by decide) (by omega)
  have kf := fun W => iget_any l 0 1 W hl (by decide) (by decide) (by omega)
  have kg := fun W => iget_any l 6 2 W hl (by decide) (by decide) (by omega)
  have sl := fun W => cut_to l 20 (by omega) W
  have kr := fun W g h => right_row (l.take 20) W g h (by rw [List.length_take]; omega)
  have hg := nm2_lt l 6
  have hand := i64_and_nat (nm l 6 2) 32768 hg (by decide)
  have h1 : (20 : Int) ≤ ((bs l).size : Int) := by omega
  have h2 : ((bs l).size : Int) ≤ 10000 := by omega
  by_cases hf : nm l 0 1 = 69
  · rw [if_neg (by simpa using hf)]
    rw [hf] at kf
    by_cases hr : fold (tot (l.take 20)) = 65535
    · rw [if_neg (by simpa using hr)]
      rw [decide_eq_true hr] at kr
      by_cases hn : nm l 2 2 < 20
      · rw [if_pos hn]
        exact flaw_length _ _ _ w h1 h2 (hide kn) (hide kf) sl (hide kr) (by omega)
      · rw [if_neg hn]
        by_cases hz : 32768 ≤ nm l 6 2
        · rw [if_pos hz]
          exact flaw_flags _ _ _ _ _ w h1 h2 (hide kn) (hide kf) sl (hide kr) (by omega) (hide kg) hand (by
            have : ¬ (nm l 6 2 &&& 32768) = 0 := fun e => by have := (high_and _ hg).1 e; omega
            rw [bne_iff_ne]; omega)
        · rw [if_neg hz]
          rw [(high_and _ hg).2 (by omega)] at hand
          by_cases hb : l.length < nm l 2 2
          · rw [if_pos hb]
            exact flaw_body _ _ _ _ w h1 h2 (hide kn) (hide kf) sl (hide kr) (by omega) (hide kg) hand (by omega)
          · rw [if_neg hb]
            exact flaw_none _ _ _ _ w h1 h2 (hide kn) (hide kf) sl (hide kr) (by omega) (hide kg) hand (by omega)
    · rw [if_pos hr]
      rw [decide_eq_false hr] at kr
      exact flaw_sum _ _ _ w h1 h2 (hide kn) (hide kf) sl (hide kr)
  · rw [if_pos hf]
    exact flaw_version _ _ _ w h1 h2 (hide kn) (hide kf) (by rw [bne_iff_ne]; omega)
end Go.Proofs.YtojipoifjioglaaDoor
