/-
  The document's answer for bytes as packets: the contracts of gangwayref06's num, Parse and Older.
-/
import Derived.Test.YtojipoifjioglaaDoorFixed6
import Derived.Test.YtojipoifjioglaaDoorRef6
import Derived.Deep.RegionHeld3
namespace Go.Proofs.YtojipoifjioglaaDoor
open Go.RowKit Go.Sort

theorem mid_cut (l : List UInt8) (a b : Nat) (h1 : a ≤ b) (h2 : b ≤ l.length) (W : World) : (Instr.slice 9 (.string (bs l)) (some (.int .i64 (a : Int))) (some (.int .i64 (b : Int))) none).run Tryd.prog W = .ok (.string (bs ((l.drop a).take (b - a)))) W := by
  have e := run_slice_string_lh (P := Tryd.prog) W 9 (bs l) Tryd.underlying9 .i64 .i64 (a : Int) (b : Int) (by omega) (by omega) (by rw [bs_size]; omega)
  rw [show ((a : Int)).toNat = a by omega, show ((b : Int)).toNat = b by omega] at e
  rw [e]
  have : (bs l).extract a b = bs ((l.drop a).take (b - a)) := by
    rw [← bs_of ((bs l).extract a b), extract_toList, bs_toList]
  rw [this]
theorem rnumS (l : List UInt8) (a n : Nat) (w : World) (h : n ≤ 4) (h2 : a + n ≤ l.length) : Calls Tryd.prog 30 #[.string (bs l), .int .i64 a, .int .i64 ((a + n : Nat) : Int)] w fun e w' => e = .returned (.int .i64 (nm l a n : Nat)) ∧ w' = w := by
  have sl := mid_cut l a (a + n) (by omega) h2
  rw [Nat.add_sub_cancel_left] at sl
  have R := hide (fun W => rnum ((l.drop a).take n) W (by rw [List.length_take]; omega))
  have hlt : nm l a n < 4294967296 := Nat.lt_of_lt_of_le (nm_lt l a n) (Nat.le_trans (Nat.pow_le_pow_right (by decide) h) (by decide))
  have e1 : IntKind.i64.wrap ((nm l a n : Nat) : Int) = ((nm l a n : Nat) : Int) := by rw [IntKind.wrap_i64]; omega
  unfold nm at *
  generalize num ((l.drop a).take n) = v at *
  generalize bs ((l.drop a).take n) = C at *
  generalize ((a + n : Nat) : Int) = b at *
  generalize (a : Int) = a' at *
  clear hlt h2
  generalize bs l = S at *
  go_enter Tryd.func30, Tryd.ntmps30
  go_wp2_with fail
  refine (unhide R _).mono ?_
  rintro e w1 ⟨rfl, rfl⟩
  go_wp2_with fail
  go_ret
  exact ⟨rfl, rfl⟩
theorem rparse_few (S : ByteArray) (w : World) (h : S.size < 20) : Calls Tryd.prog 17 #[.string S] w fun e w' => e = .returned (.tuple #[.agg #[.int .i64 0, .int .i64 0, .bool false, .bool false, .int .i64 0, .int .i64 0, .int .i64 0, .int .u32 0, .int .u32 0, .string ⟨#[]⟩], .int .i64 60]) ∧ Below w.heap.size w w' := by
  go_enter Tryd.func17, Tryd.ntmps17
  go_wp2_with fail
  refine bodyPost_ret ?_ rfl ⟨rfl, alloc_below _ _⟩
  exact results_row2 rfl _ _ w.heap.size 24 _ _ _ _ rfl rfl (heap_last w _ _ rfl) Tryd.underlying24 rfl (by kernel_rfl)
set_option maxRecDepth 100000 in
theorem rparse_version (S : ByteArray) (g : Int) (w : World) (h20 : (20 : Int) ≤ (S.size : Int)) (hl0 : (S.size : Int) ≤ 10000)
    (ki : ∀ W : World, (Instr.index 9 (.string S) (.int .i64 0)).run Tryd.prog W = .ok (.int .u8 g) W)
    (hi : (g != 69) = true) :
    Calls Tryd.prog 17 #[.string S] w fun e w' => e = .returned (.tuple #[.agg #[.int .i64 0, .int .i64 0, .bool false, .bool false, .int .i64 0, .int .i64 0, .int .i64 0, .int .u32 0, .int .u32 0, .string ⟨#[]⟩], .int .i64 61]) ∧ Below w.heap.size w w' := by
  go_enter Tryd.func17, Tryd.ntmps17
  go_wp2_with fail
  refine bodyPost_ret ?_ rfl ⟨rfl, alloc_below _ _⟩
  exact results_row2 rfl _ _ w.heap.size 24 _ _ _ _ rfl rfl (heap_last w _ _ rfl) Tryd.underlying24 rfl (by kernel_rfl)
set_option maxRecDepth 100000 in
theorem rparse_sum (S P : ByteArray) (c : Int) (w : World) (h20 : (20 : Int) ≤ (S.size : Int)) (hl0 : (S.size : Int) ≤ 10000)
    (ki : ∀ W : World, (Instr.index 9 (.string S) (.int .i64 0)).run Tryd.prog W = .ok (.int .u8 69) W)
    (sl : ∀ W, (Instr.slice 9 (.string S) none (some (.int .i64 20)) none).run Tryd.prog W = .ok (.string P) W)
    (ko : Hid (∀ W, Calls Tryd.prog 26 #[.string P] W fun e W' => e = .returned (.int .i64 c) ∧ W' = W))
    (hc : (c != 0) = true) :
    Calls Tryd.prog 17 #[.string S] w fun e w' => e = .returned (.tuple #[.agg #[.int .i64 0, .int .i64 0, .bool false, .bool false, .int .i64 0, .int .i64 0, .int .i64 0, .int .u32 0, .int .u32 0, .string ⟨#[]⟩], .int .i64 62]) ∧ Below w.heap.size w w' := by
  go_enter Tryd.func17, Tryd.ntmps17
  go_wp2_with fail
  refine (unhide ko _).mono ?_
  rintro e w1 ⟨rfl, rfl⟩
  go_wp2_with fail
  refine bodyPost_ret ?_ rfl ⟨rfl, alloc_below _ _⟩
  exact results_row2 rfl _ _ w.heap.size 24 _ _ _ _ rfl rfl (heap_last w _ _ rfl) Tryd.underlying24 rfl (by kernel_rfl)
set_option maxRecDepth 100000 in
theorem rparse_length (S P : ByteArray) (n f : Int) (w : World) (h20 : (20 : Int) ≤ (S.size : Int)) (hl0 : (S.size : Int) ≤ 10000)
    (ki : ∀ W : World, (Instr.index 9 (.string S) (.int .i64 0)).run Tryd.prog W = .ok (.int .u8 69) W)
    (sl : ∀ W, (Instr.slice 9 (.string S) none (some (.int .i64 20)) none).run Tryd.prog W = .ok (.string P) W)
    (ko : Hid (∀ W, Calls Tryd.prog 26 #[.string P] W fun e W' => e = .returned (.int .i64 0) ∧ W' = W))
    (kn : Hid (∀ W, Calls Tryd.prog 30 #[.string S, .int .i64 2, .int .i64 4] W fun e W' => e = .returned (.int .i64 n) ∧ W' = W))
    (kf : Hid (∀ W, Calls Tryd.prog 30 #[.string S, .int .i64 6, .int .i64 8] W fun e W' => e = .returned (.int .i64 f) ∧ W' = W))
    (hn : n < 20) :
    Calls Tryd.prog 17 #[.string S] w fun e w' => e = .returned (.tuple #[.agg #[.int .i64 0, .int .i64 0, .bool false, .bool false, .int .i64 0, .int .i64 0, .int .i64 0, .int .u32 0, .int .u32 0, .string ⟨#[]⟩], .int .i64 61]) ∧ Below w.heap.size w w' := by
  go_enter Tryd.func17, Tryd.ntmps17
  go_wp2_with fail
  refine (unhide ko _).mono ?_
  rintro e w1 ⟨rfl, rfl⟩
  go_wp2_with fail
  refine (unhide kn _).mono ?_
  rintro e w1 ⟨rfl, rfl⟩
  go_wp2_with fail
  refine (unhide kf _).mono ?_
  rintro e w1 ⟨rfl, rfl⟩
  go_wp2_with fail
  refine bodyPost_ret ?_ rfl ⟨rfl, alloc_below _ _⟩
  exact results_row2 rfl _ _ w.heap.size 24 _ _ _ _ rfl rfl (heap_last w _ _ rfl) Tryd.underlying24 rfl (by kernel_rfl)
set_option maxRecDepth 100000 in
theorem rparse_flags (S P : ByteArray) (n f : Int) (w : World) (h20 : (20 : Int) ≤ (S.size : Int)) (hl0 : (S.size : Int) ≤ 10000)
    (ki : ∀ W : World, (Instr.index 9 (.string S) (.int .i64 0)).run Tryd.prog W = .ok (.int .u8 69) W)
    (sl : ∀ W, (Instr.slice 9 (.string S) none (some (.int .i64 20)) none).run Tryd.prog W = .ok (.string P) W)
    (ko : Hid (∀ W, Calls Tryd.prog 26 #[.string P] W fun e W' => e = .returned (.int .i64 0) ∧ W' = W))
    (kn : Hid (∀ W, Calls Tryd.prog 30 #[.string S, .int .i64 2, .int .i64 4] W fun e W' => e = .returned (.int .i64 n) ∧ W' = W))
    (kf : Hid (∀ W, Calls Tryd.prog 30 #[.string S, .int .i64 6, .int .i64 8] W fun e W' => e = .returned (.int .i64 f) ∧ W' = W))
    (hn : ¬ n < 20) (hf : (32768 : Int) ≤ f) :
    Calls Tryd.prog 17 #[.string S] w fun e w' => e = .returned (.tuple #[.agg #[.int .i64 0, .int .i64 0, .bool false, .bool false, .int .i64 0, .int .i64 0, .int .i64 0, .int .u32 0, .int .u32 0, .string ⟨#[]⟩], .int .i64 61]) ∧ Below w.heap.size w w' := by
  go_enter Tryd.func17, Tryd.ntmps17
  go_wp2_with fail
  refine (unhide ko _).mono ?_
  rintro e w1 ⟨rfl, rfl⟩
  go_wp2_with fail
  refine (unhide kn _).mono ?_
  rintro e w1 ⟨rfl, rfl⟩
  go_wp2_with fail
  refine (unhide kf _).mono ?_
  rintro e w1 ⟨rfl, rfl⟩
  go_wp2_with fail
  refine bodyPost_ret ?_ rfl ⟨rfl, alloc_below _ _⟩
  exact results_row2 rfl _ _ w.heap.size 24 _ _ _ _ rfl rfl (heap_last w _ _ rfl) Tryd.underlying24 rfl (by kernel_rfl)
set_option maxRecDepth 100000 in
theorem rparse_body (S P : ByteArray) (n f : Int) (w : World) (h20 : (20 : Int) ≤ (S.size : Int)) (hl0 : (S.size : Int) ≤ 10000)
    (ki : ∀ W : World, (Instr.index 9 (.string S) (.int .i64 0)).run Tryd.prog W = .ok (.int .u8 69) W)
    (sl : ∀ W, (Instr.slice 9 (.string S) none (some (.int .i64 20)) none).run Tryd.prog W = .ok (.string P) W)
    (ko : Hid (∀ W, Calls Tryd.prog 26 #[.string P] W fun e W' => e = .returned (.int .i64 0) ∧ W' = W))
    (kn : Hid (∀ W, Calls Tryd.prog 30 #[.string S, .int .i64 2, .int .i64 4] W fun e W' => e = .returned (.int .i64 n) ∧ W' = W))
    (kf : Hid (∀ W, Calls Tryd.prog 30 #[.string S, .int .i64 6, .int .i64 8] W fun e W' => e = .returned (.int .i64 f) ∧ W' = W))
    (hn : ¬ n < 20) (hf : ¬ (32768 : Int) ≤ f) (hb : (S.size : Int) < n) :
    Calls Tryd.prog 17 #[.string S] w fun e w' => e = .returned (.tuple #[.agg #[.int .i64 0, .int .i64 0, .bool false, .bool false, .int .i64 0, .int .i64 0, .int .i64 0, .int .u32 0, .int .u32 0, .string ⟨#[]⟩], .int .i64 60]) ∧ Below w.heap.size w w' := by
  go_enter Tryd.func17, Tryd.ntmps17
  go_wp2_with fail
  refine (unhide ko _).mono ?_
  rintro e w1 ⟨rfl, rfl⟩
  go_wp2_with fail
  refine (unhide kn _).mono ?_
  rintro e w1 ⟨rfl, rfl⟩
  go_wp2_with fail
  refine (unhide kf _).mono ?_
  rintro e w1 ⟨rfl, rfl⟩
  go_wp2_with fail
  refine bodyPost_ret ?_ rfl ⟨rfl, alloc_below _ _⟩
  exact results_row2 rfl _ _ w.heap.size 24 _ _ _ _ rfl rfl (heap_last w _ _ rfl) Tryd.underlying24 rfl (by kernel_rfl)
set_option maxRecDepth 100000 in
set_option maxHeartbeats 4000000 in
theorem rparse_none (S P B : ByteArray) (n f : Int) (a b o t q s d : Nat) (x y : Bool) (w : World) (h20 : (20 : Int) ≤ (S.size : Int)) (hl0 : (S.size : Int) ≤ 10000) (hs : s < 4294967296) (hd : d < 4294967296)
    (ki : ∀ W : World, (Instr.index 9 (.string S) (.int .i64 0)).run Tryd.prog W = .ok (.int .u8 69) W)
    (sl : ∀ W, (Instr.slice 9 (.string S) none (some (.int .i64 20)) none).run Tryd.prog W = .ok (.string P) W)
    (ko : Hid (∀ W, Calls Tryd.prog 26 #[.string P] W fun e W' => e = .returned (.int .i64 0) ∧ W' = W))
    (kn : Hid (∀ W, Calls Tryd.prog 30 #[.string S, .int .i64 2, .int .i64 4] W fun e W' => e = .returned (.int .i64 n) ∧ W' = W))
    (kf : Hid (∀ W, Calls Tryd.prog 30 #[.string S, .int .i64 6, .int .i64 8] W fun e W' => e = .returned (.int .i64 f) ∧ W' = W))
    (hn : ¬ n < 20) (hf : ¬ (32768 : Int) ≤ f) (hb : ¬ (S.size : Int) < n)
    (na : Hid (∀ W, Calls Tryd.prog 30 #[.string S, .int .i64 1, .int .i64 2] W fun e W' => e = .returned (.int .i64 a) ∧ W' = W))
    (nb : Hid (∀ W, Calls Tryd.prog 30 #[.string S, .int .i64 4, .int .i64 6] W fun e W' => e = .returned (.int .i64 b) ∧ W' = W))
    (nt : Hid (∀ W, Calls Tryd.prog 30 #[.string S, .int .i64 8, .int .i64 9] W fun e W' => e = .returned (.int .i64 t) ∧ W' = W))
    (nq : Hid (∀ W, Calls Tryd.prog 30 #[.string S, .int .i64 9, .int .i64 10] W fun e W' => e = .returned (.int .i64 q) ∧ W' = W))
    (ns : Hid (∀ W, Calls Tryd.prog 30 #[.string S, .int .i64 12, .int .i64 16] W fun e W' => e = .returned (.int .i64 s) ∧ W' = W))
    (nd : Hid (∀ W, Calls Tryd.prog 30 #[.string S, .int .i64 16, .int .i64 20] W fun e W' => e = .returned (.int .i64 d) ∧ W' = W))
    (q1 : (IntKind.i64.wrap (f.tdiv 16384) == 1) = x)
    (q2 : ((IntKind.i64.wrap (f.tdiv 8192)).tmod 2 == 1) = y)
    (q4 : f.tmod 8192 = (o : Int))
    (sb : ∀ W, (Instr.slice 9 (.string S) (some (.int .i64 20)) (some (.int .i64 n)) none).run Tryd.prog W = .ok (.string B) W) :
    Calls Tryd.prog 17 #[.string S] w fun e w' => e = .returned (.tuple #[.agg #[.int .i64 a, .int .i64 b, .bool x, .bool y, .int .i64 o, .int .i64 t, .int .i64 q, .int .u32 s, .int .u32 d, .string B], .int .i64 0]) ∧ Below w.heap.size w w' := by
  have e1 : IntKind.u32.wrap (s : Int) = (s : Int) := by rw [IntKind.wrap_u32]; omega
  have e2 : IntKind.u32.wrap (d : Int) = (d : Int) := by rw [IntKind.wrap_u32]; omega
  clear hs hd
  go_enter Tryd.func17, Tryd.ntmps17
  go_wp2_with fail
  refine (unhide ko _).mono ?_
  rintro e w1 ⟨rfl, rfl⟩
  go_wp2_with fail
  refine (unhide kn _).mono ?_
  rintro e w1 ⟨rfl, rfl⟩
  go_wp2_with fail
  refine (unhide kf _).mono ?_
  rintro e w1 ⟨rfl, rfl⟩
  go_wp2_with fail
  go_region_held3 (fun _ => True) (exact True.intro) (first | (go_at_call_of 30 (#[.string S, .int .i64 1, .int .i64 2] : Array Value); refine (unhide na _).mono ?_; rintro e' w3 ⟨rfl, rfl⟩) | (go_at_call_of 30 (#[.string S, .int .i64 4, .int .i64 6] : Array Value); refine (unhide nb _).mono ?_; rintro e' w3 ⟨rfl, rfl⟩) | (go_at_call_of 30 (#[.string S, .int .i64 8, .int .i64 9] : Array Value); refine (unhide nt _).mono ?_; rintro e' w3 ⟨rfl, rfl⟩) | (go_at_call_of 30 (#[.string S, .int .i64 9, .int .i64 10] : Array Value); refine (unhide nq _).mono ?_; rintro e' w3 ⟨rfl, rfl⟩) | (go_at_call_of 30 (#[.string S, .int .i64 12, .int .i64 16] : Array Value); refine (unhide ns _).mono ?_; rintro e' w3 ⟨rfl, rfl⟩) | (go_at_call_of 30 (#[.string S, .int .i64 16, .int .i64 20] : Array Value); refine (unhide nd _).mono ?_; rintro e' w3 ⟨rfl, rfl⟩))
  all_goals
    go_wp2_with fail
    refine bodyPost_ret ?_ rfl ⟨rfl, (alloc_below _ _).drew⟩
    exact results_row2 rfl _ _ w.heap.size 24 _ _ _ _ rfl rfl (heap_last w _ _ rfl) Tryd.underlying24 rfl (by kernel_rfl)
theorem div_bit (f : Nat) (hf : f < 32768) : (IntKind.i64.wrap ((f : Int).tdiv 16384) == 1) = decide (f / 16384 % 2 = 1) := by
  rw [Int.tdiv_eq_ediv_of_nonneg (by omega), IntKind.wrap_i64]
  by_cases h : f / 16384 % 2 = 1
  · rw [decide_eq_true h, beq_iff_eq]; omega
  · rw [decide_eq_false h, beq_eq_false_iff_ne]; omega
theorem div_bit2 (f : Nat) (hf : f < 32768) : ((IntKind.i64.wrap ((f : Int).tdiv 8192)).tmod 2 == 1) = decide (f / 8192 % 2 = 1) := by
  rw [Int.tdiv_eq_ediv_of_nonneg (by omega), IntKind.wrap_i64]
  rw [Int.tmod_eq_emod_of_nonneg (by omega)]
  by_cases h : f / 8192 % 2 = 1
  · rw [decide_eq_true h, beq_iff_eq]; omega
  · rw [decide_eq_false h, beq_eq_false_iff_ne]; omega
theorem nm_first (l : List UInt8) (h : 0 < l.length) : nm l 0 1 = (l[0]).toNat := by
  unfold nm
  have e2 : (l.drop 0).take 1 = [l[0]] := by
    rw [List.drop_eq_getElem_cons h]; rfl
  rw [e2]
  show num ([] ++ [l[0]]) = _
  rw [num_snoc]
  show 0 * 256 + _ = _
  omega
theorem first_of (l : List UInt8) (h : 0 < l.length) (W : World) : (Instr.index 9 (.string (bs l)) (.int .i64 0)).run Tryd.prog W = .ok (.int .u8 ((nm l 0 1 : Nat) : Int)) W := by
  have hs := bs_size l
  have e := run_index_string (P := Tryd.prog) (w := W) 9 (bs l) .i64 0 Tryd.underlying9
  rw [dif_pos ⟨by omega, by omega⟩] at e
  rw [nm_first l h]
  exact e
theorem rparse_any (l : List UInt8) (w : World) (hl : l.length ≤ 1720) : Calls Tryd.prog 17 #[.string (bs l)] w fun e w' => e = .returned (.tuple #[(Pk.parse l).1.val, .int .i64 (Pk.parse l).2]) ∧ Below w.heap.size w w' := by
  have hs : (bs l).size = l.length := bs_size l
  have bad : ∀ c : Int, c ≠ 0 → flawOf l = c → (Pk.parse l).1.val = .agg #[.int .i64 0, .int .i64 0, .bool false, .bool false, .int .i64 0, .int .i64 0, .int .i64 0, .int .u32 0, .int .u32 0, .string ⟨#[]⟩] ∧ (Pk.parse l).2 = c := fun c hc h => by
    have : Pk.parse l = (.none, c) := by unfold Pk.parse; rw [h]; exact if_neg hc
    rw [this]; exact ⟨rfl, rfl⟩
  by_cases h0 : l.length < 20
  · obtain ⟨e1, e2⟩ := bad 60 (by decide) (by unfold flawOf; rw [if_pos h0])
    rw [e1, e2]; exact rparse_few _ w (by omega)
  have kn := fun W => rnumS l 2 2 W (by decide) (by omega)
  have kf := fun W => rnumS l 6 2 W (by decide) (by omega)
  have ki := first_of l (by omega)
  have sl := fun W => cut_to l 20 (by omega) W
  have ko := fun W => rof (l.take 20) W (by rw [List.length_take]; omega)
  have hg := nm2_lt l 6
  have h1 : (20 : Int) ≤ ((bs l).size : Int) := by omega
  have h2 : ((bs l).size : Int) ≤ 10000 := by omega
  have hfl := fold_le (tot (l.take 20))
  by_cases hf : nm l 0 1 = 69
  · rw [hf] at ki
    by_cases hr : fold (tot (l.take 20)) = 65535
    · have hck : ck (l.take 20) = 0 := by unfold ck; omega
      rw [hck] at ko
      by_cases hn : nm l 2 2 < 20
      · obtain ⟨e1, e2⟩ := bad 61 (by decide) (by unfold flawOf; rw [if_neg h0, if_neg (by simpa using hf), if_neg (by simpa using hr), if_pos hn])
        rw [e1, e2]; exact rparse_length _ _ _ _ w h1 h2 ki sl (hide ko) (hide kn) (hide kf) (by omega)
      · by_cases hz : 32768 ≤ nm l 6 2
        · obtain ⟨e1, e2⟩ := bad 61 (by decide) (by unfold flawOf; rw [if_neg h0, if_neg (by simpa using hf), if_neg (by simpa using hr), if_neg hn, if_pos hz])
          rw [e1, e2]; exact rparse_flags _ _ _ _ w h1 h2 ki sl (hide ko) (hide kn) (hide kf) (by omega) (by omega)
        · by_cases hb : l.length < nm l 2 2
          · obtain ⟨e1, e2⟩ := bad 60 (by decide) (by unfold flawOf; rw [if_neg h0, if_neg (by simpa using hf), if_neg (by simpa using hr), if_neg hn, if_neg hz, if_pos hb])
            rw [e1, e2]; exact rparse_body _ _ _ _ w h1 h2 ki sl (hide ko) (hide kn) (hide kf) (by omega) (by omega) (by omega)
          · have hfw : flawOf l = 0 := by unfold flawOf; rw [if_neg h0, if_neg (by simpa using hf), if_neg (by simpa using hr), if_neg hn, if_neg hz, if_neg hb]
            have e1 : Pk.parse l = (Pk.of l, 0) := if_pos hfw
            rw [e1]
            exact rparse_none (bs l) _ (bs (Pk.of l).body) _ _ _ _ _ _ _ _ _ _ _ w h1 h2 (nm4_lt l 12) (nm4_lt l 16) ki sl (hide ko) (hide kn) (hide kf) (by omega) (by omega) (by omega)
              (hide fun W => rnumS l 1 1 W (by decide) (by omega)) (hide fun W => rnumS l 4 2 W (by decide) (by omega)) (hide fun W => rnumS l 8 1 W (by decide) (by omega)) (hide fun W => rnumS l 9 1 W (by decide) (by omega)) (hide fun W => rnumS l 12 4 W (by decide) (by omega)) (hide fun W => rnumS l 16 4 W (by decide) (by omega))
              (div_bit _ (by omega)) (div_bit2 _ (by omega)) (by rw [Int.tmod_eq_emod_of_nonneg (by omega)]; omega) (fun W => mid_cut l 20 (nm l 2 2) (by omega) (by omega) W)
    · obtain ⟨e1, e2⟩ := bad 62 (by decide) (by unfold flawOf; rw [if_neg h0, if_neg (by simpa using hf), if_pos hr])
      have hck : ck (l.take 20) ≠ 0 := by unfold ck; omega
      rw [e1, e2]; exact rparse_sum _ _ _ w h1 h2 ki sl (hide ko) (by rw [bne_iff_ne]; omega)
  · obtain ⟨e1, e2⟩ := bad 61 (by decide) (by unfold flawOf; rw [if_neg h0, if_pos hf])
    rw [e1, e2]; exact rparse_version _ _ w h1 h2 ki (by rw [bne_iff_ne]; omega)
end Go.Proofs.YtojipoifjioglaaDoor
