/-
  The contracts of inet.read, Parse and Older over plain bytes: the packet of bytes, bytes with a Ttl 1 less; no cell that was there before has turned.
-/
import Derived.Test.YtojipoifjioglaaDoorInet4
namespace Go.Proofs.YtojipoifjioglaaDoor
open Go.RowKit Go.Sort

theorem bit_int (f i : Nat) : (((f &&& 2 ^ i : Nat) : Int) != 0) = decide (f / 2 ^ i % 2 = 1) := by
  rw [← bit_and]
  generalize f &&& 2 ^ i = x
  rw [Bool.eq_iff_iff]
  simp
theorem read_any (l : List UInt8) (w : World) (hl : l.length ≤ 10000) (h : flawOf l = 0) : Calls Tryd.prog 29 #[.string (bs l)] w fun e w' => e = .returned (Pk.of l).val ∧ Below w.heap.size w w' := by
  obtain ⟨h1, h2, h3, h4, h5, h6⟩ := flaw_spec h
  have hg := nm2_lt l 6
  have kc := fun W => cut_ok (bs l) 20 (nm l 2 2 - 20) W (by rw [bs_size]; omega) (by rw [bs_size]; omega)
  rw [show (bs l).extract 20 (20 + (nm l 2 2 - 20)) = bs ((l.drop 20).take (nm l 2 2 - 20)) by
    rw [← bs_of ((bs l).extract 20 (20 + (nm l 2 2 - 20))), extract_toList, bs_toList, Nat.add_sub_cancel_left], show ((nm l 2 2 - 20 : Nat) : Int) = (nm l 2 2 : Int) - 20 by omega] at kc
  have ho := i64_and_nat (nm l 6 2) 8191 hg (by decide)
  rw [show nm l 6 2 &&& 8191 = nm l 6 2 % 8192 from Nat.and_two_pow_sub_one_eq_mod (nm l 6 2) 13] at ho
  exact read_at (bs l) _ _ _ _ _ _ _ _ _ _ _ _ _ _ w h4 (nm2_lt l 2) (nm4_lt l 12) (nm4_lt l 16) (hide fun W => iget_any l 6 2 W hl (by decide) (by decide) (by omega)) (hide fun W => iget_any l 2 2 W hl (by decide) (by decide) (by omega)) (hide kc)
    (hide fun W => iget_any l 1 1 W hl (by decide) (by decide) (by omega)) (hide fun W => iget_any l 4 2 W hl (by decide) (by decide) (by omega))
    (i64_and_nat (nm l 6 2) 16384 hg (by decide)) (bit_int (nm l 6 2) 14) (i64_and_nat (nm l 6 2) 8192 hg (by decide)) (bit_int (nm l 6 2) 13) ho
    (hide fun W => iget_any l 8 1 W hl (by decide) (by decide) (by omega)) (hide fun W => iget_any l 9 1 W hl (by decide) (by decide) (by omega)) (hide fun W => iget_any l 12 4 W hl (by decide) (by decide) (by omega)) (hide fun W => iget_any l 16 4 W hl (by decide) (by decide) (by omega))
/-- what Parse tells -/
def ParseTells (S : ByteArray) (p : Pk) (c : Int) (w : World) : Prop := Calls Tryd.prog 16 #[.string S] w fun e w' => e = .returned (.tuple #[p.val, .int .i64 c]) ∧ Below w.heap.size w w'
set_option maxRecDepth 100000 in
theorem parse_bad (S : ByteArray) (c : Int) (w : World) (hg : Et w) (hc : c ≠ 0)
    (k : Hid (∀ W, Calls Tryd.prog 28 #[.string S] W fun e W' => ∃ E, e = .returned E ∧ Fl c E ∧ Below W.heap.size W W')) : ParseTells S .none c w := by
  unfold ParseTells
  go_enter Tryd.func16, Tryd.ntmps16
  go_wp2_with fail
  refine (unhide k _).mono ?_
  rintro e w1 ⟨E, rfl, hE, b1⟩
  have hb := bthen (alloc_below w _) b1
  have hr := Below.row b1 (heap_alloc_new w _)
  have hg1 : Et w1 := hg.next hb
  have N := number_fl c E w1 hE hg1
  obtain ⟨part, rfl⟩ := hE.some hc
  clear b1 k hE hc
  go_wp2_with fail
  refine N.mono ?_
  rintro e w2 ⟨rfl, b2⟩
  have hb2 := bthen hb b2
  have hr2 := Below.row b2 hr
  obtain ⟨c0, c1, c2, c3, c4, c5, c6, c7, c8, c9, f0, f1, f2, f3, f4, f5, f6, f7, f8, f9⟩ := cells10 hr2
  have HR := hide hr2
  clear hr2 hr N hb b2
  go_wp2_with fail
  refine bodyPost_ret ?_ rfl ⟨rfl, below10 hb2 (Nat.le_refl _)⟩
  exact results_row2 rfl _ _ w.heap.size 24 _ _ _ _ rfl rfl (set10 (unhide HR)) Tryd.underlying24 rfl (by kernel_rfl)
set_option maxRecDepth 100000 in
theorem parse_good (S B : ByteArray) (a b o t q : Int) (s d : Nat) (x y : Bool) (w : World)
    (k : Hid (∀ W, Calls Tryd.prog 28 #[.string S] W fun e W' => ∃ E, e = .returned E ∧ Fl 0 E ∧ Below W.heap.size W W'))
    (R : Hid (∀ W, Calls Tryd.prog 29 #[.string S] W fun e W' => e = .returned (.agg #[.int .i64 a, .int .i64 b, .bool x, .bool y, .int .i64 o, .int .i64 t, .int .i64 q, .int .u32 s, .int .u32 d, .string B]) ∧ Below W.heap.size W W')) :
    Calls Tryd.prog 16 #[.string S] w fun e w' => e = .returned (.tuple #[.agg #[.int .i64 a, .int .i64 b, .bool x, .bool y, .int .i64 o, .int .i64 t, .int .i64 q, .int .u32 s, .int .u32 d, .string B], .int .i64 0]) ∧ Below w.heap.size w w' := by
  go_enter Tryd.func16, Tryd.ntmps16
  go_wp2_with fail
  refine (unhide k _).mono ?_
  rintro e w1 ⟨E, rfl, hE, b1⟩
  obtain rfl := hE.nil rfl
  have hb := bthen (alloc_below w _) b1
  have hr := Below.row b1 (heap_alloc_new w _)
  clear b1 k hE
  go_wp2_with fail
  refine (unhide R _).mono ?_
  rintro e w2 ⟨rfl, b2⟩
  have hb2 := bthen hb b2
  have hr2 := Below.row b2 hr
  obtain ⟨c0, c1, c2, c3, c4, c5, c6, c7, c8, c9, f0, f1, f2, f3, f4, f5, f6, f7, f8, f9⟩ := cells10 hr2
  have HR := hide hr2
  clear hr2 hr R hb b2
  go_wp2_with fail
  refine bodyPost_ret ?_ rfl ⟨rfl, below10 hb2 (Nat.le_refl _)⟩
  exact results_row2 rfl _ _ w.heap.size 24 _ _ _ _ rfl rfl (set10 (unhide HR)) Tryd.underlying24 rfl (by kernel_rfl)
theorem inetParse_any (l : List UInt8) (w : World) (hl : l.length ≤ 10000) (hg : Et w) : ParseTells (bs l) (Pk.parse l).1 (Pk.parse l).2 w := by
  unfold Pk.parse
  by_cases c : flawOf l = 0
  · rw [if_pos c]
    have k := fun W => flaw_any l W hl
    rw [c] at k
    exact parse_good (bs l) (bs (Pk.of l).body) _ _ _ _ _ _ _ _ _ w (hide k) (hide fun W => read_any l W hl c)
  · rw [if_neg c]
    exact parse_bad (bs l) _ w hg c (hide fun W => flaw_any l W hl)
theorem cut_from (l : List UInt8) (k : Nat) (h : k ≤ l.length) (W : World) : (Instr.slice 9 (.string (bs l)) (some (.int .i64 (k : Int))) none none).run Tryd.prog W = .ok (.string (bs (l.drop k))) W := by
  have e := run_slice_string_l (P := Tryd.prog) W 9 (bs l) Tryd.underlying9 .i64 (k : Int) (by omega) (by rw [bs_size]; omega)
  rw [show ((k : Int)).toNat = k by omega] at e
  rw [e]
  have : (bs l).extract k (bs l).size = bs (l.drop k) := by
    rw [← bs_of ((bs l).extract k (bs l).size), extract_toList, bs_toList, bs_size, List.take_of_length_le (by rw [List.length_drop]; omega)]
  rw [this]
theorem nm_two (l : List UInt8) (a : Nat) (h : a + 2 ≤ l.length) : nm l a 2 = nm l a 1 * 256 + nm l (a + 1) 1 := by
  unfold nm
  have e : (l.drop a).take 2 = (l.drop a).take 1 ++ (l.drop (a + 1)).take 1 := by rw [← List.drop_drop, ← List.take_add]
  have e2 : (l.drop (a + 1)).take 1 = [l[a + 1]'(by omega)] := by
    rw [List.drop_eq_getElem_cons (by omega)]; rfl
  rw [e, e2, num_snoc]
  show _ = _ + num ([] ++ [l[a + 1]'(by omega)])
  rw [num_snoc]
  show _ = _ + (0 * 256 + _)
  omega
theorem older_bad (S : ByteArray) (c : Int) (w : World) (hg : Et w) (hc : c ≠ 0)
    (k : Hid (∀ W, Calls Tryd.prog 28 #[.string S] W fun e W' => ∃ E, e = .returned E ∧ Fl c E ∧ Below W.heap.size W W')) :
    Calls Tryd.prog 18 #[.string S] w fun e w' => e = .returned (.tuple #[.string ByteArray.empty, .int .i64 c]) ∧ Below w.heap.size w w' := by
  go_enter Tryd.func18, Tryd.ntmps18
  go_wp2_with fail
  refine (unhide k _).mono ?_
  rintro e w1 ⟨E, rfl, hE, b1⟩
  have hg1 : Et w1 := hg.next b1
  have N := number_fl c E w1 hE hg1
  obtain ⟨part, rfl⟩ := hE.some hc
  clear k hE hc
  go_wp2_with fail
  refine N.mono ?_
  rintro e w2 ⟨rfl, b2⟩
  have hb2 := bthen b1 b2
  go_wp2_with fail
  go_ret2
  exact ⟨rfl, hb2⟩
theorem older_zero (S : ByteArray) (w : World) (hg : Et w)
    (k : Hid (∀ W, Calls Tryd.prog 28 #[.string S] W fun e W' => ∃ E, e = .returned E ∧ Fl 0 E ∧ Below W.heap.size W W'))
    (kt : Hid (∀ W, Calls Tryd.prog 31 #[.string S, .int .i64 8, .int .i64 1] W fun e W' => e = .returned (.int .i64 0) ∧ W' = W)) :
    Calls Tryd.prog 18 #[.string S] w fun e w' => e = .returned (.tuple #[.string ByteArray.empty, .int .i64 61]) ∧ Below w.heap.size w w' := by
  go_enter Tryd.func18, Tryd.ntmps18
  go_wp2_with fail
  refine (unhide k _).mono ?_
  rintro e w1 ⟨E, rfl, hE, b1⟩
  obtain rfl := hE.nil rfl
  have hg1 : Et w1 := hg.next b1
  clear k hE
  go_wp2_with fail
  refine (unhide kt _).mono ?_
  rintro e w2 ⟨rfl, rfl⟩
  go_wp2_with fail
  refine (number_fault _ 61 _ hg1).mono ?_
  rintro e w3 ⟨rfl, b3⟩
  have hb := bthen b1 b3
  go_wp2_with fail
  go_ret2
  exact ⟨rfl, hb⟩
set_option maxRecDepth 100000 in
set_option maxHeartbeats 1000000 in
theorem older_at (S P Q N C X1 X2 X3 : ByteArray) (t o m n c : Nat) (w : World) (ht : ((t : Int) == 0) = false) (ho : wrap64 ((o : Int) - 256) = (n : Int))
    (k : Hid (∀ W, Calls Tryd.prog 28 #[.string S] W fun e W' => ∃ E, e = .returned E ∧ Fl 0 E ∧ Below W.heap.size W W'))
    (kt : Hid (∀ W, Calls Tryd.prog 31 #[.string S, .int .i64 8, .int .i64 1] W fun e W' => e = .returned (.int .i64 t) ∧ W' = W))
    (ko : Hid (∀ W, Calls Tryd.prog 31 #[.string S, .int .i64 8, .int .i64 2] W fun e W' => e = .returned (.int .i64 o) ∧ W' = W))
    (km : Hid (∀ W, Calls Tryd.prog 31 #[.string S, .int .i64 10, .int .i64 2] W fun e W' => e = .returned (.int .i64 m) ∧ W' = W))
    (kp : Hid (∀ W, Calls Tryd.prog 32 #[.int .i64 m, .int .i64 o, .int .i64 n] W fun e W' => e = .returned (.int .i64 c) ∧ W' = W))
    (kn : ∀ W, Calls Tryd.prog 23 #[.int .i64 n, .int .i64 2] W fun e W' => e = .returned (.string N) ∧ Below W.heap.size W W')
    (kc : ∀ W, Calls Tryd.prog 23 #[.int .i64 c, .int .i64 2] W fun e W' => e = .returned (.string C) ∧ Below W.heap.size W W')
    (s8 : ∀ W, (Instr.slice 9 (.string S) none (some (.int .i64 8)) none).run Tryd.prog W = .ok (.string P) W)
    (s12 : ∀ W, (Instr.slice 9 (.string S) (some (.int .i64 12)) none none).run Tryd.prog W = .ok (.string Q) W)
    (g1 : ∀ W, (Op.stringOp .add P N).run Tryd.prog W = .ok (.string X1) W) (g2 : ∀ W, (Op.stringOp .add X1 C).run Tryd.prog W = .ok (.string X2) W) (g3 : ∀ W, (Op.stringOp .add X2 Q).run Tryd.prog W = .ok (.string X3) W) :
    Calls Tryd.prog 18 #[.string S] w fun e w' => e = .returned (.tuple #[.string X3, .int .i64 0]) ∧ Below w.heap.size w w' := by
  go_enter Tryd.func18, Tryd.ntmps18
  go_wp2_with fail
  refine (unhide k _).mono ?_
  rintro e w1 ⟨E, rfl, hE, b1⟩
  obtain rfl := hE.nil rfl
  clear k hE
  go_wp2_with fail
  refine (unhide kt _).mono ?_
  rintro e w2 ⟨rfl, rfl⟩
  go_wp2_with fail
  refine (unhide ko _).mono ?_
  rintro e w2 ⟨rfl, rfl⟩
  go_wp2_with fail
  refine (unhide km _).mono ?_
  rintro e w2 ⟨rfl, rfl⟩
  go_wp2_with fail
  refine (unhide kp _).mono ?_
  rintro e w2 ⟨rfl, rfl⟩
  clear kt ko km kp
  go_wp2_with fail
  have d0 := at_grown kn w2
  have d1 := at_grown kc w2
  clear kn kc
  refine wp_region_quiet_below (by kernel_rfl) (by kernel_rfl) ?_
  repeat (go_big_quiet_step (first | (go_at_call_of 23 n; exact d0 _ _) | (go_at_call_of 23 c; exact d1 _ _)))
  refine wpQuiet_nil ?_
  rintro _ ⟨⟨dq, osq⟩, rfl⟩
  go_wp2
  go_ret2
  exact ⟨rfl, grown_then b1 dq osq⟩
theorem inetOlder_any (l : List UInt8) (w : World) (hl : l.length ≤ 9000) (hg : Et w) : Calls Tryd.prog 18 #[.string (bs l)] w fun e w' => e = .returned (.tuple #[.string (bs (olderOf l).1), .int .i64 (olderOf l).2]) ∧ Below w.heap.size w w' := by
  unfold olderOf
  have k := fun W => flaw_any l W (by omega)
  by_cases c : flawOf l = 0
  · rw [if_pos c]
    rw [c] at k
    obtain ⟨h1, h2, h3, h4, h5, h6⟩ := flaw_spec c
    have kt := fun W => iget_any l 8 1 W (by omega) (by decide) (by decide) (by omega)
    by_cases z : nm l 8 1 = 0
    · rw [if_pos z]
      rw [z] at kt
      exact older_zero (bs l) w hg (hide k) (hide kt)
    · rw [if_neg z]
      have e2 := nm_two l 8 (by omega)
      have o2 := nm2_lt l 8
      have m2 := nm2_lt l 10
      have kp := fun W => patch_any (nm l 10 2 : Nat) (nm l 8 2 : Nat) ((nm l 8 2 - 256 : Nat) : Int) (65535 - nm l 10 2) (65535 - nm l 8 2) (nm l 8 2 - 256) W (by omega) (by omega) (by omega)
      have hp : pat (65535 - nm l 10 2) (65535 - nm l 8 2) (nm l 8 2 - 256) = patched (nm l 10 2) (nm l 8 2) := rfl
      rw [hp] at kp
      have hpl : patched (nm l 10 2) (nm l 8 2) ≤ 65535 := Nat.sub_le _ _
      have e : grown l = l.take 8 ++ be (nm l 8 2 - 256) 2 ++ be (patched (nm l 10 2) (nm l 8 2)) 2 ++ l.drop 12 := by unfold grown; simp only [List.append_assoc]
      rw [e]
      have l8 : (l.take 8).length = 8 := by rw [List.length_take]; omega
      exact older_at (bs l) _ _ _ _ _ _ _ _ _ _ _ _ w (by rw [beq_eq_false_iff_ne]; omega) (by rw [wrap64_id (by omega) (by omega)]; omega) (hide k) (hide kt) (hide fun W => iget_any l 8 2 W (by omega) (by decide) (by decide) (by omega)) (hide fun W => iget_any l 10 2 W (by omega) (by decide) (by decide) (by omega)) (hide kp)
        (fun W => iput_any (nm l 8 2 - 256) 2 W (by decide) (by decide) (by omega) (by omega)) (fun W => iput_any (patched (nm l 10 2) (nm l 8 2)) 2 W (by decide) (by decide) (by omega) (by omega))
        (fun W => cut_to l 8 (by omega) W) (fun W => cut_from l 12 (by omega) W) (fun W => add_bs _ _ (by rw [l8, be_length]; decide) W) (fun W => add_bs _ _ (by rw [List.length_append, l8, be_length, be_length]; decide) W) (fun W => add_bs _ _ (by rw [List.length_append, List.length_append, l8, be_length, be_length, List.length_drop]; omega) W)
  · rw [if_neg c]
    exact older_bad (bs l) _ w hg c (hide k)
end Go.Proofs.YtojipoifjioglaaDoor
