/-
  The document's answer for what is older: the contract of gangwayref06's Older.
-/
import Derived.Test.YtojipoifjioglaaDoorRef6d
namespace Go.Proofs.YtojipoifjioglaaDoor
open Go.RowKit Go.Sort

theorem rolder_bad (S : ByteArray) (c : Int) (w : World) (hc : (c != 0) = true)
    (P : Hid (∀ W, Calls Tryd.prog 17 #[.string S] W fun e W' => e = .returned (.tuple #[.agg #[.int .i64 0, .int .i64 0, .bool false, .bool false, .int .i64 0, .int .i64 0, .int .i64 0, .int .u32 0, .int .u32 0, .string ⟨#[]⟩], .int .i64 c]) ∧ Below W.heap.size W W')) : Calls Tryd.prog 19 #[.string S] w fun e w' => e = .returned (.tuple #[.string ByteArray.empty, .int .i64 c]) ∧ Below w.heap.size w w' := by
  go_enter Tryd.func19, Tryd.ntmps19
  go_wp2_with fail
  refine (unhide P _).mono ?_
  rintro e w1 ⟨rfl, b1⟩
  have h1 := alloc_then (o := .cells #[.int .i64 0, .int .i64 0, .bool false, .bool false, .int .i64 0, .int .i64 0, .int .i64 0, .int .u32 0, .int .u32 0, .string ⟨#[]⟩] 24) b1
  go_wp2_with fail
  go_ret2
  exact ⟨rfl, h1⟩
theorem rolder_zero (S B : ByteArray) (a b o q s d : Int) (x y : Bool) (w : World)
    (P : Hid (∀ W, Calls Tryd.prog 17 #[.string S] W fun e W' => e = .returned (.tuple #[.agg #[.int .i64 a, .int .i64 b, .bool x, .bool y, .int .i64 o, .int .i64 0, .int .i64 q, .int .u32 s, .int .u32 d, .string B], .int .i64 0]) ∧ Below W.heap.size W W')) : Calls Tryd.prog 19 #[.string S] w fun e w' => e = .returned (.tuple #[.string ByteArray.empty, .int .i64 61]) ∧ Below w.heap.size w w' := by
  go_enter Tryd.func19, Tryd.ntmps19
  go_wp2_with fail
  refine (unhide P _).mono ?_
  rintro e w1 ⟨rfl, b1⟩
  have h1 := alloc_then (o := .cells #[.int .i64 a, .int .i64 b, .bool x, .bool y, .int .i64 o, .int .i64 0, .int .i64 q, .int .u32 s, .int .u32 d, .string B] 24) b1
  go_wp2_with fail
  go_ret2
  exact ⟨rfl, h1⟩
set_option maxRecDepth 100000 in
set_option maxHeartbeats 1000000 in
theorem rolder_at (S B P8 Q N C X1 X2 X3 : ByteArray) (a b o t q s d : Int) (x y : Bool) (u m n c : Nat) (w : World) (ht : (t == 0) = false) (hu : wrap64 ((u : Int) - 256) = (n : Int)) (hn : n < 65536) (hc : c < 65536)
    (P : Hid (∀ W, Calls Tryd.prog 17 #[.string S] W fun e W' => e = .returned (.tuple #[.agg #[.int .i64 a, .int .i64 b, .bool x, .bool y, .int .i64 o, .int .i64 t, .int .i64 q, .int .u32 s, .int .u32 d, .string B], .int .i64 0]) ∧ Below W.heap.size W W'))
    (ku : Hid (∀ W, Calls Tryd.prog 30 #[.string S, .int .i64 8, .int .i64 10] W fun e W' => e = .returned (.int .i64 u) ∧ W' = W))
    (km : Hid (∀ W, Calls Tryd.prog 30 #[.string S, .int .i64 10, .int .i64 12] W fun e W' => e = .returned (.int .i64 m) ∧ W' = W))
    (kp : Hid (∀ W, Calls Tryd.prog 33 #[.int .i64 m, .int .i64 u, .int .i64 n] W fun e W' => e = .returned (.int .i64 c) ∧ W' = W))
    (kn : ∀ W, Calls Tryd.prog 34 #[.int .u64 n, .int .i64 2] W fun e W' => e = .returned (.string N) ∧ Below W.heap.size W W')
    (kc : ∀ W, Calls Tryd.prog 34 #[.int .u64 c, .int .i64 2] W fun e W' => e = .returned (.string C) ∧ Below W.heap.size W W')
    (s8 : ∀ W, (Instr.slice 9 (.string S) none (some (.int .i64 8)) none).run Tryd.prog W = .ok (.string P8) W)
    (s12 : ∀ W, (Instr.slice 9 (.string S) (some (.int .i64 12)) none none).run Tryd.prog W = .ok (.string Q) W)
    (g1 : ∀ W, (Op.stringOp .add P8 N).run Tryd.prog W = .ok (.string X1) W) (g2 : ∀ W, (Op.stringOp .add X1 C).run Tryd.prog W = .ok (.string X2) W) (g3 : ∀ W, (Op.stringOp .add X2 Q).run Tryd.prog W = .ok (.string X3) W) : Calls Tryd.prog 19 #[.string S] w fun e w' => e = .returned (.tuple #[.string X3, .int .i64 0]) ∧ Below w.heap.size w w' := by
  have hw : IntKind.i64.wrap ((u : Int) - 256) = (n : Int) := by
    rw [IntKind.wrap_i64]
    unfold wrap64 at hu
    omega
  have en : IntKind.u64.wrap (n : Int) = (n : Int) := u64_id n (by omega)
  have ec : IntKind.u64.wrap (c : Int) = (c : Int) := u64_id c (by omega)
  clear hn hc
  go_enter Tryd.func19, Tryd.ntmps19
  go_wp2_with fail
  refine (unhide P _).mono ?_
  rintro e w1 ⟨rfl, b1⟩
  have h1 := alloc_then (o := .cells #[.int .i64 a, .int .i64 b, .bool x, .bool y, .int .i64 o, .int .i64 t, .int .i64 q, .int .u32 s, .int .u32 d, .string B] 24) b1
  clear b1 P
  go_wp2_with fail
  generalize w1.alloc (.cells #[.int .i64 a, .int .i64 b, .bool x, .bool y, .int .i64 o, .int .i64 t, .int .i64 q, .int .u32 s, .int .u32 d, .string B] 24) = w2 at *
  refine (unhide ku _).mono ?_
  rintro e w3 ⟨rfl, rfl⟩
  go_wp2_with fail
  refine (unhide km _).mono ?_
  rintro e w3 ⟨rfl, rfl⟩
  go_wp2_with fail
  refine (unhide kp _).mono ?_
  rintro e w3 ⟨rfl, rfl⟩
  clear ku km kp
  go_wp2_with fail
  have d0 := at_grown kn w3
  have d1 := at_grown kc w3
  clear kn kc
  refine wp_region_quiet_below (by kernel_rfl) (by kernel_rfl) ?_
  repeat (go_big_quiet_step (first | (go_at_call_of 34 n; exact d0 _ _) | (go_at_call_of 34 c; exact d1 _ _)))
  refine wpQuiet_nil ?_
  rintro _ ⟨⟨dq, osq⟩, rfl⟩
  go_wp2
  go_ret2
  exact ⟨rfl, grown_then h1 dq osq⟩
theorem rolder_any (l : List UInt8) (w : World) (hl : l.length ≤ 1720) : Calls Tryd.prog 19 #[.string (bs l)] w fun e w' => e = .returned (.tuple #[.string (bs (olderOf l).1), .int .i64 (olderOf l).2]) ∧ Below w.heap.size w w' := by
  have P := fun W => rparse_any l W hl
  unfold olderOf
  by_cases c : flawOf l = 0
  · rw [if_pos c]
    obtain ⟨h1, h2, h3, h4, h5, h6⟩ := flaw_spec c
    have e1 : Pk.parse l = (Pk.of l, 0) := if_pos c
    rw [e1] at P
    by_cases z : nm l 8 1 = 0
    · rw [if_pos z]
      have hv : (Pk.of l).val = .agg #[.int .i64 ((nm l 1 1 : Nat) : Int), .int .i64 ((nm l 4 2 : Nat) : Int), .bool (decide (nm l 6 2 / 16384 % 2 = 1)), .bool (decide (nm l 6 2 / 8192 % 2 = 1)), .int .i64 ((nm l 6 2 % 8192 : Nat) : Int), .int .i64 0, .int .i64 ((nm l 9 1 : Nat) : Int), .int .u32 ((nm l 12 4 : Nat) : Int), .int .u32 ((nm l 16 4 : Nat) : Int), .string (bs (Pk.of l).body)] := by
        show Value.agg #[.int .i64 ((nm l 1 1 : Nat) : Int), .int .i64 ((nm l 4 2 : Nat) : Int), .bool (decide (nm l 6 2 / 16384 % 2 = 1)), .bool (decide (nm l 6 2 / 8192 % 2 = 1)), .int .i64 ((nm l 6 2 % 8192 : Nat) : Int), .int .i64 ((nm l 8 1 : Nat) : Int), .int .i64 ((nm l 9 1 : Nat) : Int), .int .u32 ((nm l 12 4 : Nat) : Int), .int .u32 ((nm l 16 4 : Nat) : Int), .string (bs (Pk.of l).body)] = _
        rw [z]
        rfl
      rw [hv] at P
      exact rolder_zero (bs l) _ _ _ _ _ _ _ _ _ w (hide P)
    · rw [if_neg z]
      have e2 := nm_two l 8 (by omega)
      have o2 := nm2_lt l 8
      have m2 := nm2_lt l 10
      have kp := fun W => rpatch (nm l 10 2 : Nat) (nm l 8 2 : Nat) ((nm l 8 2 - 256 : Nat) : Int) (nm l 10 2) (nm l 8 2) (nm l 8 2 - 256) W (by omega) (by omega) (by omega)
      have hp : pat (65535 - nm l 10 2) (65535 - nm l 8 2) (nm l 8 2 - 256) = patched (nm l 10 2) (nm l 8 2) := rfl
      rw [hp] at kp
      have hpl : patched (nm l 10 2) (nm l 8 2) ≤ 65535 := Nat.sub_le _ _
      have e : grown l = l.take 8 ++ be (nm l 8 2 - 256) 2 ++ be (patched (nm l 10 2) (nm l 8 2)) 2 ++ l.drop 12 := by unfold grown; simp only [List.append_assoc]
      rw [e]
      have l8 : (l.take 8).length = 8 := by rw [List.length_take]; omega
      exact rolder_at (bs l) (bs (Pk.of l).body) _ _ _ _ _ _ _ _ _ _ ((nm l 8 1 : Nat) : Int) _ _ _ _ _ _ _ _ _ w (by rw [beq_eq_false_iff_ne]; omega) (by rw [wrap64_id (by omega) (by omega)]; omega) (by omega) (by omega) (hide P) (hide fun W => rnumS l 8 2 W (by decide) (by omega)) (hide fun W => rnumS l 10 2 W (by decide) (by omega)) (hide kp)
        (fun W => rbytes (nm l 8 2 - 256) 2 W (by decide) (by omega)) (fun W => rbytes (patched (nm l 10 2) (nm l 8 2)) 2 W (by decide) (by omega))
        (fun W => cut_to l 8 (by omega) W) (fun W => cut_from l 12 (by omega) W) (fun W => add_bs _ _ (by rw [l8, be_length]; decide) W) (fun W => add_bs _ _ (by rw [List.length_append, l8, be_length, be_length]; decide) W) (fun W => add_bs _ _ (by rw [List.length_append, List.length_append, l8, be_length, be_length, List.length_drop]; omega) W)
  · rw [if_neg c]
    have e1 : Pk.parse l = (.none, flawOf l) := if_neg c
    rw [e1] at P
    exact rolder_bad (bs l) _ w (by simpa using c) (hide P)
end Go.Proofs.YtojipoifjioglaaDoor
