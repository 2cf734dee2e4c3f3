/-
  The contracts of vxlan.Build and Parse: a frame's bytes behind a head, or that the number may not be; the number and the frame's bytes, or what is wrong; no cell that was there before has turned.
-/
import Derived.Test.YtocbpkceokgohaaDoorVx1
import Derived.OwnWalk
namespace Go.Proofs.YtocbpkceokgohaaDoor
open Go.RowKit Go.Sort

theorem vbuild_at (v : Int) (S A1 A2 A3 A4 T : ByteArray) (w : World) (hS : (S.size : Int) ≤ 10000) (h0 : 0 ≤ v) (h1 : v ≤ 16777215)
    (z1 : A1.size = 1) (z2 : A2.size = 3) (z3 : A3.size = 3) (z4 : A4.size = 1)
    (P1 : Hid (∀ W, Calls Tryd.prog 17 #[.int .i64 8, .int .i64 1] W fun e W' => e = .returned (.string A1) ∧ Below W.heap.size W W'))
    (P2 : Hid (∀ W, Calls Tryd.prog 17 #[.int .i64 0, .int .i64 3] W fun e W' => e = .returned (.string A2) ∧ Below W.heap.size W W'))
    (P3 : Hid (∀ W, Calls Tryd.prog 17 #[.int .i64 v, .int .i64 3] W fun e W' => e = .returned (.string A3) ∧ Below W.heap.size W W'))
    (P4 : Hid (∀ W, Calls Tryd.prog 17 #[.int .i64 0, .int .i64 1] W fun e W' => e = .returned (.string A4) ∧ Below W.heap.size W W'))
    (HT : Hid (A1 ++ A2 ++ A3 ++ A4 ++ S = T)) :
    Calls Tryd.prog 8 #[.int .i64 v, .string S] w fun e w' => e = .returned (.tuple #[.string T, .int .i64 0]) ∧ Below w.heap.size w w' := by
  go_enter Tryd.func8, Tryd.ntmps8
  go_wp2_with fail
  refine (unhide P1 _).mono ?_
  rintro e w1 ⟨rfl, b1⟩
  go_wp2_with fail
  refine (unhide P2 _).mono ?_
  rintro e w2 ⟨rfl, b2⟩
  go_wp2_with fail
  refine (unhide P3 _).mono ?_
  rintro e w3 ⟨rfl, b3⟩
  go_wp2_with fail
  refine (unhide P4 _).mono ?_
  rintro e w4 ⟨rfl, b4⟩
  go_wp2_with fail
  go_ret2
  exact ⟨by rw [← unhide HT]; rfl, bthen (bthen (bthen b1 b2) b3) b4⟩
theorem vbuild_ok (v : Nat) (l : List UInt8) (w : World) (hl : l.length ≤ 9000) (hv : v < 16777216) :
    Calls Tryd.prog 8 #[.int .i64 (v : Int), .string (bs l)] w fun e w' => e = .returned (.tuple #[.string (bs (vbytes v l)), .int .i64 0]) ∧ Below w.heap.size w w' := by
  refine vbuild_at (v : Int) (bs l) (bs (be 8 1)) (bs (be 0 3)) (bs (be v 3)) (bs (be 0 1)) _ w (by rw [bs_size]; omega) (by omega) (by omega)
    (by rw [bs_size, be_length]) (by rw [bs_size, be_length]) (by rw [bs_size, be_length]) (by rw [bs_size, be_length])
    (hide fun W => vput_any 8 1 W (by decide) (by decide) (by decide) (by omega)) (hide fun W => vput_any 0 3 W (by decide) (by decide) (by decide) (by omega))
    (hide fun W => vput_any v 3 W (by decide) (by decide) hv (by omega)) (hide fun W => vput_any 0 1 W (by decide) (by decide) (by decide) (by omega)) (hide ?_)
  rw [bs_append, bs_append, bs_append, bs_append]
  refine congrArg bs ?_
  have e1 : be 8 1 = [8] := by decide
  have e2 : be 0 3 = [0, 0, 0] := by decide
  have e3 : be 0 1 = [0] := by decide
  rw [e1, e2, e3]
  unfold vbytes
  simp
theorem vbuild_bad (v : Int) (S : ByteArray) (w : World) (hv : v < 0 ∨ 16777215 < v) :
    Calls Tryd.prog 8 #[.int .i64 v, .string S] w fun e w' => e = .returned (.tuple #[.string ⟨#[]⟩, .int .i64 1]) ∧ Below w.heap.size w w' := by
  by_cases h : v < 0
  · clear hv
    go_enter Tryd.func8, Tryd.ntmps8
    go_wp2_with fail
    go_ret2
    exact ⟨rfl, Below.refl _ _⟩
  · have h2 : 16777215 < v := by omega
    clear hv
    go_enter Tryd.func8, Tryd.ntmps8
    go_wp2_with fail
    go_ret2
    exact ⟨rfl, Below.refl _ _⟩
theorem vparse_short (S : ByteArray) (w : World) (h : (S.size : Int) < 8) :
    Calls Tryd.prog 10 #[.string S] w fun e w' => e = .returned (.tuple #[.int .i64 0, .string ⟨#[]⟩, .int .i64 80]) ∧ Below w.heap.size w w' := by
  go_enter Tryd.func10, Tryd.ntmps10
  go_wp2_with fail
  go_ret3
  exact ⟨rfl, Below.refl _ _⟩
theorem vparse_flag (S : ByteArray) (c : Nat) (w : World) (h : 8 ≤ S.size) (hc : (S[0]'(by omega)).toNat = c) (hb : (bits BinOp.and IntKind.u8 (c : Int) 8 == 0) = true) :
    Calls Tryd.prog 10 #[.string S] w fun e w' => e = .returned (.tuple #[.int .i64 0, .string ⟨#[]⟩, .int .i64 81]) ∧ Below w.heap.size w w' := by
  go_enter Tryd.func10, Tryd.ntmps10
  go_wp2_with fail
  go_ret3
  exact ⟨rfl, Below.refl _ _⟩
theorem vparse_at (S T : ByteArray) (c v n : Nat) (w : World) (h : 8 ≤ S.size) (hn : wrap64 ((S.size : Int) - 8) = (n : Int)) (hc : (S[0]'(by omega)).toNat = c) (hb : (bits BinOp.and IntKind.u8 (c : Int) 8 == 0) = false)
    (hv : IntKind.i64.wrap (v : Int) = (v : Int))
    (CG : Hid (∀ W, Calls Tryd.prog 19 #[.string S, .int .i64 4, .int .i64 3] W fun e W' => e = .returned (.tuple #[.int .u64 (v : Int), .int .i64 0]) ∧ W' = W))
    (CC : Hid (∀ W, Calls Tryd.prog 20 #[.string S, .int .i64 8, .int .i64 (n : Int)] W fun e W' => e = .returned (.tuple #[.string T, .int .i64 0]) ∧ Below W.heap.size W W')) :
    Calls Tryd.prog 10 #[.string S] w fun e w' => e = .returned (.tuple #[.int .i64 (v : Int), .string T, .int .i64 0]) ∧ Below w.heap.size w w' := by
  go_enter Tryd.func10, Tryd.ntmps10
  go_wp2_with fail
  refine (unhide CG _).mono ?_
  rintro e w1 ⟨rfl, rfl⟩
  go_wp2_with fail
  refine (unhide CC _).mono ?_
  rintro e w2 ⟨rfl, b2⟩
  go_wp2_with fail
  go_ret3
  exact ⟨rfl, b2⟩
theorem headD_at (l : List UInt8) (h : 0 < (bs l).size) : ((bs l)[0]'h).toNat = (l.headD 0).toNat := by
  cases l with
  | nil => rw [bs_size] at h; cases h
  | cons c m => rfl
theorem flag_and (l : List UInt8) : (bits BinOp.and IntKind.u8 (((l.headD 0).toNat : Nat) : Int) 8 == 0) = !flag l := by
  have h := (l.headD 0).toNat_lt
  rw [and_eight _ h]
  unfold flag
  generalize (l.headD 0).toNat = n
  rcases Nat.mod_two_eq_zero_or_one (n / 8) with e | e <;> rw [e] <;> rfl
theorem drop_extract (l : List UInt8) : (bs l).extract 8 (8 + (l.length - 8)) = bs (l.drop 8) := by
  rw [← bs_of ((bs l).extract _ _), extract_toList, bs_toList, List.take_of_length_le (by rw [List.length_drop]; omega)]
theorem vparse_any (l : List UInt8) (w : World) (hl : l.length ≤ 10000) :
    Calls Tryd.prog 10 #[.string (bs l)] w fun e w' => e = .returned (.tuple #[.int .i64 (((vparse l).1 : Nat) : Int), .string (bs (vparse l).2.1), .int .i64 (((vparse l).2.2 : Nat) : Int)]) ∧ Below w.heap.size w w' := by
  have hsz : (bs l).size = l.length := bs_size l
  by_cases h : l.length < 8
  · rw [show vparse l = (0, [], 80) from by unfold vparse; rw [if_pos h]]
    exact vparse_short (bs l) w (by omega)
  · have h8 : 8 ≤ (bs l).size := by omega
    cases hf : flag l
    · rw [show vparse l = (0, [], 81) from by unfold vparse; rw [if_neg h, hf]; rfl]
      exact vparse_flag (bs l) _ w h8 (headD_at l _) (by rw [flag_and, hf]; rfl)
    · rw [show vparse l = (nm l 4 3, l.drop 8, 0) from by unfold vparse; rw [if_neg h, hf]; rfl]
      have h3 := nm3_lt l 4
      have G := fun W => get_ok (bs l) 4 3 W (by rw [hsz]; unfold maxLen; omega) (by decide) (by decide) (by omega)
      rw [nm_extract] at G
      have C := fun W => cut_ok (bs l) 8 (l.length - 8) W (by omega) (by omega)
      rw [drop_extract l] at C
      exact vparse_at (bs l) (bs (l.drop 8)) _ (nm l 4 3) (l.length - 8) w h8 (by unfold wrap64; omega) (headD_at l _) (by rw [flag_and, hf]; rfl) (by rw [IntKind.wrap_i64]; omega) (hide G) (hide C)
end Go.Proofs.YtocbpkceokgohaaDoor
