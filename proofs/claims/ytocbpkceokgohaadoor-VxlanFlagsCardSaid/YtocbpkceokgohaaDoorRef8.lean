/-
  The document's answer for frames in datagrams: the contracts of gangwayref01's Num and gangwayref08's Build, Parse, Hash, Port; no cell that was there before has turned.
-/
import Derived.Test.YtocbpkceokgohaaDoorVx2
import Derived.BigQuiet
namespace Go.Proofs.YtocbpkceokgohaaDoor
open Go.RowKit Go.Sort

set_option maxRecDepth 20000 in
theorem rnum (l : List UInt8) (w : World) (hl : l.length ≤ 7) :
    Calls Tryd.prog 21 #[.string (bs l)] w fun e w' => e = .returned (.int .u64 ((num l : Nat) : Int)) ∧ w' = w := by
  have hsz : (bs l).size = l.length := bs_size l
  go_enter Tryd.func21, Tryd.ntmps21
  go_wp2_with fail
  go_loop [3, 4] (fun x i => ∃ k : Nat, k ≤ l.length ∧ i = .int .i64 k ∧ x = .int .u64 ((num (l.take k) : Nat) : Int)) (fun _ i => l.length - (intOf i).toNat)
  case atStart => exact ⟨0, Nat.zero_le _, rfl, rfl⟩
  case round =>
    obtain ⟨k, hk, rfl, rfl⟩ := hrel
    by_cases hlt : k < l.length
    · have hix : ((bs l)[k]'(by omega)).toNat = (l[k]).toNat := rfl
      have hx8 : (l[k]).toNat < 256 := (l[k]).toNat_lt
      have hns : num (l.take (k + 1)) = num (l.take k) * 256 + (l[k]).toNat := by rw [take_next l k hlt, num_snoc]
      have hm : num (l.take k) < 281474976710656 := Nat.lt_of_lt_of_le (num_lt _) (by
        rw [List.length_take, Nat.min_eq_left (Nat.le_of_lt hlt)]
        exact Nat.le_trans (Nat.pow_le_pow_right (n := 256) (by omega) (show k ≤ 6 by omega)) (by decide))
      have hmi : ((num (l.take k) : Nat) : Int) < 281474976710656 := by omega
      have HNS := hide hns
      clear hns hm
      generalize num (l.take k) = m at hmi HNS ⊢
      generalize (l[k]).toNat = x at hix hx8 HNS
      go_wp2_with fail
      go_round
      case rel => exact ⟨k + 1, by omega, by go_num, by rw [unhide HNS]; rfl⟩
      case measure => simp [intOf]; omega
    · obtain rfl : k = l.length := by omega
      rw [List.take_length]
      go_wp2_with fail
      go_ret
      exact ⟨rfl, rfl⟩

theorem stir64 (h c : Nat) (hh : h < 4294967296) (hc : c < 256) : (IntKind.u64.wrap (bits BinOp.xor IntKind.u64 (h : Int) (c : Int) * 16777619)).tmod 4294967296 = ((stir h c : Nat) : Int) := by
  have hx : h ^^^ c < 2 ^ 32 := Nat.xor_lt_two_pow (by omega) (by omega)
  rw [u64_xor_nat h c (by omega) (by omega), IntKind.wrap_u64, Int.tmod_eq_emod_of_nonneg (by omega)]
  unfold stir
  omega
theorem rhash (l : List UInt8) (w : World) (hl : l.length ≤ 10000) :
    Calls Tryd.prog 14 #[.string (bs l)] w fun e w' => e = .returned (.int .u32 ((hs l : Nat) : Int)) ∧ w' = w := by
  have hsz : (bs l).size = l.length := bs_size l
  go_enter Tryd.func14, Tryd.ntmps14
  go_wp2_with fail
  go_loop [3, 4] (fun x i => ∃ k : Nat, k ≤ l.length ∧ i = .int .i64 k ∧ x = .int .u64 ((hs (l.take k) : Nat) : Int)) (fun _ i => l.length - (intOf i).toNat)
  case atStart => exact ⟨0, Nat.zero_le _, rfl, by rw [List.take_zero, hs_nil]; rfl⟩
  case round =>
    obtain ⟨k, hk, rfl, rfl⟩ := hrel
    by_cases hlt : k < l.length
    · have hix : ((bs l)[k]'(by omega)).toNat = (l[k]).toNat := rfl
      have hx8 : (l[k]).toNat < 256 := (l[k]).toNat_lt
      have hns : hs (l.take (k + 1)) = stir (hs (l.take k)) (l[k]).toNat := by rw [take_next l k hlt, hs_snoc]
      have hst := stir64 _ _ (hs_lt (l.take k)) hx8
      have hcv : IntKind.u64.wrap ((l[k]).toNat : Int) = ((l[k]).toNat : Int) := by rw [IntKind.wrap_u64]; omega
      have HNS := hide hns
      have HST := hide hst
      clear hns hst
      generalize hs (l.take k) = m at HNS HST ⊢
      generalize (l[k]).toNat = x at HNS HST hx8 hix hcv
      go_wp2_with fail
      go_round
      case rel => exact ⟨k + 1, by omega, by go_num, by rw [unhide HNS, ← unhide HST]⟩
      case measure => simp [intOf]; omega
    · obtain rfl : k = l.length := by omega
      rw [List.take_length]
      have h32 := hs_lt l
      have hcv : IntKind.u32.wrap ((hs l : Nat) : Int) = ((hs l : Nat) : Int) := by rw [IntKind.wrap_u32']; omega
      clear h32
      go_wp2_with fail
      go_ret
      exact ⟨rfl, rfl⟩
theorem rport (l : List UInt8) (w : World) (hl : l.length ≤ 10000) :
    Calls Tryd.prog 16 #[.string (bs l)] w fun e w' => e = .returned (.int .i64 ((port l : Nat) : Int)) ∧ w' = w := by
  have hsz : (bs l).size = l.length := bs_size l
  have H := hide fun W => rhash (l.take 14) W (by rw [List.length_take]; omega)
  have h32 := hs_lt (l.take 14)
  have hp : 49152 + ((hs (l.take 14) : Nat) : Int) % 16384 = ((port l : Nat) : Int) := by unfold port; omega
  rw [← hp]
  have hc : IntKind.i64.wrap (((hs (l.take 14) : Nat) : Int) % 16384) = ((hs (l.take 14) : Nat) : Int) % 16384 := by rw [IntKind.wrap_i64]; omega
  have hh : ((hs (l.take 14) : Nat) : Int) < 4294967296 := by omega
  clear h32 hp
  generalize hs (l.take 14) = h at H hc hh ⊢
  by_cases hg : 14 < l.length
  · have hs' := take_at l 14 (by omega) w
    rw [show ((14 : Nat) : Int) = 14 from rfl] at hs'
    have hz : (14 : Int) < ((bs l).size : Int) := by omega
    clear hsz hg hl
    generalize bs l = S at hs' hz ⊢
    generalize bs (l.take 14) = T at H hs'
    go_enter Tryd.func16, Tryd.ntmps16
    go_wp2_with fail
    refine (unhide H _).mono ?_
    rintro e w1 ⟨rfl, rfl⟩
    go_wp2_with fail
    go_ret
    exact ⟨rfl, rfl⟩
  · rw [List.take_of_length_le (by omega)] at H
    have hz : ¬ (14 : Int) < ((bs l).size : Int) := by omega
    clear hsz hg hl
    generalize bs l = S at hz H ⊢
    go_enter Tryd.func16, Tryd.ntmps16
    go_wp2_with fail
    refine (unhide H _).mono ?_
    rintro e w1 ⟨rfl, rfl⟩
    go_wp2_with fail
    go_ret
    exact ⟨rfl, rfl⟩
theorem rbuild_at (v x : Nat) (S B T : ByteArray) (w : World) (hS : (S.size : Int) ≤ 10000) (h1 : (v : Int) ≤ 16777215) (hx : (v : Int) * 256 = (x : Int)) (hc : IntKind.u64.wrap (v : Int) = (v : Int))
    (z : B.size = 4) (P : Hid (∀ W, Calls Tryd.prog 18 #[.int .u64 (x : Int), .int .i64 4] W fun e W' => e = .returned (.string B) ∧ Below W.heap.size W W'))
    (HT : Hid (⟨#[8, 0, 0, 0]⟩ ++ B ++ S = T)) :
    Calls Tryd.prog 9 #[.int .i64 (v : Int), .string S] w fun e w' => e = .returned (.tuple #[.string T, .int .i64 0]) ∧ Below w.heap.size w w' := by
  go_enter Tryd.func9, Tryd.ntmps9
  go_wp2_with fail
  refine (unhide P _).mono ?_
  rintro e w1 ⟨rfl, b1⟩
  go_wp2_with fail
  go_ret2
  exact ⟨by rw [← unhide HT]; rfl, b1⟩
theorem rbuild_ok (v : Nat) (l : List UInt8) (w : World) (hl : l.length ≤ 9000) (hv : v < 16777216) :
    Calls Tryd.prog 9 #[.int .i64 (v : Int), .string (bs l)] w fun e w' => e = .returned (.tuple #[.string (bs (vbytes v l)), .int .i64 0]) ∧ Below w.heap.size w w' := by
  refine rbuild_at v (v * 256) (bs l) (bs (be (v * 256) 4)) _ w (by rw [bs_size]; omega) (by omega) (by omega) (u64_id v (by omega)) (by rw [bs_size, be_length]) (hide fun W => rbytes (v * 256) 4 W (by decide) (by omega)) (hide ?_)
  rw [show (⟨#[8, 0, 0, 0]⟩ : ByteArray) = bs [8, 0, 0, 0] from rfl, bs_append, bs_append, vbytes_doc]
theorem rbuild_bad (v : Int) (S : ByteArray) (w : World) (hv : v < 0 ∨ 16777215 < v) :
    Calls Tryd.prog 9 #[.int .i64 v, .string S] w fun e w' => e = .returned (.tuple #[.string ⟨#[]⟩, .int .i64 1]) ∧ Below w.heap.size w w' := by
  by_cases h : v < 0
  · clear hv
    go_enter Tryd.func9, Tryd.ntmps9
    go_wp2_with fail
    go_ret2
    exact ⟨rfl, Below.refl _ _⟩
  · have h2 : 16777215 < v := by omega
    clear hv
    go_enter Tryd.func9, Tryd.ntmps9
    go_wp2_with fail
    go_ret2
    exact ⟨rfl, Below.refl _ _⟩
theorem rparse_short (S : ByteArray) (w : World) (h : (S.size : Int) < 8) :
    Calls Tryd.prog 11 #[.string S] w fun e w' => e = .returned (.tuple #[.int .i64 0, .string ⟨#[]⟩, .int .i64 80]) ∧ Below w.heap.size w w' := by
  go_enter Tryd.func11, Tryd.ntmps11
  go_wp2_with fail
  go_ret3
  exact ⟨rfl, Below.refl _ _⟩
theorem rparse_flag (S : ByteArray) (c : Nat) (w : World) (h : 8 ≤ S.size) (hc : (S[0]'(by omega)).toNat = c) (hb : ((c : Int) / 8 % 2 == 0) = true) :
    Calls Tryd.prog 11 #[.string S] w fun e w' => e = .returned (.tuple #[.int .i64 0, .string ⟨#[]⟩, .int .i64 81]) ∧ Below w.heap.size w w' := by
  go_enter Tryd.func11, Tryd.ntmps11
  go_wp2_with fail
  go_ret3
  exact ⟨rfl, Below.refl _ _⟩
set_option maxRecDepth 100000 in
theorem rparse_at (S A T : ByteArray) (c n v : Nat) (w : World) (h : 8 ≤ S.size) (hc : (S[0]'(by omega)).toNat = c) (hb : ((c : Int) / 8 % 2 == 0) = false) (hv : Hid (wrap64 (IntKind.u64.wrap ((n : Int) / 256)) = (v : Int)))
    (s1 : ∀ W : World, (Instr.slice 9 (.string S) (some (.int .i64 4)) (some (.int .i64 8)) none).run Tryd.prog W = .ok (.string A) W)
    (s2 : ∀ W : World, (Instr.slice 9 (.string S) (some (.int .i64 8)) none none).run Tryd.prog W = .ok (.string T) W)
    (CN : Hid (∀ W, Calls Tryd.prog 21 #[.string A] W fun e W' => e = .returned (.int .u64 (n : Int)) ∧ W' = W)) :
    Calls Tryd.prog 11 #[.string S] w fun e w' => e = .returned (.tuple #[.int .i64 (v : Int), .string T, .int .i64 0]) ∧ Below w.heap.size w w' := by
  go_enter Tryd.func11, Tryd.ntmps11
  go_wp2_with fail
  go_quiet ((go_at_call 21; exact Calls.quiet_of_same (unhide CN _)))
  go_wp2_with fail
  go_ret3
  exact ⟨by show Ending.returned (Value.tuple #[.int .i64 (wrap64 (IntKind.u64.wrap ((n : Int) / 256))), .string T, .int .i64 0]) = _; rw [unhide hv], ⟨rfl, rfl, rfl, Nat.le_refl _, fun _ _ => rfl⟩⟩
theorem part_at (l : List UInt8) (a n : Nat) (h : a + n ≤ l.length) (W : World) : (Instr.slice 9 (.string (bs l)) (some (.int .i64 (a : Int))) (some (.int .i64 ((a + n : Nat) : Int))) none).run Tryd.prog W = .ok (.string (bs ((l.drop a).take n))) W := by
  have e := run_slice_string_lh (P := Tryd.prog) W 9 (bs l) Tryd.underlying9 .i64 .i64 (a : Int) ((a + n : Nat) : Int) (by omega) (by omega) (by rw [bs_size]; omega)
  rw [show ((a : Int)).toNat = a by omega, show (((a + n : Nat) : Int)).toNat = a + n by omega] at e
  have x : (bs l).extract a (a + n) = bs ((l.drop a).take n) := by
    rw [← bs_of ((bs l).extract a (a + n)), extract_toList, bs_toList, show a + n - a = n by omega]
  rw [x] at e
  exact e
theorem rest_at (l : List UInt8) (a : Nat) (h : a ≤ l.length) (W : World) : (Instr.slice 9 (.string (bs l)) (some (.int .i64 (a : Int))) none none).run Tryd.prog W = .ok (.string (bs (l.drop a))) W := by
  have e := run_slice_string_l (P := Tryd.prog) W 9 (bs l) Tryd.underlying9 .i64 (a : Int) (by omega) (by rw [bs_size]; omega)
  rw [show ((a : Int)).toNat = a by omega] at e
  have x : (bs l).extract a (bs l).size = bs (l.drop a) := by
    rw [← bs_of ((bs l).extract a (bs l).size), extract_toList, bs_toList, List.take_of_length_le (by rw [List.length_drop, bs_size]; omega)]
  rw [x] at e
  exact e
theorem flag_doc (l : List UInt8) : ((((l.headD 0).toNat : Nat) : Int) / 8 % 2 == 0) = !flag l := by
  unfold flag
  generalize (l.headD 0).toNat = n
  rcases Nat.mod_two_eq_zero_or_one (n / 8) with e | e
  · rw [e, beq_iff_eq.2 (show (n : Int) / 8 % 2 = 0 by omega)]; rfl
  · rw [e, beq_eq_false_iff_ne.2 (show (n : Int) / 8 % 2 ≠ 0 by omega)]; rfl
theorem rparse_any (l : List UInt8) (w : World) (hl : l.length ≤ 10000) :
    Calls Tryd.prog 11 #[.string (bs l)] w fun e w' => e = .returned (.tuple #[.int .i64 (((vparse l).1 : Nat) : Int), .string (bs (vparse l).2.1), .int .i64 (((vparse l).2.2 : Nat) : Int)]) ∧ Below w.heap.size w w' := by
  have hsz : (bs l).size = l.length := bs_size l
  by_cases h : l.length < 8
  · rw [show vparse l = (0, [], 80) from by unfold vparse; rw [if_pos h]]
    exact rparse_short (bs l) w (by omega)
  · have h8 : 8 ≤ (bs l).size := by omega
    cases hf : flag l
    · rw [show vparse l = (0, [], 81) from by unfold vparse; rw [if_neg h, hf]; rfl]
      exact rparse_flag (bs l) _ w h8 (headD_at l _) (by rw [flag_doc, hf]; rfl)
    · rw [show vparse l = (nm l 4 3, l.drop 8, 0) from by unfold vparse; rw [if_neg h, hf]; rfl]
      have h3 := nm3_lt l 4
      have hd := nm_doc l (by omega)
      have G := fun W => rnum ((l.drop 4).take 4) W (by rw [List.length_take]; omega)
      exact rparse_at (bs l) (bs ((l.drop 4).take 4)) (bs (l.drop 8)) _ (nm l 4 4) (nm l 4 3) w h8 (headD_at l _) (by rw [flag_doc, hf]; rfl) (hide (by rw [← hd] at h3 ⊢; rw [IntKind.wrap_u64]; unfold wrap64; omega))
        (fun W => part_at l 4 4 (by omega) W) (fun W => rest_at l 8 (by omega) W) (hide G)
end Go.Proofs.YtocbpkceokgohaaDoor
