/-
  The document's answer for numbers and checksums: the contracts of gangwayref01's Num and gangwayref03's Fold, Total, Of, low, Patch; no cell that was there before has turned.
-/
import Derived.Test.YtojipoifjioglaaDoorSum6
namespace Go.Proofs.YtojipoifjioglaaDoor
open Go.RowKit

theorem rfold (n : Nat) (w : World) (hn : n ≤ 4611686018427387904) :
    Calls Tryd.prog 40 #[.int .i64 n] w fun e w' => e = .returned (.int .i64 (fold n : Nat)) ∧ w' = w := by
  by_cases h : n = 0
  · subst h
    go_enter Tryd.func40, Tryd.ntmps40
    go_wp2_with fail
    go_ret
    exact ⟨rfl, rfl⟩
  · have hf : fold n = (n - 1) % 65535 + 1 := by rw [fold, if_neg h]
    have h0 : ((n : Int) == 0) = false := by rw [beq_eq_false_iff_ne]; omega
    have hz : 0 ≤ (n : Int) - 1 := by omega
    have HF := hide hf
    clear hf h
    go_enter Tryd.func40, Tryd.ntmps40
    go_wp2_with fail
    go_ret
    refine ⟨?_, rfl⟩
    rw [unhide HF]
    exact congrArg (fun x => Ending.returned (Value.int .i64 x)) (show ((n : Int) - 1) % 65535 + 1 = (((n - 1) % 65535 + 1 : Nat) : Int) by omega)
theorem rtotal (l : List UInt8) (w : World) (hl : l.length ≤ 10000) :
    Calls Tryd.prog 41 #[.string (bs l)] w fun e w' => e = .returned (.int .i64 (tot l : Nat)) ∧ w' = w := by
  have hsz : (bs l).size = l.length := bs_size l
  go_enter Tryd.func41, Tryd.ntmps41
  go_wp2_with fail
  go_loop [3, 4] (fun s i => ∃ k : Nat, k ≤ l.length ∧ i = .int .i64 k ∧ s = .int .i64 (tot (l.take k) : Nat)) (fun _ i => l.length - (intOf i).toNat)
  case atStart => exact ⟨0, Nat.zero_le _, rfl, rfl⟩
  case round =>
    obtain ⟨k, hk, rfl, rfl⟩ := hrel
    by_cases hlt : k < l.length
    · have hix : ((bs l)[k]'(by omega)).toNat = (l[k]).toNat := rfl
      have hx8 : (l[k]).toNat < 256 := (l[k]).toNat_lt
      have hns := tot_snoc (l.take k) l[k]
      rw [← take_next l k hlt, List.length_take, Nat.min_eq_left hk] at hns
      have hb := tot_le (l.take k)
      rw [List.length_take, Nat.min_eq_left hk] at hb
      have hs : ((tot (l.take k) : Nat) : Int) ≤ 6553500000 := by omega
      have HNS := hide hns
      clear hns hb
      generalize tot (l.take k) = m at HNS hs ⊢
      generalize (l[k]).toNat = x at HNS hx8 hix
      by_cases hp : k % 2 = 0
      · have hd : ((k : Int) % 2 == 0) = true := by rw [beq_iff_eq]; omega
        go_wp2_with fail
        go_round
        case rel => exact ⟨k + 1, by omega, by go_num, by rw [unhide HNS, if_pos hp]; go_num⟩
        case measure => simp [intOf]; omega
      · have hd : ((k : Int) % 2 == 0) = false := by rw [beq_eq_false_iff_ne]; omega
        go_wp2_with fail
        go_round
        case rel => exact ⟨k + 1, by omega, by go_num, by rw [unhide HNS, if_neg hp]; go_num⟩
        case measure => simp [intOf]; omega
    · obtain rfl : k = l.length := by omega
      rw [List.take_length]
      go_wp2_with fail
      go_ret
      exact ⟨rfl, rfl⟩
theorem tot_small (l : List UInt8) (hl : l.length ≤ 10000) : tot l ≤ 4611686018427387904 := by
  have := tot_le l
  omega
theorem rof (l : List UInt8) (w : World) (hl : l.length ≤ 10000) :
    Calls Tryd.prog 26 #[.string (bs l)] w fun e w' => e = .returned (.int .i64 (ck l : Nat)) ∧ w' = w := by
  have T := hide (fun W => rtotal l W hl)
  have F := hide (fun W => rfold (tot l) W (tot_small l hl))
  have hi := ck_int l
  have hf := fold_le (tot l)
  generalize fold (tot l) = x at F hi hf
  generalize ck l = c at hi ⊢
  go_enter Tryd.func26, Tryd.ntmps26
  go_wp2_with fail
  refine (unhide T _).mono ?_
  rintro e w' ⟨rfl, rfl⟩
  go_wp2_with fail
  refine (unhide F _).mono ?_
  rintro e w' ⟨rfl, rfl⟩
  go_wp2_with fail
  go_ret
  exact ⟨rfl, rfl⟩
theorem tmod_low (v : Int) : (wrap64 (v.tmod 65536 + 65536)).tmod 65536 = v % 65536 := by
  have key : v.tmod 65536 = v % 65536 ∨ v.tmod 65536 = v % 65536 - 65536 := by
    rcases Int.le_total 0 v with h | h
    · exact Or.inl (Int.tmod_eq_emod_of_nonneg h)
    · have e := Int.neg_tmod (-v) 65536
      rw [Int.neg_neg, Int.tmod_eq_emod_of_nonneg (a := -v) (by omega)] at e
      omega
  generalize v.tmod 65536 = t at key
  have e : wrap64 (t + 65536) = t + 65536 := by unfold wrap64; omega
  rw [e, Int.tmod_eq_emod_of_nonneg (by omega)]
  omega
theorem rlow (v : Int) (x : Nat) (w : World) (hx : v % 65536 = x) :
    Calls Tryd.prog 48 #[.int .i64 v] w fun e w' => e = .returned (.int .i64 x) ∧ w' = w := by
  have H := hide ((tmod_low v).trans hx)
  clear hx
  go_enter Tryd.func48, Tryd.ntmps48
  go_wp2_with fail
  go_ret
  refine ⟨?_, rfl⟩
  exact congrArg (fun y => Ending.returned (Value.int .i64 y)) (unhide H)
theorem rpatch (s o n : Int) (x y c : Nat) (w : World) (hx : s % 65536 = x) (hy : o % 65536 = y) (hc : n % 65536 = c) :
    Calls Tryd.prog 33 #[.int .i64 s, .int .i64 o, .int .i64 n] w fun e w' => e = .returned (.int .i64 (pat (65535 - x) (65535 - y) c : Nat)) ∧ w' = w := by
  have h1 : (x : Int) < 65536 := by omega
  have h2 : (y : Int) < 65536 := by omega
  have h3 : (c : Int) < 65536 := by omega
  have hp := pat_int (65535 - x) (65535 - y) c
  have hf := fold_le (65535 - x + (65535 - y) + c)
  have F := hide (fun W => rfold (65535 - x + (65535 - y) + c) W (by omega))
  rw [show ((65535 - x + (65535 - y) + c : Nat) : Int) = 65535 - (x : Int) + 65535 - (y : Int) + (c : Int) by omega] at F
  generalize fold (65535 - x + (65535 - y) + c) = z at hp hf F
  generalize pat (65535 - x) (65535 - y) c = r at hp ⊢
  have L1 := hide (fun W => rlow s x W hx)
  have L2 := hide (fun W => rlow o y W hy)
  have L3 := hide (fun W => rlow n c W hc)
  clear hx hy hc
  go_enter Tryd.func33, Tryd.ntmps33
  go_wp2_with fail
  refine (unhide L1 _).mono ?_
  rintro e w' ⟨rfl, rfl⟩
  go_wp2_with fail
  refine (unhide L2 _).mono ?_
  rintro e w' ⟨rfl, rfl⟩
  go_wp2_with fail
  refine (unhide L3 _).mono ?_
  rintro e w' ⟨rfl, rfl⟩
  go_wp2_with fail
  refine (unhide F _).mono ?_
  rintro e w' ⟨rfl, rfl⟩
  go_wp2_with fail
  go_ret
  exact ⟨rfl, rfl⟩
set_option maxRecDepth 20000 in
theorem rnum (l : List UInt8) (w : World) (hl : l.length ≤ 7) :
    Calls Tryd.prog 44 #[.string (bs l)] w fun e w' => e = .returned (.int .u64 ((num l : Nat) : Int)) ∧ w' = w := by
  have hsz : (bs l).size = l.length := bs_size l
  go_enter Tryd.func44, Tryd.ntmps44
  go_wp2_with fail
  go_loop [3, 4] (fun x i => ∃ k : Nat, k ≤ l.length ∧ i = .int .i64 k ∧ x = .int .u64 ((num (l.take k) : Nat) : Int)) (fun _ i => l.length - (intOf i).toNat)
  case atStart => exact ⟨0, Nat.zero_le _, rfl, rfl⟩
  case round =>
    obtain ⟨k, hk, rfl, rfl⟩ := hrel
    by_cases hlt : k < l.length
    · have hix : ((bs l)[k]'(by omega)).toNat = (l[k]).toNat := rfl
      have hx8 : (l[k]).toNat < 256 := (l[k]).toNat_lt
      have hns : num (l.take (k + 1)) = num (l.take k) * 256 + (l[k]).toNat := by rw [take_next l k hlt, num_snoc]
      have hm : num (l.take k) < 281474976710656 := Nat.lt_of_lt_of_le (num_lt _) (by
        rw [List.length_take, Nat.min_eq_left (Nat.le_of_lt hlt)]
        exact Nat.le_trans (Nat.pow_le_pow_right (n := 256) (by omega) (show k ≤ 6 by omega)) (by decide))
      have hmi : ((num (l.take k) : Nat) : Int) < 281474976710656 := by omega
      have HNS := hide hns
      clear hns hm
      generalize num (l.take k) = m at hmi HNS ⊢
      generalize (l[k]).toNat = x at hix hx8 HNS
      go_wp2_with fail
      go_round
      case rel => exact ⟨k + 1, by omega, by go_num, by rw [unhide HNS]; rfl⟩
      case measure => simp [intOf]; omega
    · obtain rfl : k = l.length := by omega
      rw [List.take_length]
      go_wp2_with fail
      go_ret
      exact ⟨rfl, rfl⟩
end Go.Proofs.YtojipoifjioglaaDoor
