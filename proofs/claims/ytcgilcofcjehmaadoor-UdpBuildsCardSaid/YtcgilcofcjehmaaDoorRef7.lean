/-
  The document's answer for checksums: the contracts of gangwayref03's Fold, Total, Of, low, Head, and gangwayref01's Num; no cell that was there before has turned.
-/
import Derived.Test.YtcgilcofcjehmaaDoorHead7
namespace Go.Proofs.YtcgilcofcjehmaaDoor
open Go.RowKit

theorem rfold (n : Nat) (w : World) (hn : n ≤ 4611686018427387904) :
    Calls Tryd.prog 32 #[.int .i64 n] w fun e w' => e = .returned (.int .i64 (fold n : Nat)) ∧ w' = w := by
  by_cases h : n = 0
  · subst h
    go_enter Tryd.func32, Tryd.ntmps32
    go_wp2_with fail
    go_ret
    exact ⟨rfl, rfl⟩
  · have hf : fold n = (n - 1) % 65535 + 1 := by rw [fold, if_neg h]
    have h0 : ((n : Int) == 0) = false := by rw [beq_eq_false_iff_ne]; omega
    have hz : 0 ≤ (n : Int) - 1 := by omega
    have HF := hide hf
    clear hf h
    go_enter Tryd.func32, Tryd.ntmps32
    go_wp2_with fail
    go_ret
    refine ⟨?_, rfl⟩
    rw [unhide HF]
    exact congrArg (fun x => Ending.returned (Value.int .i64 x)) (show ((n : Int) - 1) % 65535 + 1 = (((n - 1) % 65535 + 1 : Nat) : Int) by omega)
theorem rtotal (l : List UInt8) (w : World) (hl : l.length ≤ 10000) :
    Calls Tryd.prog 33 #[.string (bs l)] w fun e w' => e = .returned (.int .i64 (tot l : Nat)) ∧ w' = w := by
  have hsz : (bs l).size = l.length := bs_size l
  go_enter Tryd.func33, Tryd.ntmps33
  go_wp2_with fail
  go_loop [3, 4] (fun s i => ∃ k : Nat, k ≤ l.length ∧ i = .int .i64 k ∧ s = .int .i64 (tot (l.take k) : Nat)) (fun _ i => l.length - (intOf i).toNat)
  case atStart => exact ⟨0, Nat.zero_le _, rfl, rfl⟩
  case round =>
    obtain ⟨k, hk, rfl, rfl⟩ := hrel
    by_cases hlt : k < l.length
    · have hix : ((bs l)[k]'(by omega)).toNat = (l[k]).toNat := rfl
      have hx8 : (l[k]).toNat < 256 := (l[k]).toNat_lt
      have hns := tot_snoc (l.take k) l[k]
      rw [← take_next l k hlt, List.length_take, Nat.min_eq_left hk] at hns
      have hb := tot_le (l.take k)
      rw [List.length_take, Nat.min_eq_left hk] at hb
      have hs : ((tot (l.take k) : Nat) : Int) ≤ 6553500000 := by omega
      have HNS := hide hns
      clear hns hb
      generalize tot (l.take k) = m at HNS hs ⊢
      generalize (l[k]).toNat = x at HNS hx8 hix
      by_cases hp : k % 2 = 0
      · have hd : ((k : Int) % 2 == 0) = true := by rw [beq_iff_eq]; omega
        go_wp2_with fail
        go_round
        case rel => exact ⟨k + 1, by omega, by go_num, by rw [unhide HNS, if_pos hp]; go_num⟩
        case measure => simp [intOf]; omega
      · have hd : ((k : Int) % 2 == 0) = false := by rw [beq_eq_false_iff_ne]; omega
        go_wp2_with fail
        go_round
        case rel => exact ⟨k + 1, by omega, by go_num, by rw [unhide HNS, if_neg hp]; go_num⟩
        case measure => simp [intOf]; omega
    · obtain rfl : k = l.length := by omega
      rw [List.take_length]
      go_wp2_with fail
      go_ret
      exact ⟨rfl, rfl⟩
theorem tot_small (l : List UInt8) (hl : l.length ≤ 10000) : tot l ≤ 4611686018427387904 := by
  have := tot_le l
  omega
theorem rof (l : List UInt8) (w : World) (hl : l.length ≤ 10000) :
    Calls Tryd.prog 21 #[.string (bs l)] w fun e w' => e = .returned (.int .i64 (ck l : Nat)) ∧ w' = w := by
  have T := hide (fun W => rtotal l W hl)
  have F := hide (fun W => rfold (tot l) W (tot_small l hl))
  have hi := ck_int l
  have hf := fold_le (tot l)
  generalize fold (tot l) = x at F hi hf
  generalize ck l = c at hi ⊢
  go_enter Tryd.func21, Tryd.ntmps21
  go_wp2_with fail
  refine (unhide T _).mono ?_
  rintro e w' ⟨rfl, rfl⟩
  go_wp2_with fail
  refine (unhide F _).mono ?_
  rintro e w' ⟨rfl, rfl⟩
  go_wp2_with fail
  go_ret
  exact ⟨rfl, rfl⟩
theorem tmod_low (v : Int) : (wrap64 (v.tmod 65536 + 65536)).tmod 65536 = v % 65536 := by
  have key : v.tmod 65536 = v % 65536 ∨ v.tmod 65536 = v % 65536 - 65536 := by
    rcases Int.le_total 0 v with h | h
    · exact Or.inl (Int.tmod_eq_emod_of_nonneg h)
    · have e := Int.neg_tmod (-v) 65536
      rw [Int.neg_neg, Int.tmod_eq_emod_of_nonneg (a := -v) (by omega)] at e
      omega
  generalize v.tmod 65536 = t at key
  have e : wrap64 (t + 65536) = t + 65536 := by unfold wrap64; omega
  rw [e, Int.tmod_eq_emod_of_nonneg (by omega)]
  omega
theorem rlow (v : Int) (x : Nat) (w : World) (hx : v % 65536 = x) :
    Calls Tryd.prog 34 #[.int .i64 v] w fun e w' => e = .returned (.int .i64 x) ∧ w' = w := by
  have H := hide ((tmod_low v).trans hx)
  clear hx
  go_enter Tryd.func34, Tryd.ntmps34
  go_wp2_with fail
  go_ret
  refine ⟨?_, rfl⟩
  exact congrArg (fun y => Ending.returned (Value.int .i64 y)) (unhide H)
theorem headB_ref (s d q m P N : Nat) (hq : P % 256 = q) (hm : N % 65536 = m) : bs (be s 4) ++ bs (be d 4) ++ bs (be q 2) ++ bs (be m 2) = bs (headB s d P N) := by
  have e1 : be q 2 = [0] ++ be P 1 := by
    subst hq
    rw [be_head (P % 256) 1 (Nat.mod_lt _ (by decide))]
    have := be_mod P 1
    rw [Nat.pow_one] at this
    rw [this]; rfl
  have e2 : be m 2 = be N 2 := by
    subst hm
    exact be_mod N 2
  rw [bs_append, bs_append, bs_append, e1, e2]
  simp [headB]
theorem rhead (s d P N q m : Nat) (p n : Int) (w : World) (hs : s < 4294967296) (hd : d < 4294967296) (hp : IntKind.u64.wrap p = (P : Int)) (hn : IntKind.u64.wrap n = (N : Int)) (hq : IntKind.u8.wrap p = (q : Int)) (hm : n % 65536 = (m : Int)) :
    Calls Tryd.prog 22 #[.int .u32 s, .int .u32 d, .int .i64 p, .int .i64 n] w fun e w' => e = .returned (.string (bs (headB s d P N))) ∧ Below w.heap.size w w' := by
  have hs' : IntKind.u64.wrap (s : Int) = (s : Int) := by rw [IntKind.wrap_u64]; omega
  have hd' : IntKind.u64.wrap (d : Int) = (d : Int) := by rw [IntKind.wrap_u64]; omega
  have q1 : P % 256 = q ∧ q < 256 := by
    rw [IntKind.wrap_u64] at hp
    rw [IntKind.wrap_u8] at hq
    omega
  have m1 : N % 65536 = m ∧ m < 65536 := by
    rw [IntKind.wrap_u64] at hn
    omega
  have hq' : IntKind.u64.wrap (q : Int) = (q : Int) := by rw [IntKind.wrap_u64]; omega
  have hm' : IntKind.u64.wrap (m : Int) = (m : Int) := by rw [IntKind.wrap_u64]; omega
  have HH := hide (headB_ref s d q m P N q1.1 m1.1)
  have A1 := hide (fun W => rbytes s 4 W (by omega) (by omega))
  have A2 := hide (fun W => rbytes d 4 W (by omega) (by omega))
  have A3 := hide (fun W => rbytes q 2 W (by omega) (by omega))
  have A4 := hide (fun W => rbytes m 2 W (by omega) (by omega))
  have L := hide (fun W => rlow n m W hm)
  have z1 : (bs (be s 4)).size = 4 := by rw [bs_size, be_length]
  have z2 : (bs (be d 4)).size = 4 := by rw [bs_size, be_length]
  have z3 : (bs (be q 2)).size = 2 := by rw [bs_size, be_length]
  have z4 : (bs (be m 2)).size = 2 := by rw [bs_size, be_length]
  generalize bs (be s 4) = a1 at *
  generalize bs (be d 4) = a2 at *
  generalize bs (be q 2) = a3 at *
  generalize bs (be m 2) = a4 at *
  generalize bs (headB s d P N) = a5 at *
  clear hs hd hp hn q1 m1 hm
  go_enter Tryd.func22, Tryd.ntmps22
  go_wp2_with fail
  refine (unhide A1 _).mono ?_
  rintro e w1 ⟨rfl, b1⟩
  go_wp2_with fail
  refine (unhide A2 _).mono ?_
  rintro e w2 ⟨rfl, b2⟩
  go_wp2_with fail
  refine (unhide A3 _).mono ?_
  rintro e w3 ⟨rfl, b3⟩
  go_wp2_with fail
  refine (unhide L _).mono ?_
  rintro e w3' ⟨rfl, rfl⟩
  go_wp2_with fail
  refine (unhide A4 _).mono ?_
  rintro e w4 ⟨rfl, b4⟩
  go_wp2_with fail
  go_ret
  exact ⟨by rw [← unhide HH]; rfl, bthen (bthen (bthen b1 b2) b3) b4⟩

set_option maxRecDepth 20000 in
theorem rnum (l : List UInt8) (w : World) (hl : l.length ≤ 7) :
    Calls Tryd.prog 28 #[.string (bs l)] w fun e w' => e = .returned (.int .u64 ((num l : Nat) : Int)) ∧ w' = w := by
  have hsz : (bs l).size = l.length := bs_size l
  go_enter Tryd.func28, Tryd.ntmps28
  go_wp2_with fail
  go_loop [3, 4] (fun x i => ∃ k : Nat, k ≤ l.length ∧ i = .int .i64 k ∧ x = .int .u64 ((num (l.take k) : Nat) : Int)) (fun _ i => l.length - (intOf i).toNat)
  case atStart => exact ⟨0, Nat.zero_le _, rfl, rfl⟩
  case round =>
    obtain ⟨k, hk, rfl, rfl⟩ := hrel
    by_cases hlt : k < l.length
    · have hix : ((bs l)[k]'(by omega)).toNat = (l[k]).toNat := rfl
      have hx8 : (l[k]).toNat < 256 := (l[k]).toNat_lt
      have hns : num (l.take (k + 1)) = num (l.take k) * 256 + (l[k]).toNat := by rw [take_next l k hlt, num_snoc]
      have hm : num (l.take k) < 281474976710656 := Nat.lt_of_lt_of_le (num_lt _) (by
        rw [List.length_take, Nat.min_eq_left (Nat.le_of_lt hlt)]
        exact Nat.le_trans (Nat.pow_le_pow_right (n := 256) (by omega) (show k ≤ 6 by omega)) (by decide))
      have hmi : ((num (l.take k) : Nat) : Int) < 281474976710656 := by omega
      have HNS := hide hns
      clear hns hm
      generalize num (l.take k) = m at hmi HNS ⊢
      generalize (l[k]).toNat = x at hix hx8 HNS
      go_wp2_with fail
      go_round
      case rel => exact ⟨k + 1, by omega, by go_num, by rw [unhide HNS]; rfl⟩
      case measure => simp [intOf]; omega
    · obtain rfl : k = l.length := by omega
      rw [List.take_length]
      go_wp2_with fail
      go_ret
      exact ⟨rfl, rfl⟩
end Go.Proofs.YtcgilcofcjehmaaDoor

