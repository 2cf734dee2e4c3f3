/-
  The contracts of csum's functions fold, total, Of, Right: what each hands back; no cell that was there before has turned.
-/
import Derived.Test.YtcgilcofcjehmaaDoorBytes3
import Derived.Test.YtcgilcofcjehmaaDoorCsumPlain
namespace Go.Proofs.YtcgilcofcjehmaaDoor
open Go.RowKit

theorem cfold (n : Nat) (w : World) (hn : n ≤ 4611686018427387904) :
    Calls Tryd.prog 42 #[.int .i64 n] w fun e w' => e = .returned (.int .i64 (fold n : Nat)) ∧ w' = w := by
  go_enter Tryd.func42, Tryd.ntmps42
  go_wp2
  go_loop [0] (fun x => ∃ k : Nat, k ≤ n ∧ fold k = fold n ∧ x = .int .i64 k) (fun x => (intOf x).toNat)
  case atStart => exact ⟨n, Nat.le_refl _, rfl, rfl⟩
  case round =>
    obtain ⟨k, hk, hf, rfl⟩ := hrel
    have HF := hide hf
    clear hf
    by_cases hlt : k < 65536
    · have hlt' : ¬ (65536 ≤ (k : Int)) := by omega
      go_wp2
      go_ret
      rw [← unhide HF, fold_small k (by omega)]
      exact ⟨rfl, rfl⟩
    · have hlt' : 65536 ≤ (k : Int) := by omega
      go_wp2
      go_round
      case rel => exact ⟨k % 65536 + k / 65536, by omega, by rw [fold_step]; exact unhide HF, by go_num⟩
      case measure => simp [intOf]; omega

/-- a number's lowest sixteen bits -/
theorem low16 (v : Int) : bits BinOp.and IntKind.i64 v 65535 = v % 65536 := by
  show IntKind.i64.wrap ((BitVec.ofInt 64 v &&& BitVec.ofInt 64 65535).toNat : Int) = _
  rw [BitVec.toNat_and, BitVec.toNat_ofInt, show (BitVec.ofInt 64 65535).toNat = 2 ^ 16 - 1 from by decide, Nat.and_two_pow_sub_one_eq_mod, IntKind.wrap_i64]
  omega
theorem take_next (l : List UInt8) (k : Nat) (h : k < l.length) : l.take (k + 1) = l.take k ++ [l[k]] := List.take_succ_eq_append_getElem h
theorem flat_next (l : List (List UInt8)) (k : Nat) (h : k < l.length) : (l.take (k + 1)).flatten = (l.take k).flatten ++ l[k] := by
  rw [List.take_succ_eq_append_getElem h, List.flatten_append, List.flatten_singleton]
theorem flat_le (l : List (List UInt8)) (k : Nat) : (l.take k).flatten.length ≤ l.flatten.length := by
  conv => rhs; rw [← List.take_append_drop k l, List.flatten_append, List.length_append]
  omega
/-- one byte more of a part -/
theorem part_next (F p : List UInt8) (j : Nat) (h : j < p.length) : tot (F ++ p.take (j + 1)) = tot (F ++ p.take j) + (if (F ++ p.take j).length % 2 = 0 then 256 * (p[j]).toNat else (p[j]).toNat) ∧ (F ++ p.take (j + 1)).length = (F ++ p.take j).length + 1 := by
  have e : F ++ p.take (j + 1) = F ++ p.take j ++ [p[j]] := by rw [take_next p j h, List.append_assoc]
  rw [e, tot_snoc]
  exact ⟨rfl, by rw [List.length_append]; rfl⟩
theorem part_le (F p : List UInt8) (j : Nat) (h : F.length + p.length ≤ 100000) : tot (F ++ p.take j) ≤ 6553500000 := by
  have h1 := tot_le (F ++ p.take j)
  have h2 : (F ++ p.take j).length ≤ 100000 := by rw [List.length_append, List.length_take]; omega
  omega
set_option maxHeartbeats 2000000 in
theorem total_any (b off cap : Nat) (l : List (List UInt8)) (w : World) (hl : l.flatten.length ≤ 100000) (hn : l.length ≤ 100) (hc : ∀ (j : Nat) (h : j < l.length), w.cell? ⟨b, off + j, none⟩ = some (.string (bs l[j]))) :
    Calls Tryd.prog 30 #[.slice (some ⟨b, off, none⟩) l.length cap] w fun e w' => e = .returned (.int .i64 (fold (tot l.flatten) : Nat)) ∧ w' = w := by
  go_enter Tryd.func30, Tryd.ntmps30
  go_wp2_with fail
  go_loop [3, 4, 11] (fun s g i => ∃ k : Nat, k ≤ l.length ∧ i = .int .i64 k ∧ s = .int .i64 (tot (l.take k).flatten : Nat) ∧ g = .bool (decide ((l.take k).flatten.length % 2 = 0))) (fun _ _ i => l.length - (intOf i).toNat)
  case atStart => exact ⟨0, Nat.zero_le _, rfl, rfl, rfl⟩
  case round =>
    obtain ⟨k, hk, rfl, rfl, rfl⟩ := hrel
    by_cases hlt : k < l.length
    · have hcell := hc k hlt
      have hle := Nat.le_trans (flat_le l (k + 1)) hl
      have HFL := hide (flat_next l k hlt)
      rw [flat_next l k hlt, List.length_append] at hle
      clear hc hl
      generalize (l.take k).flatten = F at HFL hle ⊢
      generalize l[k] = p at HFL hle hcell
      have hsz : (bs p).size = p.length := bs_size p
      go_wp2_with fail
      go_loop [3, 4, 17] (fun s g i => ∃ j : Nat, j ≤ p.length ∧ i = .int .i64 j ∧ s = .int .i64 (tot (F ++ p.take j) : Nat) ∧ g = .bool (decide ((F ++ p.take j).length % 2 = 0))) (fun _ _ i => p.length - (intOf i).toNat)
      case atStart => exact ⟨0, Nat.zero_le _, rfl, by simp, by simp⟩
      case round =>
        obtain ⟨j, hj, rfl, rfl, rfl⟩ := hrel
        by_cases hltj : j < p.length
        · have hix : ((bs p)[j]'(by omega)).toNat = (p[j]).toNat := rfl
          have hx8 : (p[j]).toNat < 256 := (p[j]).toNat_lt
          have HNS := hide (part_next F p j hltj)
          have hb := part_le F p j hle
          have hs : ((tot (F ++ p.take j) : Nat) : Int) ≤ 6553500000 := by omega
          clear hb
          generalize hG : F ++ p.take j = G at HNS hs ⊢
          clear hG
          generalize (p[j]).toNat = x at HNS hx8 hix
          by_cases hp : G.length % 2 = 0
          · have hd : decide (G.length % 2 = 0) = true := decide_eq_true hp
            go_wp2_with fail
            go_round
            case rel => exact ⟨j + 1, by omega, by go_num, by rw [(unhide HNS).1, if_pos hp]; go_num, by rw [(unhide HNS).2, decide_eq_false (show ¬ (G.length + 1) % 2 = 0 by omega)]⟩
            case measure => simp [intOf]; omega
          · have hd : decide (G.length % 2 = 0) = false := decide_eq_false hp
            go_wp2_with fail
            go_round
            case rel => exact ⟨j + 1, by omega, by go_num, by rw [(unhide HNS).1, if_neg hp]; go_num, by rw [(unhide HNS).2, decide_eq_true (show (G.length + 1) % 2 = 0 by omega)]⟩
            case measure => simp [intOf]; omega
        · obtain rfl : j = p.length := by omega
          rw [List.take_length]
          go_wp2_with fail
          go_round
          case rel => exact ⟨k + 1, by omega, by go_num, by rw [unhide HFL], by rw [unhide HFL]⟩
          case measure => simp [intOf]; omega
    · obtain rfl : k = l.length := by omega
      have hb := tot_le l.flatten
      rw [List.take_length]
      go_wp2_with fail
      refine (cfold _ _ (by omega)).mono ?_
      rintro e w' ⟨rfl, rfl⟩
      go_wp2_with fail
      go_ret
      exact ⟨rfl, rfl⟩

theorem total_nil (w : World) : Calls Tryd.prog 30 #[.slice none 0 0] w fun e w' => e = .returned (.int .i64 0) ∧ w' = w := by
  go_enter Tryd.func30, Tryd.ntmps30
  go_wp2_with fail
  refine wp_loop_rounds 1 ?_
  rw [rounds_succ]
  go_wp2_with fail
  refine (cfold 0 _ (by omega)).mono ?_
  rintro e w' ⟨rfl, rfl⟩
  go_wp2_with fail
  go_ret
  exact ⟨rfl, rfl⟩

/-- the checksum of bytes -/
def ck (l : List UInt8) : Nat := 65535 - fold (tot l)
theorem ck_le (l : List UInt8) : ck l ≤ 65535 := Nat.sub_le _ _
theorem ck_int (l : List UInt8) : (65535 : Int) - ((fold (tot l) : Nat) : Int) = ((ck l : Nat) : Int) := by
  have := fold_le (tot l)
  unfold ck
  omega
theorem of_any (b off cap : Nat) (l : List (List UInt8)) (w : World) (hl : l.flatten.length ≤ 100000) (hn : l.length ≤ 100) (hc : ∀ (j : Nat) (h : j < l.length), w.cell? ⟨b, off + j, none⟩ = some (.string (bs l[j]))) :
    Calls Tryd.prog 18 #[.slice (some ⟨b, off, none⟩) l.length cap] w fun e w' => e = .returned (.int .i64 (ck l.flatten : Nat)) ∧ w' = w := by
  have T := hide (total_any b off cap l w hl hn hc)
  have hi := ck_int l.flatten
  have hf := fold_le (tot l.flatten)
  clear hc
  generalize fold (tot l.flatten) = x at T hi hf
  generalize ck l.flatten = c at hi ⊢
  go_enter Tryd.func18, Tryd.ntmps18
  go_wp2_with fail
  refine (unhide T).mono ?_
  rintro e w' ⟨rfl, rfl⟩
  go_wp2_with fail
  go_ret
  exact ⟨rfl, rfl⟩
theorem of_nil (w : World) : Calls Tryd.prog 18 #[.slice none 0 0] w fun e w' => e = .returned (.int .i64 65535) ∧ w' = w := by
  go_enter Tryd.func18, Tryd.ntmps18
  go_wp2_with fail
  refine (total_nil _).mono ?_
  rintro e w' ⟨rfl, rfl⟩
  go_wp2_with fail
  go_ret
  exact ⟨rfl, rfl⟩
theorem right_any (b off cap : Nat) (l : List (List UInt8)) (w : World) (hl : l.flatten.length ≤ 100000) (hn : l.length ≤ 100) (hc : ∀ (j : Nat) (h : j < l.length), w.cell? ⟨b, off + j, none⟩ = some (.string (bs l[j]))) :
    Calls Tryd.prog 36 #[.slice (some ⟨b, off, none⟩) l.length cap] w fun e w' => e = .returned (.bool (decide (fold (tot l.flatten) = 65535))) ∧ w' = w := by
  have T := hide (total_any b off cap l w hl hn hc)
  clear hc
  generalize fold (tot l.flatten) = x at T ⊢
  have hd : ((x : Int) == 65535) = decide (x = 65535) := by
    rw [Bool.eq_iff_iff]
    simp
    omega
  go_enter Tryd.func36, Tryd.ntmps36
  go_wp2_with fail
  refine (unhide T).mono ?_
  rintro e w' ⟨rfl, rfl⟩
  go_wp2_with fail
  go_ret
  exact ⟨rfl, rfl⟩
end Go.Proofs.YtcgilcofcjehmaaDoor

