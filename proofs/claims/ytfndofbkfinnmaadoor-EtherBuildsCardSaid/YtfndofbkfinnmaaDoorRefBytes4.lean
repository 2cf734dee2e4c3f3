/-
  The document's answer for numbers as bytes: the contract of gangwayref01's Bytes.
-/
import Derived.Test.YtfndofbkfinnmaaDoorEther9
namespace Go.Proofs.YtfndofbkfinnmaaDoor
open Go.RowKit
theorem one_string (wr : World) (u : Nat) : (convert 60 9 (.slice (some ⟨wr.heap.size, 0, none⟩) 1 1)).run Tryd.prog (wr.alloc (.cells #[.int .u8 ((u : Int) % 256)] 5)) = .ok (.string (bs [UInt8.ofNat (u % 256)])) (wr.alloc (.cells #[.int .u8 ((u : Int) % 256)] 5)) := by
  refine run_own_string (base := wr.heap.size) [UInt8.ofNat (u % 256)] ?_
  have h := World.ownsRow_lit (base := wr.heap.size) (e := 5) (size := 1) wr #[.int .u8 ((u : Int) % 256)] 1 (Nat.le_refl _) (by decide) rfl
  have e : Lib.byteCells [UInt8.ofNat (u % 256)] = [Value.int .u8 ((u : Int) % 256)] := by
    simp only [Lib.byteCells, List.map_cons, List.map_nil]
    rw [UInt8.toNat_ofNat_of_lt' (by show _ < 256; omega)]
    simp
  rw [e]; exact h
set_option maxRecDepth 20000 in
theorem rbytes (v n : Nat) (w : World) (hn : n ≤ 8) (hv : v < 18446744073709551616) :
    Calls Tryd.prog 21 #[.int .u64 v, .int .i64 n] w fun e w' => e = .returned (.string (bs (be v n))) ∧ Below w.heap.size w w' := by
  go_enter Tryd.func21, Tryd.ntmps21
  go_wp2
  go_loopw [0, 5, 6] (fun u s i wr => ∃ k : Nat, k ≤ n ∧ i = .int .i64 k ∧ u = .int .u64 ((v / 256 ^ k : Nat) : Int) ∧ s = .string (bs (be v k)) ∧ Below w.heap.size w wr) (fun _ _ i _ => n - (intOf i).toNat)
  case atStart => exact ⟨0, Nat.zero_le _, rfl, by simp, rfl, Below.refl _ _⟩
  case round =>
    obtain ⟨k, hk, rfl, rfl, rfl, hb⟩ := hrel
    by_cases hlt : k < n
    · have hbe := be_cons v k
      have hdv : v / 256 ^ k / 256 = v / 256 ^ (k + 1) := by rw [Nat.div_div_eq_div_mul, Nat.pow_succ]
      have hle : v / 256 ^ k < 18446744073709551616 := Nat.lt_of_le_of_lt (Nat.div_le_self _ _) hv
      have hsz : (bs (be v k)).size = k := by rw [bs_size, be_length]
      generalize v / 256 ^ k = u at hbe hdv hle ⊢
      have hcv := one_string wr u
      have hsz1 : (bs [UInt8.ofNat (u % 256)]).size = 1 := bs_size _
      have hap : bs [UInt8.ofNat (u % 256)] ++ bs (be v k) = bs (be v (k + 1)) := by rw [bs_append, hbe]; rfl
      have HD := hide hdv
      have HA := hide hap
      clear hdv hbe hap
      generalize bs (be v k) = L at hsz HA ⊢
      generalize bs [UInt8.ofNat (u % 256)] = C at hsz1 hcv HA
      go_wp2
      go_roundw
      case rel => exact ⟨k + 1, by omega, by go_num, by rw [← unhide HD]; rfl, by rw [← unhide HA], hb.alloc hb.size _⟩
      case measure => simp [intOf]; omega
    · obtain rfl : k = n := by omega
      go_wp2
      go_ret
      exact ⟨rfl, hb⟩
end Go.Proofs.YtfndofbkfinnmaaDoor
