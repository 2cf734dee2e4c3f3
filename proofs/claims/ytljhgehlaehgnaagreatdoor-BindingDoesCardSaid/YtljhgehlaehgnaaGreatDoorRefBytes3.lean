/-
  The document's bytes of a number: gangwayref01.Bytes, where octets.Put's number goes in its bytes.
-/
import Derived.Test.YtljhgehlaehgnaaGreatDoorBytes3
namespace Go.Proofs.YtljhgehlaehgnaaGreatDoor
open Go.RowKit

set_option maxRecDepth 20000 in
theorem rbytes (v n : Nat) (w : World) (hn : n ≤ 8) (hv : v < 18446744073709551616) :
    Calls Tryz.prog 69 #[.int .u64 v, .int .i64 n] w fun e w' => e = .returned (.string (bs (be v n))) ∧ Below w.heap.size w w' := by
  go_enter Tryz.func69, Tryz.ntmps69
  go_wp2
  go_loopw [0, 5, 6] (fun u s i wr => ∃ k : Nat, k ≤ n ∧ i = .int .i64 k ∧ u = .int .u64 ((v / 256 ^ k : Nat) : Int) ∧ s = .string (bs (be v k)) ∧ Below w.heap.size w wr) (fun _ _ i _ => n - (intOf i).toNat)
  case atStart => exact ⟨0, Nat.zero_le _, rfl, by simp, rfl, Below.refl _ _⟩
  case round =>
    obtain ⟨k, hk, rfl, rfl, rfl, hb⟩ := hrel
    by_cases hlt : k < n
    · have hbe := be_cons v k
      have hdv : v / 256 ^ k / 256 = v / 256 ^ (k + 1) := by rw [Nat.div_div_eq_div_mul, Nat.pow_succ]
      have hle : v / 256 ^ k < 18446744073709551616 := Nat.lt_of_le_of_lt (Nat.div_le_self _ _) hv
      have hsz : (bs (be v k)).size = k := by rw [bs_size, be_length]
      generalize v / 256 ^ k = u at hbe hdv hle ⊢
      have hcv := one_string wr u
      have hsz1 : (bs [UInt8.ofNat (u % 256)]).size = 1 := bs_size _
      have hap : bs [UInt8.ofNat (u % 256)] ++ bs (be v k) = bs (be v (k + 1)) := by rw [bs_append, hbe]; rfl
      have HD := hide hdv
      have HA := hide hap
      clear hdv hbe hap
      generalize bs (be v k) = L at hsz HA ⊢
      generalize bs [UInt8.ofNat (u % 256)] = C at hsz1 hcv HA
      go_wp2
      go_roundw
      case rel => exact ⟨k + 1, by omega, by go_num, by rw [← unhide HD]; rfl, by rw [← unhide HA], hb.alloc hb.size _⟩
      case measure => simp [intOf]; omega
    · obtain rfl : k = n := by omega
      go_wp2
      go_ret
      exact ⟨rfl, hb⟩
end Go.Proofs.YtljhgehlaehgnaaGreatDoor

