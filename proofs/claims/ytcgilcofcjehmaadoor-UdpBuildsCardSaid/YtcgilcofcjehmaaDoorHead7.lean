/-
  The contracts of csum's functions low and Head; no cell that was there before has turned.
-/
import Derived.Test.YtcgilcofcjehmaaDoorSum7
namespace Go.Proofs.YtcgilcofcjehmaaDoor
open Go.RowKit

theorem be_mod (v n : Nat) : be (v % 256 ^ n) n = be v n := by
  induction n generalizing v with
  | zero => rfl
  | succ n ih =>
    rw [be, be, ← ih (v / 256)]
    have e1 : v % 256 ^ (n + 1) % 256 = v % 256 := by
      rw [Nat.pow_succ, Nat.mul_comm]
      exact Nat.mod_mul_right_mod v 256 (256 ^ n)
    have e2 : v % 256 ^ (n + 1) / 256 = v / 256 % 256 ^ n := by
      rw [Nat.pow_succ, Nat.mul_comm]
      exact Nat.mod_mul_right_div_self v 256 (256 ^ n)
    rw [e1, e2]
theorem low_four (v : Nat) (w : World) :
    Calls Tryd.prog 31 #[.int .u64 v, .int .i64 4] w fun e w' => e = .returned (.string (bs (be v 4))) ∧ Below w.heap.size w w' := by
  have P := hide (fun W => put_ok (v % 4294967296) 4 W (by omega) (by omega) (Nat.mod_lt _ (by decide)))
  rw [be_mod v 4, show ((v % 4294967296 : Nat) : Int) = (v : Int) % 4294967296 by omega] at P
  go_enter Tryd.func31, Tryd.ntmps31
  go_wp2_with fail
  refine (unhide P _).mono ?_
  rintro e w1 ⟨rfl, b1⟩
  go_wp2_with fail
  go_ret
  exact ⟨rfl, b1⟩
theorem low_one (v : Nat) (w : World) :
    Calls Tryd.prog 31 #[.int .u64 v, .int .i64 1] w fun e w' => e = .returned (.string (bs (be v 1))) ∧ Below w.heap.size w w' := by
  have P := hide (fun W => put_ok (v % 256) 1 W (by omega) (by omega) (Nat.mod_lt _ (by decide)))
  rw [be_mod v 1, show ((v % 256 : Nat) : Int) = (v : Int) % 256 by omega] at P
  go_enter Tryd.func31, Tryd.ntmps31
  go_wp2_with fail
  refine (unhide P _).mono ?_
  rintro e w1 ⟨rfl, b1⟩
  go_wp2_with fail
  go_ret
  exact ⟨rfl, b1⟩
theorem low_two (v : Nat) (w : World) :
    Calls Tryd.prog 31 #[.int .u64 v, .int .i64 2] w fun e w' => e = .returned (.string (bs (be v 2))) ∧ Below w.heap.size w w' := by
  have P := hide (fun W => put_ok (v % 65536) 2 W (by omega) (by omega) (Nat.mod_lt _ (by decide)))
  rw [be_mod v 2, show ((v % 65536 : Nat) : Int) = (v : Int) % 65536 by omega] at P
  go_enter Tryd.func31, Tryd.ntmps31
  go_wp2_with fail
  refine (unhide P _).mono ?_
  rintro e w1 ⟨rfl, b1⟩
  go_wp2_with fail
  go_ret
  exact ⟨rfl, b1⟩
/-- what a datagram's checksum goes over, too -/
def headB (s d p n : Nat) : List UInt8 := be s 4 ++ be d 4 ++ [0] ++ be p 1 ++ be n 2
theorem headB_length (s d p n : Nat) : (headB s d p n).length = 12 := by simp [headB, be_length]
theorem headB_bytes (s d p n : Nat) : bs (be s 4) ++ bs (be d 4) ++ ⟨#[0]⟩ ++ bs (be p 1) ++ bs (be n 2) = bs (headB s d p n) := by
  rw [show (⟨#[0]⟩ : ByteArray) = bs [0] from rfl, bs_append, bs_append, bs_append, bs_append]
  rfl
/-- a number's lowest 64 bits -/
theorem low64 (p : Int) : IntKind.u64.wrap p = ((p % 18446744073709551616).toNat : Nat) := by
  rw [IntKind.wrap_u64]
  omega
theorem head_any (s d P N : Nat) (p n : Int) (w : World) (hs : s < 4294967296) (hd : d < 4294967296) (hp : IntKind.u64.wrap p = (P : Int)) (hn : IntKind.u64.wrap n = (N : Int)) :
    Calls Tryd.prog 19 #[.int .u32 s, .int .u32 d, .int .i64 p, .int .i64 n] w fun e w' => e = .returned (.string (bs (headB s d P N))) ∧ Below w.heap.size w w' := by
  have hs' : IntKind.u64.wrap (s : Int) = (s : Int) := by rw [IntKind.wrap_u64]; omega
  have hd' : IntKind.u64.wrap (d : Int) = (d : Int) := by rw [IntKind.wrap_u64]; omega
  have HH := hide (headB_bytes s d P N)
  have A1 := hide (low_four s)
  have A2 := hide (low_four d)
  have A3 := hide (low_one P)
  have A4 := hide (low_two N)
  have z1 : (bs (be s 4)).size = 4 := by rw [bs_size, be_length]
  have z2 : (bs (be d 4)).size = 4 := by rw [bs_size, be_length]
  have z3 : (bs (be P 1)).size = 1 := by rw [bs_size, be_length]
  have z4 : (bs (be N 2)).size = 2 := by rw [bs_size, be_length]
  generalize bs (be s 4) = a1 at *
  generalize bs (be d 4) = a2 at *
  generalize bs (be P 1) = a3 at *
  generalize bs (be N 2) = a4 at *
  generalize bs (headB s d P N) = a5 at *
  clear hs hd
  go_enter Tryd.func19, Tryd.ntmps19
  go_wp2_with fail
  refine (unhide A1 _).mono ?_
  rintro e w1 ⟨rfl, b1⟩
  go_wp2_with fail
  refine (unhide A2 _).mono ?_
  rintro e w2 ⟨rfl, b2⟩
  go_wp2_with fail
  refine (unhide A3 _).mono ?_
  rintro e w3 ⟨rfl, b3⟩
  go_wp2_with fail
  refine (unhide A4 _).mono ?_
  rintro e w4 ⟨rfl, b4⟩
  go_wp2_with fail
  go_ret
  exact ⟨by rw [← unhide HH]; rfl, bthen (bthen (bthen b1 b2) b3) b4⟩
end Go.Proofs.YtcgilcofcjehmaaDoor

