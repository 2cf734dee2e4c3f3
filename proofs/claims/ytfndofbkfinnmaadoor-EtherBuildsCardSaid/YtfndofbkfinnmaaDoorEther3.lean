/-
  The contracts of ether.Check, put, mark and unmark: the error's number, a number's bytes, a tag's bytes, and the tag of two bytes; no cell that was there before has turned.
-/
import Derived.Test.YtfndofbkfinnmaaDoorEther2
import Derived.Test.YtfndofbkfinnmaaDoorFault
import Derived.Test.YtfndofbkfinnmaaDoorPut
namespace Go.Proofs.YtfndofbkfinnmaaDoor
open Go.RowKit

theorem check_told (f : Fr) : told f.check = f.check := by
  unfold Fr.check told
  split
  · rfl
  · split
    · rfl
    · split
      · rfl
      · split <;> rfl
theorem check_any (d s : Nat) (has : Bool) (pri : Int) (dei : Bool) (vid ty : Int) (l : List UInt8) (w : World) (hg : Et w) (hl : l.length ≤ 10000) :
    Calls Tryd.prog 12 #[.agg #[.int .u64 d, .int .u64 s, .bool has, .int .i64 pri, .bool dei, .int .i64 vid, .int .i64 ty, .string (bs l)]] w fun e w' => e = .returned (.int .i64 (Fr.mk d s has pri dei vid ty l).check) ∧ Below w.heap.size w w' := by
  by_cases h : (Fr.mk d s has pri dei vid ty l).check = 0
  · have C := hide (fun W => wrong_ok d s has pri dei vid ty l W hl h)
    rw [h]
    clear h
    go_enter Tryd.func12, Tryd.ntmps12
    go_wp2_with fail
    refine (unhide C _).mono ?_
    rintro e w1 ⟨rfl, b1⟩
    have hb := bthen (alloc_below w _) b1
    clear b1 C
    go_wp2_with fail
    refine (number_nil _).mono ?_
    rintro e w2 ⟨rfl, rfl⟩
    go_wp2_with fail
    go_ret
    exact ⟨rfl, hb⟩
  · obtain ⟨p, hp⟩ := wrong_bad d s has pri dei vid ty l hl h
    have ht := check_told (Fr.mk d s has pri dei vid ty l)
    have C := hide hp
    clear h hp
    generalize (Fr.mk d s has pri dei vid ty l).check = c at *
    go_enter Tryd.func12, Tryd.ntmps12
    go_wp2_with fail
    refine (unhide C _).mono ?_
    rintro e w1 ⟨rfl, b1⟩
    have hb := bthen (alloc_below w _) b1
    have hg1 := hg.next hb
    clear b1 C
    go_wp2_with fail
    refine (number_fault p c _ hg1).mono ?_
    rw [ht]
    rintro e w2 ⟨rfl, b2⟩
    have hb2 := bthen hb b2
    go_wp2_with fail
    go_ret
    exact ⟨rfl, hb2⟩
theorem eput (v n : Nat) (w : World) (h1 : 1 ≤ n) (h2 : n ≤ 8) (hv : v < 256 ^ n) :
    Calls Tryd.prog 19 #[.int .u64 v, .int .i64 n] w fun e w' => e = .returned (.string (bs (be v n))) ∧ Below w.heap.size w w' := by
  have C := hide (put_ok v n w h1 h2 hv)
  clear hv
  go_enter Tryd.func19, Tryd.ntmps19
  go_wp2_with fail
  refine (unhide C).mono ?_
  rintro e w1 ⟨rfl, b1⟩
  go_wp2_with fail
  go_ret
  exact ⟨rfl, b1⟩
theorem i64_or_nat (a b : Nat) (ha : a < 9223372036854775808) (hb : b < 9223372036854775808) : bits .or .i64 (a : Int) (b : Int) = ((a ||| b : Nat) : Int) := by
  have h : (BitVec.ofInt 64 (a : Int) ||| BitVec.ofInt 64 (b : Int)).toNat = a ||| b := by
    rw [BitVec.toNat_or, BitVec.ofInt_natCast, BitVec.ofInt_natCast, BitVec.toNat_ofNat, BitVec.toNat_ofNat, Nat.mod_eq_of_lt (by omega), Nat.mod_eq_of_lt (by omega)]
  have h2 : a ||| b < 2 ^ 63 := Nat.or_lt_two_pow (by omega) (by omega)
  show IntKind.i64.wrap ((BitVec.ofInt 64 (a : Int) ||| BitVec.ofInt 64 (b : Int)).toNat : Int) = _
  rw [h, IntKind.wrap_i64]
  omega
theorem or_low (i m p v : Nat) (hm : 2 ^ i = m) (hv : v < m) : p * m ||| v = p * m + v := by
  subst hm
  have := Nat.shiftLeft_add_eq_or_of_lt (i := i) hv p
  rw [Nat.shiftLeft_eq] at this
  exact this.symm
theorem or_tag (p v : Nat) (hp : p ≤ 7) (hv : v ≤ 4095) : bits .or .i64 ((p : Int) * 8192) (v : Int) = ((p * 8192 + v : Nat) : Int) := by
  rw [show ((p : Int) * 8192) = ((p * 8192 : Nat) : Int) by omega, i64_or_nat _ _ (by omega) (by omega), or_low 13 8192 p v rfl (by omega)]
theorem or_three (p v : Nat) (hv : v ≤ 4095) : p * 8192 + v ||| 4096 = p * 8192 + (4096 + v) := by
  have e2 := or_low 12 4096 1 v rfl (by omega)
  rw [Nat.one_mul] at e2
  rw [← or_low 13 8192 p v rfl (by omega), Nat.or_assoc, Nat.or_comm v 4096, e2, or_low 13 8192 p _ rfl (by omega)]
theorem or_dei (p v : Nat) (hp : p ≤ 7) (hv : v ≤ 4095) : bits .or .i64 ((p * 8192 + v : Nat) : Int) 4096 = ((p * 8192 + (4096 + v) : Nat) : Int) := by
  have h := i64_or_nat (p * 8192 + v) 4096 (by omega) (by omega)
  rw [or_three p v hv] at h
  exact h
theorem bs_append (a b : List UInt8) : bs a ++ bs b = bs (a ++ b) := by
  apply ByteArray.ext
  rw [ByteArray.data_append]
  simp [bs]
theorem mark_not (p : Int) (dei : Bool) (v : Int) (w : World) : Calls Tryd.prog 20 #[.agg #[.bool false, .int .i64 p, .bool dei, .int .i64 v]] w fun e w' => e = .returned (.string ByteArray.empty) ∧ Below w.heap.size w w' := by
  go_enter Tryd.func20, Tryd.ntmps20
  go_wp2
  go_ret
  exact ⟨rfl, alloc_below _ _⟩
theorem mark_has (p : Nat) (dei : Bool) (v : Nat) (w : World) (hp : p ≤ 7) (hv : v ≤ 4095) :
    Calls Tryd.prog 20 #[.agg #[.bool true, .int .i64 p, .bool dei, .int .i64 v]] w fun e w' => e = .returned (.string (bs ([129, 0] ++ be (tagNum p dei v) 2))) ∧ Below w.heap.size w w' := by
  have P1 := hide (fun W => eput 33024 2 W (by decide) (by decide) (by decide))
  have h1 := or_tag p v hp hv
  have h2 := or_dei p v hp hv
  have hs1 : (bs (be 33024 2)).size = 2 := by rw [bs_size, be_length]
  cases dei
  · have hn : p * 8192 + v < 65536 := by omega
    have P2 := hide (fun W => eput (p * 8192 + v) 2 W (by decide) (by decide) (by rw [pow2]; exact hn))
    have hs2 : (bs (be (p * 8192 + v) 2)).size = 2 := by rw [bs_size, be_length]
    have ha := bs_append (be 33024 2) (be (p * 8192 + v) 2)
    have hr : bs ([129, 0] ++ be (tagNum p false v) 2) = bs (be 33024 2 ++ be (p * 8192 + v) 2) := by
      rw [show be 33024 2 = [129, 0] by decide, show tagNum p false v = p * 8192 + v by unfold tagNum; simp]
    rw [hr, ← ha]
    clear hr ha h2
    generalize bs (be 33024 2) = A at *
    generalize bs (be (p * 8192 + v) 2) = B at *
    generalize p * 8192 + v = n at *
    go_enter Tryd.func20, Tryd.ntmps20
    go_wp2_with fail
    refine (unhide P1 _).mono ?_
    rintro e w1 ⟨rfl, b1⟩
    have hb := bthen (alloc_below w _) b1
    clear b1
    go_wp2_with fail
    refine (unhide P2 _).mono ?_
    rintro e w2 ⟨rfl, b2⟩
    have hb2 := bthen hb b2
    go_wp2_with fail
    go_ret
    exact ⟨rfl, hb2⟩
  · have hn : p * 8192 + (4096 + v) < 65536 := by omega
    have P2 := hide (fun W => eput (p * 8192 + (4096 + v)) 2 W (by decide) (by decide) (by rw [pow2]; exact hn))
    have hs2 : (bs (be (p * 8192 + (4096 + v)) 2)).size = 2 := by rw [bs_size, be_length]
    have ha := bs_append (be 33024 2) (be (p * 8192 + (4096 + v)) 2)
    have hr : bs ([129, 0] ++ be (tagNum p true v) 2) = bs (be 33024 2 ++ be (p * 8192 + (4096 + v)) 2) := by
      rw [show be 33024 2 = [129, 0] by decide, show tagNum p true v = p * 8192 + (4096 + v) by unfold tagNum; simp [Nat.add_assoc]]
    rw [hr, ← ha]
    clear hr ha
    generalize bs (be 33024 2) = A at *
    generalize bs (be (p * 8192 + (4096 + v)) 2) = B at *
    generalize p * 8192 + (4096 + v) = n at *
    obtain ⟨m, hm⟩ : ∃ m, m = p * 8192 + v := ⟨_, rfl⟩
    rw [← hm] at h1 h2
    clear hm
    go_enter Tryd.func20, Tryd.ntmps20
    go_wp2_with fail
    refine (unhide P1 _).mono ?_
    rintro e w1 ⟨rfl, b1⟩
    have hb := bthen (alloc_below w _) b1
    clear b1
    go_wp2_with fail
    refine (unhide P2 _).mono ?_
    rintro e w2 ⟨rfl, b2⟩
    have hb2 := bthen hb b2
    go_wp2_with fail
    go_ret
    exact ⟨rfl, hb2⟩
end Go.Proofs.YtfndofbkfinnmaaDoor
