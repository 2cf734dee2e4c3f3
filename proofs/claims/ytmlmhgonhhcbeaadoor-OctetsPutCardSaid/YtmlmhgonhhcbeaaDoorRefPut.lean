/-
  The document's answer for Put: the contracts of gangwayref01's Bytes and Put.
-/
import Derived.Test.YtmlmhgonhhcbeaaDoorPut
import Derived.Test.YtmlmhgonhhcbeaaDoorGet
namespace Go.Proofs.YtmlmhgonhhcbeaaDoor
open Go.RowKit
theorem bs_append (a b : List UInt8) : bs a ++ bs b = bs (a ++ b) := by
  apply ByteArray.ext
  simp [bs]
theorem one_string (wr : World) (u : Nat) : (convert 42 9 (.slice (some ⟨wr.heap.size, 0, none⟩) 1 1)).run Tryd.prog (wr.alloc (.cells #[.int .u8 ((u : Int) % 256)] 5)) = .ok (.string (bs [UInt8.ofNat (u % 256)])) (wr.alloc (.cells #[.int .u8 ((u : Int) % 256)] 5)) := by
  refine run_own_string (base := wr.heap.size) [UInt8.ofNat (u % 256)] ?_
  have h := World.ownsRow_lit (base := wr.heap.size) (e := 5) (size := 1) wr #[.int .u8 ((u : Int) % 256)] 1 (Nat.le_refl _) (by decide) rfl
  have e : Lib.byteCells [UInt8.ofNat (u % 256)] = [Value.int .u8 ((u : Int) % 256)] := by
    simp only [Lib.byteCells, List.map_cons, List.map_nil]
    rw [UInt8.toNat_ofNat_of_lt' (by show _ < 256; omega)]
    simp
  rw [e]; exact h
theorem rbytes (v n : Nat) (w : World) (hn : n ≤ 8) (hv : v < 18446744073709551616) :
    Calls Tryd.prog 20 #[.int .u64 v, .int .i64 n] w fun e w' => e = .returned (.string (bs (be v n))) ∧ Below w.heap.size w w' := by
  go_enter Tryd.func20, Tryd.ntmps20
  go_wp2
  go_loopw [0, 5, 6] (fun u s i wr => ∃ k : Nat, k ≤ n ∧ i = .int .i64 k ∧ u = .int .u64 ((v / 256 ^ k : Nat) : Int) ∧ s = .string (bs (be v k)) ∧ Below w.heap.size w wr) (fun _ _ i _ => n - (intOf i).toNat)
  case atStart => exact ⟨0, Nat.zero_le _, rfl, by simp, rfl, Below.refl _ _⟩
  case round =>
    obtain ⟨k, hk, rfl, rfl, rfl, hb⟩ := hrel
    by_cases hlt : k < n
    · have hbe := be_cons v k
      have hdv : v / 256 ^ k / 256 = v / 256 ^ (k + 1) := by rw [Nat.div_div_eq_div_mul, Nat.pow_succ]
      have hle : v / 256 ^ k < 18446744073709551616 := Nat.lt_of_le_of_lt (Nat.div_le_self _ _) hv
      have hsz : (bs (be v k)).size = k := by rw [bs_size, be_length]
      generalize v / 256 ^ k = u at hbe hdv hle ⊢
      have hcv := one_string wr u
      have hsz1 : (bs [UInt8.ofNat (u % 256)]).size = 1 := bs_size _
      have hap : bs [UInt8.ofNat (u % 256)] ++ bs (be v k) = bs (be v (k + 1)) := by rw [bs_append, hbe]; rfl
      have HD := hide hdv
      have HA := hide hap
      clear hdv hbe hap
      generalize bs (be v k) = L at hsz HA ⊢
      generalize bs [UInt8.ofNat (u % 256)] = C at hsz1 hcv HA
      go_wp2
      go_roundw
      case rel => exact ⟨k + 1, by omega, by go_num, by rw [← unhide HD]; rfl, by rw [← unhide HA], hb.alloc hb.size _⟩
      case measure => simp [intOf]; omega
    · obtain rfl : k = n := by omega
      go_wp2
      go_ret
      exact ⟨rfl, hb⟩

theorem rput_wide (v n : Int) (w : World) (h : n < 1 ∨ 8 < n) :
    Calls Tryd.prog 10 #[.int .u64 v, .int .i64 n] w fun e w' => e = .returned (.tuple #[.string ByteArray.empty, .int .i64 1]) ∧ Below w.heap.size w w' := by
  rcases h with h | h
  · go_enter Tryd.func10, Tryd.ntmps10
    go_wp2
    go_ret2
    exact ⟨rfl, Below.refl _ _⟩
  · have h' : ¬ n < 1 := by omega
    go_enter Tryd.func10, Tryd.ntmps10
    go_wp2
    go_ret2
    exact ⟨rfl, Below.refl _ _⟩

theorem rput_some (v n : Nat) (w : World) (h1 : 1 ≤ n) (h2 : n ≤ 8) (hv : v < 18446744073709551616) :
    Calls Tryd.prog 10 #[.int .u64 v, .int .i64 n] w fun e w' => e = .returned (if v < 256 ^ n then .tuple #[.string (bs (be v n)), .int .i64 0] else .tuple #[.string ByteArray.empty, .int .i64 1]) ∧ Below w.heap.size w w' := by
  obtain ⟨r, hr⟩ : ∃ r : Value, r = if v < 256 ^ n then .tuple #[.string (bs (be v n)), .int .i64 0] else .tuple #[.string ByteArray.empty, .int .i64 1] := ⟨_, rfl⟩
  rw [← hr]
  have HR := hide hr
  clear hr
  go_enter Tryd.func10, Tryd.ntmps10
  go_wp2
  go_loop [6, 7] (fun m i => ∃ k : Nat, k ≤ n ∧ i = .int .i64 k ∧ m = .int .u64 ((256 ^ k - 1 : Nat) : Int)) (fun _ i => n - (intOf i).toNat)
  case atStart => exact ⟨0, Nat.zero_le _, rfl, rfl⟩
  case round =>
    obtain ⟨k, hk, rfl, rfl⟩ := hrel
    by_cases hlt : k < n
    · have hpw := pow_le8 k n hlt h2
      have hpp : 0 < 256 ^ k := Nat.pow_pos (by omega)
      have hst : 256 ^ (k + 1) - 1 = (256 ^ k - 1) * 256 + 255 := by rw [Nat.pow_succ]; omega
      have HS := hide hst
      clear hst
      have hm : 256 ^ k - 1 < 72057594037927936 := by omega
      clear hpw hpp
      generalize 256 ^ k - 1 = m at HS hm ⊢
      go_wp2
      go_round
      case rel => exact ⟨k + 1, by omega, by go_num, by rw [unhide HS]; go_num⟩
      case measure => simp [intOf]; omega
    · obtain rfl : k = n := by omega
      have hpp : 0 < 256 ^ k := Nat.pow_pos (by omega)
      by_cases hle : v < 256 ^ k
      · have hm : v ≤ 256 ^ k - 1 := by omega
        have hr := unhide HR
        rw [if_pos hle] at hr
        subst hr
        clear hle hpp HR
        generalize 256 ^ k - 1 = m at hm ⊢
        go_wp2_with (go_at_call 20; refine (rbytes v k _ h2 hv).mono ?_; rintro e w' ⟨rfl, hb⟩)
        go_ret2
        exact ⟨rfl, by assumption⟩
      · have hm : 256 ^ k - 1 < v := by omega
        have hr := unhide HR
        rw [if_neg hle] at hr
        subst hr
        clear hle hpp HR
        generalize 256 ^ k - 1 = m at hm ⊢
        go_wp2
        go_ret2
        exact ⟨rfl, Below.refl _ _⟩
end Go.Proofs.YtmlmhgonhhcbeaaDoor
