/-
  The contracts of vxlan.Hash, Port and put: a number of bytes, the port that a frame comes from, a number in bytes; no cell that was there before has turned.
-/
import Derived.Test.YtocbpkceokgohaaDoorVxPlain
import Derived.Test.YtocbpkceokgohaaDoorCut6
namespace Go.Proofs.YtocbpkceokgohaaDoor
open Go.RowKit Go.Sort

theorem stir32 (h c : Nat) (hh : h < 4294967296) (hc : c < 256) : bits BinOp.xor IntKind.u32 (h : Int) (c : Int) * 16777619 % 4294967296 = ((stir h c : Nat) : Int) := by
  rw [u32_xor_nat h c hh (by omega)]
  unfold stir
  omega
theorem hash_any (l : List UInt8) (w : World) (hl : l.length ≤ 10000) :
    Calls Tryd.prog 13 #[.string (bs l)] w fun e w' => e = .returned (.int .u32 ((hs l : Nat) : Int)) ∧ w' = w := by
  have hsz : (bs l).size = l.length := bs_size l
  go_enter Tryd.func13, Tryd.ntmps13
  go_wp2_with fail
  go_loop [3, 7] (fun x i => ∃ k : Nat, k ≤ l.length ∧ i = .int .i64 k ∧ x = .int .u32 ((hs (l.take k) : Nat) : Int)) (fun _ i => l.length - (intOf i).toNat)
  case atStart => exact ⟨0, Nat.zero_le _, rfl, by rw [List.take_zero, hs_nil]; rfl⟩
  case round =>
    obtain ⟨k, hk, rfl, rfl⟩ := hrel
    by_cases hlt : k < l.length
    · have hix : ((bs l)[k]'(by omega)).toNat = (l[k]).toNat := rfl
      have hx8 : (l[k]).toNat < 256 := (l[k]).toNat_lt
      have hns : hs (l.take (k + 1)) = stir (hs (l.take k)) (l[k]).toNat := by rw [take_next l k hlt, hs_snoc]
      have hst := stir32 _ _ (hs_lt (l.take k)) hx8
      have hcv : IntKind.u32.wrap ((l[k]).toNat : Int) = ((l[k]).toNat : Int) := by rw [IntKind.wrap_u32']; omega
      have HNS := hide hns
      have HST := hide hst
      clear hns hst
      generalize hs (l.take k) = m at HNS HST ⊢
      generalize (l[k]).toNat = x at HNS HST hx8 hix hcv
      go_wp2_with fail
      go_round
      case rel => exact ⟨k + 1, by omega, by go_num, by rw [unhide HNS, ← unhide HST]⟩
      case measure => simp [intOf]; omega
    · obtain rfl : k = l.length := by omega
      rw [List.take_length]
      go_wp2_with fail
      go_ret
      exact ⟨rfl, rfl⟩
/-- the first bytes of a text, as the walk's own operations give them -/
theorem min_at (a b : Nat) (ts : Array TypeId) (t : TypeId) (W : World) : (Builtin.min_ ts t #[.int .i64 (a : Int), .int .i64 (b : Int)]).run Tryd.prog W = .ok (.int .i64 ((min a b : Nat) : Int)) W := by
  rw [run_min_int2]
  by_cases h : (b : Int) < (a : Int)
  · rw [if_pos h, show ((min a b : Nat) : Int) = b by omega]
  · rw [if_neg h, show ((min a b : Nat) : Int) = (a : Int) by omega]
theorem take_at (l : List UInt8) (m : Nat) (h : m ≤ l.length) (W : World) : (Instr.slice 9 (.string (bs l)) none (some (.int .i64 (m : Int))) none).run Tryd.prog W = .ok (.string (bs (l.take m))) W := by
  have e := run_slice_string_h (P := Tryd.prog) W 9 (bs l) Tryd.underlying9 .i64 (m : Int) (by omega) (by rw [bs_size]; omega)
  rw [show ((m : Int)).toNat = m by omega] at e
  have x : (bs l).extract 0 m = bs (l.take m) := by
    rw [← bs_of ((bs l).extract 0 m), extract_toList, bs_toList]; rfl
  rw [x] at e
  exact e
theorem vport_at (S T : ByteArray) (m h p : Nat) (w : World)
    (mx : ∀ (ts : Array TypeId) (t : TypeId) (W : World), (Builtin.min_ ts t #[.int .i64 (S.size : Int), .int .i64 14]).run Tryd.prog W = .ok (.int .i64 (m : Int)) W)
    (sx : ∀ W : World, (Instr.slice 9 (.string S) none (some (.int .i64 (m : Int))) none).run Tryd.prog W = .ok (.string T) W)
    (CH : Hid (∀ W, Calls Tryd.prog 13 #[.string T] W fun e W' => e = .returned (.int .u32 (h : Int)) ∧ W' = W))
    (hh : (h : Int) < 4294967296) (hp : 49152 + (h : Int) % 16384 = p) :
    Calls Tryd.prog 15 #[.string S] w fun e w' => e = .returned (.int .i64 (p : Int)) ∧ w' = w := by
  have hc : IntKind.i64.wrap ((h : Int) % 16384) = (h : Int) % 16384 := by rw [IntKind.wrap_i64]; omega
  rw [← hp]
  clear hp
  go_enter Tryd.func15, Tryd.ntmps15
  go_wp2_with fail
  refine (unhide CH _).mono ?_
  rintro e w1 ⟨rfl, rfl⟩
  go_wp2_with fail
  go_ret
  exact ⟨rfl, rfl⟩
theorem vport_any (l : List UInt8) (w : World) (hl : l.length ≤ 10000) :
    Calls Tryd.prog 15 #[.string (bs l)] w fun e w' => e = .returned (.int .i64 ((port l : Nat) : Int)) ∧ w' = w := by
  have hsz : (bs l).size = l.length := bs_size l
  have e : l.take (min l.length 14) = l.take 14 := by
    rcases Nat.le_total l.length 14 with h | h
    · rw [Nat.min_eq_left h, List.take_length, List.take_of_length_le h]
    · rw [Nat.min_eq_right h]
  have mx := fun ts t W => min_at l.length 14 ts t W
  have sx := fun W => take_at l (min l.length 14) (by omega) W
  rw [e] at sx
  have h32 := hs_lt (l.take 14)
  exact vport_at (bs l) (bs (l.take 14)) (min l.length 14) (hs (l.take 14)) (port l) w (by rw [hsz]; exact mx) sx
    (hide fun W => hash_any (l.take 14) W (by rw [List.length_take]; omega)) (by omega) (by unfold port; omega)
theorem vput_any (v n : Nat) (w : World) (h1 : 1 ≤ n) (h2 : n ≤ 8) (hv : v < 256 ^ n) (hu : v < 18446744073709551616) :
    Calls Tryd.prog 17 #[.int .i64 v, .int .i64 n] w fun e w' => e = .returned (.string (bs (be v n))) ∧ Below w.heap.size w w' := by
  have e1 : IntKind.u64.wrap (v : Int) = (v : Int) := u64_id v hu
  have P := hide (fun W => put_ok v n W h1 h2 hv)
  generalize bs (be v n) = B at P ⊢
  clear hv h1 h2
  go_enter Tryd.func17, Tryd.ntmps17
  go_wp2_with fail
  refine (unhide P _).mono ?_
  rintro e w1 ⟨rfl, b1⟩
  go_wp2_with fail
  go_ret
  exact ⟨rfl, b1⟩
end Go.Proofs.YtocbpkceokgohaaDoor
