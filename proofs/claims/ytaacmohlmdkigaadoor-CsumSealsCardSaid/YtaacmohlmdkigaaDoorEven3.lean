/-
  The bytes of an even number that a text begins with; bytes that are sealed, and one byte that is another one.
-/
import Derived.Test.YtaacmohlmdkigaaDoorParts3
namespace Go.Proofs.YtaacmohlmdkigaaDoor
open Go.RowKit

def even (l : List UInt8) : List UInt8 := l.take (l.length / 2 * 2)
theorem even_length (l : List UInt8) : (even l).length = l.length / 2 * 2 := by rw [even, List.length_take]; omega
theorem even_same (l : List UInt8) (h : l.length % 2 = 0) : even l = l := List.take_of_length_le (by omega)
theorem even_cut (l : List UInt8) (h : l.length % 2 = 1) (W : World) : (Instr.slice 9 (.string (bs l)) none (some (.int .i64 ((l.length : Int) - 1))) none).run Tryd.prog W = .ok (.string (bs (even l))) W := by
  have e := slice_to l (l.length / 2 * 2) (by omega) W
  rw [show ((l.length / 2 * 2 : Nat) : Int) = (l.length : Int) - 1 by omega] at e
  exact e
theorem index_of (l : List UInt8) (k : Nat) (hk : k < l.length) (W : World) : (Instr.index 9 (.string (bs l)) (.int .i64 (k : Int))).run Tryd.prog W = .ok (.int .u8 ((l[k]).toNat : Nat)) W := by
  have hs := bs_size l
  have e := run_index_string (P := Tryd.prog) (w := W) 9 (bs l) .i64 (k : Int) Tryd.underlying9
  rw [dif_pos ⟨by omega, by omega⟩] at e
  exact e
theorem tot_two (e : Nat) (he : e < 65536) : tot (be e 2) = e := by
  have : be e 2 = [UInt8.ofNat (e / 256 % 256), UInt8.ofNat (e % 256)] := rfl
  rw [this]
  show 256 * (UInt8.ofNat (e / 256 % 256)).toNat + (UInt8.ofNat (e % 256)).toNat + 0 = e
  rw [UInt8.toNat_ofNat_of_lt' (by show _ < 256; omega), UInt8.toNat_ofNat_of_lt' (by show _ < 256; omega)]
  omega
/-- bytes with two more behind them -/
theorem tot_sealed (m : List UInt8) (e : Nat) (he : e < 65536) (hm : m.length % 2 = 0) : tot (m ++ be e 2) = tot m + e := by
  rw [tot_append _ _ hm, tot_two e he]
theorem ok_behind (m : List UInt8) (hm : m.length % 2 = 0) : ok (m ++ be (ck m) 2) = true := by
  have h := ck_le m
  unfold ok
  rw [tot_sealed m _ (by omega) hm]
  exact decide_eq_true (fold_seal (tot m))
theorem ok_ahead (m : List UInt8) : ok (be (ck m) 2 ++ m) = true := by
  have h := ck_le m
  unfold ok
  rw [tot_append _ _ (by rw [be_length]), tot_two _ (by omega), Nat.add_comm]
  exact decide_eq_true (fold_seal (tot m))
theorem set_parts (m : List UInt8) (k : Nat) (c : UInt8) (hk : k < m.length) : m.take k ++ [c] ++ m.drop (k + 1) = m.set k c := by
  rw [List.set_eq_take_append_cons_drop, if_pos hk, List.append_assoc]; rfl
/-- one byte that is another one -/
theorem ok_spoilt (m : List UInt8) (k : Nat) (c : UInt8) (hk : k < m.length) (hm : m.length % 2 = 0) : ok (m.set k c ++ be (ck m) 2) = decide (fold (tot (m.set k c)) = fold (tot m)) := by
  have h := ck_le m
  have hs := tot_set m k c hk
  have hc := c.toNat_lt
  have he : (65535 - fold (tot m)) = ck m := rfl
  have hfm := fold_le (tot m)
  have hft := fold_le (tot (m.set k c))
  unfold ok
  rw [tot_sealed _ _ (by omega) (by rw [List.length_set]; exact hm), decide_eq_decide, ← fold_add, fold_small (ck m) h]
  constructor
  · intro e
    by_cases z : fold (tot (m.set k c)) + ck m = 0
    · rw [z] at e; exact absurd e (by decide)
    · have p := fold_pos _ z
      by_cases z1 : tot m = 0
      · have y : tot (m.set k c) ≤ 65280 := by
          have : (if k % 2 = 0 then 256 * c.toNat else c.toNat) ≤ 65280 := by split <;> omega
          omega
        have ft : fold (tot (m.set k c)) = tot (m.set k c) := fold_small _ (Nat.le_trans y (by decide))
        have fm : fold (tot m) = 0 := by rw [z1]; rfl
        omega
      · have q := fold_pos _ z1
        omega
  · intro e
    rw [e, ← he]
    by_cases z1 : tot m = 0
    · rw [z1]; decide
    · have q := fold_pos _ z1
      rw [show fold (tot m) + (65535 - fold (tot m)) = 65535 by omega]; decide
theorem byte_string (wr : World) (u : Nat) (hu : u < 256) : (convert 36 9 (.slice (some ⟨wr.heap.size, 0, none⟩) 1 1)).run Tryd.prog (wr.alloc (.cells #[.int .u8 (u : Int)] 5)) = .ok (.string (bs [UInt8.ofNat u])) (wr.alloc (.cells #[.int .u8 (u : Int)] 5)) := by
  have h := one_string wr u
  rw [show (u : Int) % 256 = (u : Int) by omega, show u % 256 = u by omega] at h
  exact h
end Go.Proofs.YtaacmohlmdkigaaDoor
