/-
  The contracts of addrs.Mac and Ip: the address's text; nothing that was there before has turned.
-/
import Derived.Test.YtmpkeakbcojdeaaGreatDoorReadIp
import Derived.Test.YtmpkeakbcojdeaaGreatDoorPut
import Derived.Test.YtmpkeakbcojdeaaGreatDoorHex
namespace Go.Proofs.YtmpkeakbcojdeaaGreatDoor
open Go.RowKit

theorem info9 : (Tryz.prog.info? 9).map (fun i => (i.zero, i.size, i.bytes)) = some (some (.string ByteArray.empty), 1, 16) := by kernel_rfl
/-- a row of texts of which the first k are made -/
def rowCells (g : UInt8 → List UInt8) (l : List UInt8) (k : Nat) : List Value := (l.take k).map (fun c => Value.string (bs (g c))) ++ List.replicate (l.length - k) (Value.string ByteArray.empty)
theorem rowCells_start (g : UInt8 → List UInt8) (l : List UInt8) : rowCells g l 0 = List.replicate l.length (Value.string ByteArray.empty) := by simp [rowCells]
theorem rowCells_end (g : UInt8 → List UInt8) (l : List UInt8) : rowCells g l l.length = l.map (fun c => Value.string (bs (g c))) := by simp [rowCells]
theorem rowCells_length (g : UInt8 → List UInt8) (l : List UInt8) (k : Nat) (h : k ≤ l.length) : (rowCells g l k).length = l.length := by simp [rowCells]; omega
theorem rowCells_step (g : UInt8 → List UInt8) (l : List UInt8) (k : Nat) (h : k < l.length) : (rowCells g l k).set k (Value.string (bs (g l[k]))) = rowCells g l (k + 1) := by
  obtain ⟨r, hr⟩ : ∃ r, l.length - k = r + 1 := ⟨l.length - k - 1, by omega⟩
  have hr' : l.length - (k + 1) = r := by omega
  unfold rowCells
  rw [hr, hr', List.set_append_right _ _ (by simp; omega)]
  simp only [List.length_map, List.length_take, Nat.min_eq_left (Nat.le_of_lt h), Nat.sub_self, List.replicate_succ, List.set_cons_zero]
  rw [List.take_add_one, List.getElem?_eq_getElem h]
  simp only [Option.toList_some, List.map_append, List.map_cons, List.map_nil, List.append_assoc, List.singleton_append]
theorem be_mod (v n : Nat) : be (v % 256 ^ n) n = be v n := by
  induction n generalizing v with
  | zero => rfl
  | succ n ih =>
    rw [be, be, ← ih (v / 256)]
    have e1 : v % 256 ^ (n + 1) % 256 = v % 256 := by
      rw [Nat.pow_succ, Nat.mul_comm]
      exact Nat.mod_mul_right_mod v 256 (256 ^ n)
    have e2 : v % 256 ^ (n + 1) / 256 = v / 256 % 256 ^ n := by
      rw [Nat.pow_succ, Nat.mul_comm]
      exact Nat.mod_mul_right_div_self v 256 (256 ^ n)
    rw [e1, e2]
theorem extract_one (l : List UInt8) (k : Nat) (h : k < l.length) : (bs l).extract k (k + 1) = bs [l[k]] := by
  apply ByteArray.ext
  apply Array.toList_inj.1
  rw [extract_toList, bs_toList, bs_toList, show k + 1 - k = 1 by omega, List.drop_eq_getElem_cons h]
  rfl
theorem join_of (bk c : Nat) (l : List UInt8) (g : UInt8 → List UInt8) (x : UInt8) (w : World) (h : ∀ j (hj : j < l.length), w.cell? ⟨bk, j, none⟩ = some (.string (bs (g l[j])))) (hbk : bk < w.heap.size) (hl : l.length ≤ 10) (hc : l.length ≤ c) (hg : ∀ b, (g b).length ≤ 10) :
    Calls Tryz.prog 38 #[.slice (some ⟨bk, 0, none⟩) l.length c, .string ⟨#[x]⟩] w fun e w' => e = .returned (.string (bs (Lib.join (l.map g) [x]))) ∧ Below w.heap.size w w' := by
  have e : (l.map (fun b => bs (g b))).map (·.data.toList) = l.map g := by simp [bs]
  have hj := lib_strings_Join bk 0 c (l.map (fun b => bs (g b))) ⟨#[x]⟩ w ?_ hbk (by simp; omega) (by simpa using hc) ?_
  · rw [e, List.length_map] at hj; exact hj
  · intro j y hy
    rw [List.getElem?_map] at hy
    cases hl' : l[j]? with
    | none => rw [hl'] at hy; cases hy
    | some b =>
      rw [hl'] at hy
      cases hy
      obtain ⟨h1, h2⟩ := List.getElem?_eq_some_iff.1 hl'
      rw [Nat.zero_add, h j h1, h2]
  · rw [e]
    have hlen : ∀ xs : List (List UInt8), (∀ p ∈ xs, p.length ≤ 10) → Lib.lens xs ≤ 10 * xs.length := by
      intro xs hx
      induction xs with
      | nil => simp [Lib.lens]
      | cons y r ih =>
        have e : Lib.lens (y :: r) = y.length + Lib.lens r := by simp [Lib.lens]
        have h1 := hx y (by simp)
        have h2 := ih (fun p hp => hx p (List.mem_cons_of_mem _ hp))
        rw [e, List.length_cons]; omega
    cases hm : l.map g with
    | nil => simp [Lib.join_nil]
    | cons y r =>
      have h1 := hlen (y :: r) (fun p hp => by
        rw [← hm] at hp
        obtain ⟨b, _, rfl⟩ := List.mem_map.1 hp
        exact hg b)
      have h2 : (y :: r).length ≤ 10 := by rw [← hm]; simpa using hl
      rw [Lib.join_length]
      simp at h1 h2 ⊢
      omega
theorem two_length (b : UInt8) : (two b).length ≤ 10 := by simp [two]
theorem ten_length (b : UInt8) : (ten b).length ≤ 10 := by
  rw [ten_tens]
  unfold tens
  split
  · simp
  · split <;> simp
set_option maxRecDepth 20000 in
set_option maxHeartbeats 2000000 in
theorem mac_any (m : Nat) (w : World) (hm : m < 18446744073709551616) :
    Calls Tryz.prog 14 #[.int .u64 m] w fun e w' => e = .returned (.string (bs (macT (be m 6)))) ∧ Below w.heap.size w w' := by
  obtain ⟨i0, hi, hz0, hz1, hz2⟩ := info_parts info9
  have hmk : ∀ W : World, (Instr.makeSlice 44 (.int .i64 6) (.int .i64 6)).run Tryz.prog W = .ok (.slice (some ⟨W.heap.size, 0, none⟩) 6 6) (W.alloc (.cells (madeCells #[.string ByteArray.empty] 6) 9)) := fun W => by
    have h := run_make (P := Tryz.prog) W 44 9 i0 (.string ByteArray.empty) Tryz.underlying44 hi hz0 .i64 .i64 6 6 (by omega) (by omega) (by rw [hz2]; omega) (by omega)
    rw [hz1] at h
    simpa [Value.cells] using h
  clear hi hz0 hz1 hz2
  have hp := put_ok (m % 281474976710656) 6 w (by omega) (by omega) (by show _ < 281474976710656; omega)
  have hbm : be (m % 281474976710656) 6 = be m 6 := be_mod m 6
  rw [hbm] at hp
  have hl : (be m 6).length = 6 := be_length m 6
  generalize be m 6 = l at hp hl ⊢
  have HP := hide hp
  clear hp
  have hls : (bs l).size = 6 := by rw [bs_size, hl]
  go_enter Tryz.func14, Tryz.ntmps14
  go_wp2_with fail
  refine (unhide HP).mono ?_
  rintro e w1 ⟨rfl, b1⟩
  go_wp2_with fail
  go_loopw [14] (fun i wr => ∃ k : Nat, k ≤ 6 ∧ i = .int .i64 k ∧ wr.ownsRow w1.heap.size 9 1 (.slice (some ⟨w1.heap.size, 0, none⟩) 6 6) 6 (rowCells two l k) ∧ Below w1.heap.size w1 wr) (fun i _ => 6 - (intOf i).toNat)
  case atStart =>
    refine ⟨0, Nat.zero_le _, rfl, ?_, (Below.refl _ _).alloc (Nat.le_refl _) _⟩
    rw [rowCells_start, hl, ← toList_madeCells_one]
    exact World.ownsRow_lit w1 _ 6 (Nat.le_refl _) (by unfold maxLen; omega) (by rw [size_madeCells, Nat.mul_one])
  case round =>
    obtain ⟨k, hk, rfl, hown, hb⟩ := hrel
    by_cases hlt : k < 6
    · have hkl : k < l.length := by omega
      have hx := extract_one l k hkl
      have hsl := run_slice_string_lh (P := Tryz.prog) wr 9 (bs l) Tryz.underlying9 .i64 .i64 (k : Int) ((k : Int) + 1) (by omega) (by omega) (by omega)
      rw [show ((k : Int) + 1).toNat = k + 1 from by omega, show (k : Int).toNat = k from by omega, hx] at hsl
      have hh := hex_any (bs [l[k]]) wr (by rw [bs_size]; simp)
      rw [bs_toList, two_hexs] at hh
      have HH := hide hh
      have hst := fun (w2 : World) (h : w2.ownsRow w1.heap.size 9 1 (.slice (some ⟨w1.heap.size, 0, none⟩) 6 6) 6 (rowCells two l k)) => h.stored k (.string (bs (two l[k])))
      rw [rowCells_step two l k hkl] at hst
      have hcl : ∀ w2 : World, w2.ownsRow w1.heap.size 9 1 (.slice (some ⟨w1.heap.size, 0, none⟩) 6 6) 6 (rowCells two l k) → ∃ u, w2.cell? ⟨w1.heap.size, k, none⟩ = some u := fun w2 h => by
        rw [h.cellAt k (by omega)]
        exact ⟨_, List.getElem?_eq_getElem (by rw [rowCells_length two l k (by omega)]; omega)⟩
      have HST := hide hst
      have HCL := hide hcl
      clear hst hh hcl
      generalize bs (two l[k]) = B at HH HST
      generalize bs [l[k]] = C at hx hsl HH
      clear hx
      go_wp2_with fail
      refine (unhide HH).mono ?_
      rintro e w2 ⟨rfl, hb2⟩
      have hown2 := ownsRow_below hown hb2
      obtain ⟨u, hc⟩ := unhide HCL w2 hown2
      have hf := hown2.frozenAt k
      have h2 := hide (unhide HST w2 hown2)
      clear hown hown2
      have hb3 := hb.trans (hb2.mono hb.size)
      go_wp2_with fail
      go_roundw
      case rel => exact ⟨k + 1, by omega, by go_num, (unhide h2).1, hb3.grown (unhide h2).2 (Nat.le_trans (Nat.le_refl _) hb3.size) (fun j hj => by cases hj; exact Nat.le_refl _)⟩
      case measure => simp [intOf]; omega
    · obtain rfl : k = 6 := by omega
      have hcells : ∀ j (hj : j < l.length), wr.cell? ⟨w1.heap.size, j, none⟩ = some (.string (bs (two l[j]))) := fun j hj => by
        rw [hown.cellAt j (by omega), ← hl, rowCells_end]
        simp [List.getElem?_eq_getElem hj]
      have hbk : w1.heap.size < wr.heap.size := by
        have := hcells 0 (by omega)
        exact block_lt_of_cell this
      have hj := join_of w1.heap.size 6 l two 58 wr hcells hbk (by omega) (by omega) two_length
      rw [hl] at hj
      have HJ := hide hj
      clear hj hown hcells
      go_wp2_with fail
      refine (unhide HJ).mono ?_
      rintro e w2 ⟨rfl, hb2⟩
      go_wp2_with fail
      go_ret
      exact ⟨rfl, bthen (b1.trans (hb.mono b1.size)) hb2⟩
end Go.Proofs.YtmpkeakbcojdeaaGreatDoor
