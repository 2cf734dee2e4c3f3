/-
  The contract of arp.join: the bytes of parts, one behind the other, each cut to its lowest bytes; no cell that was there before has turned.
-/
import Derived.Test.YtljhgehlaehgnaaDoorWrite5
import Derived.Test.YtljhgehlaehgnaaDoorArpPlain
namespace Go.Proofs.YtljhgehlaehgnaaDoor
open Go.RowKit Go.Sort

theorem be_mod (v n : Nat) : be (v % 256 ^ n) n = be v n := by
  induction n generalizing v with
  | zero => rfl
  | succ n ih =>
    have e1 : v % 256 ^ (n + 1) / 256 = v / 256 % 256 ^ n := by rw [Nat.pow_succ, Nat.mul_comm, Nat.mod_mul_right_div_self]
    have e2 : v % 256 ^ (n + 1) % 256 = v % 256 := by rw [Nat.pow_succ, Nat.mul_comm, Nat.mod_mul_right_mod]
    unfold be
    rw [e1, e2, ih]
/-- parts as a row of cells -/
def partCells (ps : List (Nat × Nat)) : List Value := ps.flatMap fun p => [.int .u64 (p.1 : Int), .int .i64 (p.2 : Int)]
/-- parts as bytes -/
def partBytes (ps : List (Nat × Nat)) : List UInt8 := ps.flatMap fun p => be p.1 p.2
theorem partCells_at (ps : List (Nat × Nat)) (k : Nat) (p : Nat × Nat) (h : ps[k]? = some p) : (partCells ps)[k * 2]? = some (.int .u64 (p.1 : Int)) ∧ (partCells ps)[k * 2 + 1]? = some (.int .i64 (p.2 : Int)) := by
  induction ps generalizing k with
  | nil => simp at h
  | cons q ps ih =>
    cases k with
    | zero => simp at h; subst h; exact ⟨rfl, rfl⟩
    | succ k =>
      have := ih k (by simpa using h)
      have e : (k + 1) * 2 = k * 2 + 2 := by omega
      rw [e]
      exact ⟨by simpa [partCells] using this.1, by simpa [partCells] using this.2⟩
theorem partBytes_next (ps : List (Nat × Nat)) (k : Nat) (p : Nat × Nat) (h : ps[k]? = some p) : partBytes (ps.take (k + 1)) = partBytes (ps.take k) ++ be p.1 p.2 := by
  rw [List.take_add_one, h]
  simp [partBytes]
theorem partBytes_le (ps : List (Nat × Nat)) (hp : ∀ p ∈ ps, p.2 ≤ 7) : (partBytes ps).length ≤ 7 * ps.length := by
  induction ps with
  | nil => simp [partBytes]
  | cons p ps ih =>
    have := ih fun q hq => hp q (List.mem_cons_of_mem _ hq)
    have h2 := hp p (List.mem_cons_self ..)
    simp only [partBytes, List.flatMap_cons, List.length_append, be_length, List.length_cons] at this ⊢
    omega
theorem shl_one (n : Nat) (h : n ≤ 7) : 256 ^ n < 18446744073709551616 ∧ 0 < 256 ^ n := by
  have : 256 ^ n ≤ 256 ^ 7 := Nat.pow_le_pow_right (by omega) h
  have h2 : (256 : Nat) ^ 7 = 72057594037927936 := by decide
  exact ⟨by omega, Nat.pow_pos (by omega)⟩
theorem put_mod (v n m : Nat) (M : Int) (hm : 256 ^ n = m) (hM : (m : Int) = M) (h1 : 1 ≤ n) (h2 : n ≤ 7) (w : World) :
    Calls Tryd.prog 60 #[.int .u64 ((v : Int) % M), .int .i64 n] w fun e w' => e = .returned (.tuple #[.string (bs (be v n)), .int .i64 0]) ∧ Below w.heap.size w w' := by
  have h := put_ok (v % 256 ^ n) n w h1 (by omega) (Nat.mod_lt _ (Nat.pow_pos (by decide)))
  rw [be_mod, hm, Int.natCast_emod, hM] at h
  exact h
theorem strCells_bs (l : List UInt8) : Lib.strCells (bs l) = Lib.byteCells l := by
  simp [Lib.strCells, Lib.byteCells, bs_toList]
theorem byteCells_append (a b : List UInt8) : Lib.byteCells a ++ Lib.byteCells b = Lib.byteCells (a ++ b) := by simp [Lib.byteCells]
set_option maxRecDepth 100000 in
theorem join_any (ps : List (Nat × Nat)) (g : Nat) (w : World) (h0 : ps ≠ []) (hn : ps.length ≤ 100) (hp : ∀ p ∈ ps, p.1 < 18446744073709551616 ∧ (p.2 = 2 ∨ p.2 = 4 ∨ p.2 = 6)) (hg : w.heap[g]? = some (.cells (partCells ps).toArray 117 (0, 0))) :
    Calls Tryd.prog 53 #[.slice (some ⟨g, 0, none⟩) ps.length ps.length] w fun e w' => e = .returned (.string (bs (partBytes ps))) ∧ Below w.heap.size w w' := by
  have HP := hide hp
  clear hp
  go_enter Tryd.func53, Tryd.ntmps53
  go_wp2
  go_loopw [10] (fun i wr => ∃ k : Nat, k ≤ ps.length ∧ i = .int .i64 k ∧ Lib.IsBuilder 128 5 w.heap.size w.heap.size (Lib.byteCells (partBytes (ps.take k))) wr ∧ Below w.heap.size w wr) (fun i _ => ps.length - (intOf i).toNat)
  case atStart => exact ⟨0, Nat.zero_le _, rfl, Lib.fresh_isBuilder _ _ _, alloc_below _ _⟩
  case round =>
    obtain ⟨k, hk, rfl, hbu, hb⟩ := hrel
    by_cases hlt : k < ps.length
    · obtain ⟨p, hpk⟩ : ∃ p, ps[k]? = some p := ⟨_, List.getElem?_eq_getElem hlt⟩
      obtain ⟨v, n⟩ := p
      have hr := Below.row hb hg
      obtain ⟨q0, q1⟩ := partCells_at ps k (v, n) hpk
      have c0 : wr.cell? ⟨g, k * 2, none⟩ = some (.int .u64 (v : Int)) := by rw [Lib.cell_of_heap hr]; simpa using q0
      have c1 : wr.cell? ⟨g, k * 2 + 1, none⟩ = some (.int .i64 (n : Int)) := by rw [Lib.cell_of_heap hr]; simpa using q1
      have hv := (HP.out (v, n) (List.mem_of_getElem? hpk)).1
      have hn3 := (HP.out (v, n) (List.mem_of_getElem? hpk)).2
      have hnx := partBytes_next ps k (v, n) hpk
      have hln := partBytes_le (ps.take k) (fun p hp => by have := (HP.out p (List.mem_of_mem_take hp)).2; omega)
      rw [List.length_take] at hln
      have HN := hide hnx
      simp only at hv hn3
      clear hr q0 q1 hnx hpk
      generalize partBytes (ps.take k) = L at *
      have hmore := builder_next hbu (alloc_below wr (.cells #[.int .u64 (v : Int), .int .i64 (n : Int)] 117))
      have hb2 := alloc_then (o := .cells #[.int .u64 (v : Int), .int .i64 (n : Int)] 117) hb
      have hrow := heap_alloc_new wr (.cells #[.int .u64 (v : Int), .int .i64 (n : Int)] 117)
      go_wp2
      generalize wr.heap.size = G at *
      generalize wr.alloc (.cells #[.int .u64 (v : Int), .int .i64 (n : Int)] 117) = W2 at *
      obtain ⟨k0, k1, _, _⟩ := cells2 hrow
      have r0 := cell_regrown k0
      have r1 := cell_regrown k1
      clear k0 k1 hrow hbu hb c0 c1
      rcases hn3 with rfl | rfl | rfl
      · have cP := at_grown (put_mod v 2 65536 65536 rfl rfl (by decide) (by decide)) W2
        refine wp_region_quiet_below (by kernel_rfl) (by kernel_rfl) ?_
        repeat (go_big_quiet_step (first | (go_at_call 60; exact cP _ _)))
        refine wpQuiet_nil ?_
        rintro _ ⟨⟨dq, osq⟩, rfl⟩
        have hb3 := grown_then hb2 dq osq
        have hm3 := builder_next hmore (below_regrown W2 dq osq)
        clear r0 r1 cP hmore hb2
        generalize grow (redrawn W2 dq) osq = W3 at *
        have cW := hide (writeString_any w.heap.size w.heap.size _ (bs (be v 2)) W3 hm3 (by rw [Lib.byteCells_length, bs_size, be_length]; omega) hb3.size)
        go_wp2_with fail
        refine (unhide cW).mono ?_
        rintro e W4 ⟨rfl, hB4, b4⟩
        have hb4 := hb3.trans b4
        rw [strCells_bs, byteCells_append] at hB4
        clear cW hm3 hb3 b4
        go_wp2
        go_roundw
        case rel => exact ⟨k + 1, by omega, by go_num, by rw [unhide HN]; exact Or.inr hB4, hb4⟩
        case measure => simp [intOf]; omega
      · have cP := at_grown (put_mod v 4 4294967296 4294967296 rfl rfl (by decide) (by decide)) W2
        refine wp_region_quiet_below (by kernel_rfl) (by kernel_rfl) ?_
        repeat (go_big_quiet_step (first | (go_at_call 60; exact cP _ _)))
        refine wpQuiet_nil ?_
        rintro _ ⟨⟨dq, osq⟩, rfl⟩
        have hb3 := grown_then hb2 dq osq
        have hm3 := builder_next hmore (below_regrown W2 dq osq)
        clear r0 r1 cP hmore hb2
        generalize grow (redrawn W2 dq) osq = W3 at *
        have cW := hide (writeString_any w.heap.size w.heap.size _ (bs (be v 4)) W3 hm3 (by rw [Lib.byteCells_length, bs_size, be_length]; omega) hb3.size)
        go_wp2_with fail
        refine (unhide cW).mono ?_
        rintro e W4 ⟨rfl, hB4, b4⟩
        have hb4 := hb3.trans b4
        rw [strCells_bs, byteCells_append] at hB4
        clear cW hm3 hb3 b4
        go_wp2
        go_roundw
        case rel => exact ⟨k + 1, by omega, by go_num, by rw [unhide HN]; exact Or.inr hB4, hb4⟩
        case measure => simp [intOf]; omega
      · have cP := at_grown (put_mod v 6 281474976710656 281474976710656 rfl rfl (by decide) (by decide)) W2
        refine wp_region_quiet_below (by kernel_rfl) (by kernel_rfl) ?_
        repeat (go_big_quiet_step (first | (go_at_call 60; exact cP _ _)))
        refine wpQuiet_nil ?_
        rintro _ ⟨⟨dq, osq⟩, rfl⟩
        have hb3 := grown_then hb2 dq osq
        have hm3 := builder_next hmore (below_regrown W2 dq osq)
        clear r0 r1 cP hmore hb2
        generalize grow (redrawn W2 dq) osq = W3 at *
        have cW := hide (writeString_any w.heap.size w.heap.size _ (bs (be v 6)) W3 hm3 (by rw [Lib.byteCells_length, bs_size, be_length]; omega) hb3.size)
        go_wp2_with fail
        refine (unhide cW).mono ?_
        rintro e W4 ⟨rfl, hB4, b4⟩
        have hb4 := hb3.trans b4
        rw [strCells_bs, byteCells_append] at hB4
        clear cW hm3 hb3 b4
        go_wp2
        go_roundw
        case rel => exact ⟨k + 1, by omega, by go_num, by rw [unhide HN]; exact Or.inr hB4, hb4⟩
        case measure => simp [intOf]; omega
    · obtain rfl : k = ps.length := by omega
      rw [List.take_length] at hbu
      have hne : partBytes ps ≠ [] := by
        cases ps with
        | nil => exact absurd rfl h0
        | cons p ps =>
          have h2 := (HP.out p (List.mem_cons_self ..)).2
          intro e
          have := congrArg List.length e
          simp only [partBytes, List.flatMap_cons, List.length_append, be_length, List.length_nil] at this
          omega
      have cS := hide (lib_Builder_String w.heap.size w.heap.size _ wr hbu hne)
      clear hbu hne
      go_wp2_with fail
      refine (unhide cS).mono ?_
      rintro e w5 ⟨rfl, b5⟩
      have hb5 := hb.trans b5
      clear cS b5
      go_wp2_with fail
      go_ret
      exact ⟨rfl, hb5⟩
end Go.Proofs.YtljhgehlaehgnaaDoor
