/-
  The library's contracts that this program's proofs lean on, laid at its numbers.
  The contracts of a strings.Builder's copyCheck and WriteString, walked at this program: what is written stands behind what was there; no cell that was there before the builder has turned.
  The contract of arp.join: the bytes of parts, one behind the other, each cut to its lowest bytes; no cell that was there before has turned.
  The contracts of addrs.Group and Own; nothing has turned.
  The contracts of arp.Check, written and Build: whether a message may be, and its bytes; no cell that was there before has turned.
  The contract of octets.Get where there are the bytes: their number, and OK; nothing has turned.
  The contracts of arp.number, read and Parse: the message of bytes, or the error's number; no cell that was there before has turned.
  The contracts of arp.Parse, whole, frame, Ask, Tell and Of: frames with messages in them; no cell that was there before has turned.
  The contract of arp.Of: the message in a frame, if there is one; no cell that was there before has turned.
  A message is the same as itself; gangwaylaw05.fixed: calls whose answers the document fixes: true, always.
-/
import Derived.Shelf.Strings.Builder1
import Derived.Shelf.Strings.Prefix
import Derived.Test.YtljhgehlaehgnaaGreatDoorProg
import Derived.Test.YtljhgehlaehgnaaGreatDoorKit5
import Derived.Test.YtljhgehlaehgnaaGreatDoorPlains5
import Derived.Test.YtljhgehlaehgnaaGreatDoorBytes3
import Derived.Laws.BitsAllLaws
import Derived.Deep.RegionHeld3
namespace Go.Proofs.YtljhgehlaehgnaaGreatDoor
open Go.Shelf
def lib_lays169_ren : Go.Shelf.Ren := ⟨fun | 169 => 82 | n => n, fun | 70 => 136 | 9 => 9 | 0 => 0 | 72 => 138 | 37 => 132 | 127 => 152 | 3 => 3 | 5 => 5 | n => n, fun | n => n⟩
theorem lib_lays169 : Go.Proofs.Lays.n169 Tryz.prog lib_lays169_ren := {
  mixed := by kernel_rfl
  f169 := Tryz.func82.trans (congrArg some (by kernel_rfl))
  t0 := Tryz.underlying0
  a0 := Tryz.isAgg0
  z0 := Tryz.sizeOf0
  v0 := Tryz.zeroValue0
  t3 := Tryz.underlying3
  a3 := Tryz.isAgg3
  z3 := Tryz.sizeOf3
  v3 := Tryz.zeroValue3
  t9 := Tryz.underlying9
  a9 := Tryz.isAgg9
  z9 := Tryz.sizeOf9
  v9 := Tryz.zeroValue9
  t37 := Tryz.underlying132
  a37 := Tryz.isAgg132
  z37 := Tryz.sizeOf132
  v37 := Tryz.zeroValue132
  t70 := Tryz.underlying136
  a70 := Tryz.isAgg136
  z70 := Tryz.sizeOf136
  v70 := Tryz.zeroValue136
  t72 := Tryz.underlying138
  a72 := Tryz.isAgg138
  z72 := Tryz.sizeOf138
  v72 := Tryz.zeroValue138
  t127 := Tryz.underlying152
  a127 := Tryz.isAgg152
  z127 := Tryz.sizeOf152
  v127 := Tryz.zeroValue152 }
theorem lib_Builder_Extra_169 : Builder.Extra Tryz.prog lib_lays169_ren := {
  sizeBuilder := by kernel_rfl
  liesBuilder := by kernel_rfl
  t5 := Tryz.underlying5
  a5 := Tryz.isAgg5
  z5 := Tryz.sizeOf5
  v5 := Tryz.zeroValue5
  infoByte := by kernel_rfl
  cellsByte := by kernel_rfl
  sizeByte := by kernel_rfl
  neB5 := by decide }
open Go.RowKit in
theorem lib_Builder_String (B b : Nat) (l : List UInt8) (w : World) (h : Lib.IsBuilder 138 5 B b (Lib.byteCells l) w) (h0 : l ≠ []) :
    Calls Tryz.prog 82 #[.pointer (some ⟨b, 0, none⟩)] w fun e w' => e = .returned (.string ⟨l.toArray⟩) ∧ Below B w w' := Any.Builder_String lib_lays169 lib_Builder_Extra_169 B b l w h h0
def lib_lays99_ren : Go.Shelf.Ren := ⟨fun | 99 => 54 | 206 => 70 | n => n, fun | 9 => 9 | 4 => 4 | 3 => 3 | n => n, fun | n => n⟩
theorem lib_lays99 : Go.Proofs.Lays.n99 Tryz.prog lib_lays99_ren := {
  mixed := by kernel_rfl
  f99 := Tryz.func54.trans (congrArg some (by kernel_rfl))
  f206 := Tryz.func70.trans (congrArg some (by kernel_rfl))
  t3 := Tryz.underlying3
  a3 := Tryz.isAgg3
  z3 := Tryz.sizeOf3
  v3 := Tryz.zeroValue3
  t4 := Tryz.underlying4
  a4 := Tryz.isAgg4
  z4 := Tryz.sizeOf4
  v4 := Tryz.zeroValue4
  t9 := Tryz.underlying9
  a9 := Tryz.isAgg9
  z9 := Tryz.sizeOf9
  v9 := Tryz.zeroValue9 }
open Go.RowKit Go.Lib in
theorem lib_strings_HasPrefix (s p : ByteArray) (w : World) :
    Calls Tryz.prog 54 #[.string s, .string p] w fun e w' => e = .returned (.bool (Lib.hasPrefix s.data.toList p.data.toList)) ∧ w' = w := Any.strings_HasPrefix lib_lays99 s p w
end Go.Proofs.YtljhgehlaehgnaaGreatDoor
namespace Go.Proofs.YtljhgehlaehgnaaGreatDoor
open Go.RowKit

theorem builder_size : (Tryz.prog.info? 138).map (·.size) = some 2 := by kernel_rfl
theorem builder_lies : liesAt Tryz.prog Tryz.prog.depth 138 (2 / Tryz.prog.cellsOf 138) 0 138 1 = true := by kernel_rfl
/-- a pointer turned raw, and back: the address as it is -/
theorem run_raw (w : World) (b : Nat) (hsh : w.shape? b = some (138, 2)) : (convert 136 157 (.pointer (some ⟨b, 0, none⟩))).run Tryz.prog w = .ok (.pointer (some ⟨b, 0, none⟩)) w := by
  obtain ⟨j, hj, hs⟩ := Option.map_eq_some_iff.1 builder_size
  simp [convert, run_underlying Tryz.underlying136, run_underlying Tryz.underlying157, Conv.unsafePointer, Conv.seenAt, viewAt, cellsIn, hsh, sizeOf, typeInfo, hj, hs]
theorem run_back (w : World) (b : Nat) (hsh : w.shape? b = some (138, 2)) : (convert 157 136 (.pointer (some ⟨b, 0, none⟩))).run Tryz.prog w = .ok (.pointer (some ⟨b, 0, none⟩)) w := by
  obtain ⟨j, hj, _⟩ := Option.map_eq_some_iff.1 builder_size
  simp [convert, run_underlying Tryz.underlying136, run_underlying Tryz.underlying157, Conv.unsafePointer, Conv.seenAt, viewAt, hsh, variablesAt, builder_lies, sizeOf, typeInfo, hj]
set_option maxRecDepth 100000 in
theorem check_used (b : Nat) (w : World) (h0 : w.cell? ⟨b, 0, none⟩ = some (.pointer (some ⟨b, 0, none⟩))) :
    Calls Tryz.prog 88 #[.pointer (some ⟨b, 0, none⟩)] w fun e w' => e = .returned (.tuple #[]) ∧ w' = w := by
  obtain ⟨j, hj, _⟩ := Option.map_eq_some_iff.1 builder_size
  go_enter Tryz.func88, Tryz.ntmps88
  go_wp2
  rw [Lib.run_neq_ptr_same w _ Tryz.underlying136 hj]
  go_wp2
  go_end0
  exact ⟨rfl, rfl⟩
set_option maxRecDepth 100000 in
theorem check_fresh (b : Nat) (w : World) (h0 : w.cell? ⟨b, 0, none⟩ = some (.pointer none)) (hsh : w.shape? b = some (138, 2)) (hfz : w.frozen? ⟨b, 0, none⟩ = false) :
    Calls Tryz.prog 88 #[.pointer (some ⟨b, 0, none⟩)] w fun e w' => e = .returned (.tuple #[]) ∧ w' = w.setCell ⟨b, 0, none⟩ (.pointer (some ⟨b, 0, none⟩)) := by
  have r1 := run_raw w b hsh
  have r2 := run_back w b hsh
  go_enter Tryz.func88, Tryz.ntmps88
  go_wp2
  rw [run_callFunc_extern Tryz.func90 (by kernel_rfl) (by kernel_rfl) (by kernel_rfl) (e := Extern.AbiNoEscape.same) (by kernel_rfl)]
  rw [Lib.run_noEscape]
  simp only [Result.andThen]
  rw [Oper.upon_value]
  go_wp2
  go_end0
  exact ⟨rfl, rfl⟩
theorem copyCheck_any (B b : Nat) (l : List Value) (w : World) (h : Lib.IsBuilder 138 5 B b l w) :
    Calls Tryz.prog 88 #[.pointer (some ⟨b, 0, none⟩)] w fun e w' => e = .returned (.tuple #[]) ∧ (Lib.BuilderAt 138 5 B b (.pointer (some ⟨b, 0, none⟩)) l w' ∧ Below B w w') := by
  rcases h with h | h
  · refine (check_fresh b w h.cell0 h.shape h.frozen0).mono ?_
    rintro e w' ⟨rfl, rfl⟩
    exact ⟨rfl, h.used _, (Below.refl B w).setCell (p := ⟨b, 0, none⟩) h.1 _⟩
  · refine (check_used b w h.cell0).mono ?_
    rintro e w' ⟨rfl, rfl⟩
    exact ⟨rfl, h, Below.refl B _⟩
set_option maxRecDepth 100000 in
theorem writeString_any (B b : Nat) (l : List Value) (s : ByteArray) (w : World) (h : Lib.IsBuilder 138 5 B b l w) (hlen : l.length + s.size ≤ 140737488355328) (hBw : B ≤ w.heap.size) :
    Calls Tryz.prog 81 #[.pointer (some ⟨b, 0, none⟩), .string s] w fun e w' => e = .returned (.tuple #[.int .i64 s.size, .nilIface]) ∧ (Lib.BuilderAt 138 5 B b (.pointer (some ⟨b, 0, none⟩)) (l ++ Lib.strCells s) w' ∧ Below B w w') := by
  obtain ⟨i0, hi, hz0, hz1, hz2⟩ := info_parts info5
  go_enter Tryz.func81, Tryz.ntmps81
  go_wp2_with (go_at_call 88; refine (copyCheck_any B b l _ h).mono ?_)
  rintro e w1 ⟨rfl, h1, hb1⟩
  obtain ⟨hB, v, hbk, hown, hne⟩ := h1
  have c0 : w1.cell? ⟨b, 0, none⟩ = some (.pointer (some ⟨b, 0, none⟩)) := by rw [Lib.cell_of_heap hbk]; rfl
  have c1 : w1.cell? ⟨b, 1, none⟩ = some v := by rw [Lib.cell_of_heap hbk]; rfl
  go_wp2_with (at_builtin; refine Lib.wpList_append_own_string _ rfl _ _ 132 9 rfl B 5 i0 Tryz.underlying132 Tryz.underlying9 hi hz0 hz1 hz2 _ _ _ rfl hown s rfl ?c3 ?c4 ?c5 ?_)
  case c3 => unfold maxLen; omega
  case c4 => omega
  case c5 => have := hb1.size; omega
  intro v' w2 hown' hgrow _
  have hb2 : w2.heap[b]? = some (.cells #[.pointer (some ⟨b, 0, none⟩), v] 138 (0, 0)) := by
    rw [hgrow.block b (lt_of_row hbk) (fun e => hne e.symm)]
    exact hbk
  have d0 : w2.cell? ⟨b, 0, none⟩ = some (.pointer (some ⟨b, 0, none⟩)) := by rw [Lib.cell_of_heap hb2]; rfl
  have d1 : w2.cell? ⟨b, 1, none⟩ = some v := by rw [Lib.cell_of_heap hb2]; rfl
  have f1 : w2.frozen? ⟨b, 1, none⟩ = false := Lib.frozen_of_heap hb2 1
  obtain ⟨ao, n', cap, rfl⟩ : ∃ ao n' cap, v' = .slice ao n' cap := by
    rcases hown'.2 with ⟨hv, _⟩ | ⟨g, cap, cur, hv, _⟩
    · exact ⟨_, _, _, hv⟩
    · exact ⟨_, _, _, hv⟩
  go_wp2
  go_ret2
  refine ⟨rfl, ?_, ?_⟩
  · exact Lib.BuilderAt.put (T := 138) (e := 5) hB hb2 (bs' := l ++ Lib.strCells s) (by simpa [Lib.strCells_length] using hown') (by decide)
  · exact (hb1.grown hgrow (by have := hb1.size; omega) (fun k hk => (hown.lt k hk).1)).setCell (p := ⟨b, 1, none⟩) hB _
/-- what a builder holds stays, where the blocks that are there stay -/
theorem builder_next {T e : TypeId} {B b : Nat} {l : List Value} {w w' : World} (h : Lib.IsBuilder T e B b l w) (k : Below w.heap.size w w') : Lib.IsBuilder T e B b l w' := by
  have hg : w.grownBy w' none := ⟨k.os, k.tape, k.output, k.size, fun j hj _ => k.block j hj⟩
  rcases h with ⟨hB, v, hb, hown, hne⟩ | ⟨hB, v, hb, hown, hne⟩
  · exact Or.inl ⟨hB, v, Below.row k hb, hown.kept hg (by cases v.ownBlock <;> simp), hne⟩
  · exact Or.inr ⟨hB, v, Below.row k hb, hown.kept hg (by cases v.ownBlock <;> simp), hne⟩
end Go.Proofs.YtljhgehlaehgnaaGreatDoor
namespace Go.Proofs.YtljhgehlaehgnaaGreatDoor
open Go.RowKit Go.Sort

theorem be_mod (v n : Nat) : be (v % 256 ^ n) n = be v n := by
  induction n generalizing v with
  | zero => rfl
  | succ n ih =>
    have e1 : v % 256 ^ (n + 1) / 256 = v / 256 % 256 ^ n := by rw [Nat.pow_succ, Nat.mul_comm, Nat.mod_mul_right_div_self]
    have e2 : v % 256 ^ (n + 1) % 256 = v % 256 := by rw [Nat.pow_succ, Nat.mul_comm, Nat.mod_mul_right_mod]
    unfold be
    rw [e1, e2, ih]
/-- parts as a row of cells -/
def partCells (ps : List (Nat × Nat)) : List Value := ps.flatMap fun p => [.int .u64 (p.1 : Int), .int .i64 (p.2 : Int)]
/-- parts as bytes -/
def partBytes (ps : List (Nat × Nat)) : List UInt8 := ps.flatMap fun p => be p.1 p.2
theorem partCells_at (ps : List (Nat × Nat)) (k : Nat) (p : Nat × Nat) (h : ps[k]? = some p) : (partCells ps)[k * 2]? = some (.int .u64 (p.1 : Int)) ∧ (partCells ps)[k * 2 + 1]? = some (.int .i64 (p.2 : Int)) := by
  induction ps generalizing k with
  | nil => simp at h
  | cons q ps ih =>
    cases k with
    | zero => simp at h; subst h; exact ⟨rfl, rfl⟩
    | succ k =>
      have := ih k (by simpa using h)
      have e : (k + 1) * 2 = k * 2 + 2 := by omega
      rw [e]
      exact ⟨by simpa [partCells] using this.1, by simpa [partCells] using this.2⟩
theorem partBytes_next (ps : List (Nat × Nat)) (k : Nat) (p : Nat × Nat) (h : ps[k]? = some p) : partBytes (ps.take (k + 1)) = partBytes (ps.take k) ++ be p.1 p.2 := by
  rw [List.take_add_one, h]
  simp [partBytes]
theorem partBytes_le (ps : List (Nat × Nat)) (hp : ∀ p ∈ ps, p.2 ≤ 7) : (partBytes ps).length ≤ 7 * ps.length := by
  induction ps with
  | nil => simp [partBytes]
  | cons p ps ih =>
    have := ih fun q hq => hp q (List.mem_cons_of_mem _ hq)
    have h2 := hp p (List.mem_cons_self ..)
    simp only [partBytes, List.flatMap_cons, List.length_append, be_length, List.length_cons] at this ⊢
    omega
theorem shl_one (n : Nat) (h : n ≤ 7) : 256 ^ n < 18446744073709551616 ∧ 0 < 256 ^ n := by
  have : 256 ^ n ≤ 256 ^ 7 := Nat.pow_le_pow_right (by omega) h
  have h2 : (256 : Nat) ^ 7 = 72057594037927936 := by decide
  exact ⟨by omega, Nat.pow_pos (by omega)⟩
theorem put_mod (v n m : Nat) (M : Int) (hm : 256 ^ n = m) (hM : (m : Int) = M) (h1 : 1 ≤ n) (h2 : n ≤ 7) (w : World) :
    Calls Tryz.prog 80 #[.int .u64 ((v : Int) % M), .int .i64 n] w fun e w' => e = .returned (.tuple #[.string (bs (be v n)), .int .i64 0]) ∧ Below w.heap.size w w' := by
  have h := put_ok (v % 256 ^ n) n w h1 (by omega) (Nat.mod_lt _ (Nat.pow_pos (by decide)))
  rw [be_mod, hm, Int.natCast_emod, hM] at h
  exact h
theorem strCells_bs (l : List UInt8) : Lib.strCells (bs l) = Lib.byteCells l := by
  simp [Lib.strCells, Lib.byteCells, bs_toList]
theorem byteCells_append (a b : List UInt8) : Lib.byteCells a ++ Lib.byteCells b = Lib.byteCells (a ++ b) := by simp [Lib.byteCells]
set_option maxRecDepth 100000 in
theorem join_any (ps : List (Nat × Nat)) (g : Nat) (w : World) (h0 : ps ≠ []) (hn : ps.length ≤ 100) (hp : ∀ p ∈ ps, p.1 < 18446744073709551616 ∧ (p.2 = 2 ∨ p.2 = 4 ∨ p.2 = 6)) (hg : w.heap[g]? = some (.cells (partCells ps).toArray 131 (0, 0))) :
    Calls Tryz.prog 77 #[.slice (some ⟨g, 0, none⟩) ps.length ps.length] w fun e w' => e = .returned (.string (bs (partBytes ps))) ∧ Below w.heap.size w w' := by
  have HP := hide hp
  clear hp
  go_enter Tryz.func77, Tryz.ntmps77
  go_wp2
  go_loopw [10] (fun i wr => ∃ k : Nat, k ≤ ps.length ∧ i = .int .i64 k ∧ Lib.IsBuilder 138 5 w.heap.size w.heap.size (Lib.byteCells (partBytes (ps.take k))) wr ∧ Below w.heap.size w wr) (fun i _ => ps.length - (intOf i).toNat)
  case atStart => exact ⟨0, Nat.zero_le _, rfl, Lib.fresh_isBuilder _ _ _, alloc_below _ _⟩
  case round =>
    obtain ⟨k, hk, rfl, hbu, hb⟩ := hrel
    by_cases hlt : k < ps.length
    · obtain ⟨p, hpk⟩ : ∃ p, ps[k]? = some p := ⟨_, List.getElem?_eq_getElem hlt⟩
      obtain ⟨v, n⟩ := p
      have hr := Below.row hb hg
      obtain ⟨q0, q1⟩ := partCells_at ps k (v, n) hpk
      have c0 : wr.cell? ⟨g, k * 2, none⟩ = some (.int .u64 (v : Int)) := by rw [Lib.cell_of_heap hr]; simpa using q0
      have c1 : wr.cell? ⟨g, k * 2 + 1, none⟩ = some (.int .i64 (n : Int)) := by rw [Lib.cell_of_heap hr]; simpa using q1
      have hv := (HP.out (v, n) (List.mem_of_getElem? hpk)).1
      have hn3 := (HP.out (v, n) (List.mem_of_getElem? hpk)).2
      have hnx := partBytes_next ps k (v, n) hpk
      have hln := partBytes_le (ps.take k) (fun p hp => by have := (HP.out p (List.mem_of_mem_take hp)).2; omega)
      rw [List.length_take] at hln
      have HN := hide hnx
      simp only at hv hn3
      clear hr q0 q1 hnx hpk
      generalize partBytes (ps.take k) = L at *
      have hmore := builder_next hbu (alloc_below wr (.cells #[.int .u64 (v : Int), .int .i64 (n : Int)] 131))
      have hb2 := alloc_then (o := .cells #[.int .u64 (v : Int), .int .i64 (n : Int)] 131) hb
      have hrow := heap_alloc_new wr (.cells #[.int .u64 (v : Int), .int .i64 (n : Int)] 131)
      go_wp2
      generalize wr.heap.size = G at *
      generalize wr.alloc (.cells #[.int .u64 (v : Int), .int .i64 (n : Int)] 131) = W2 at *
      obtain ⟨k0, k1, _, _⟩ := cells2 hrow
      have r0 := cell_regrown k0
      have r1 := cell_regrown k1
      clear k0 k1 hrow hbu hb c0 c1
      rcases hn3 with rfl | rfl | rfl
      · have cP := at_grown (put_mod v 2 65536 65536 rfl rfl (by decide) (by decide)) W2
        refine wp_region_quiet_below (by kernel_rfl) (by kernel_rfl) ?_
        repeat (go_big_quiet_step (first | (go_at_call 80; exact cP _ _)))
        refine wpQuiet_nil ?_
        rintro _ ⟨⟨dq, osq⟩, rfl⟩
        have hb3 := grown_then hb2 dq osq
        have hm3 := builder_next hmore (below_regrown W2 dq osq)
        clear r0 r1 cP hmore hb2
        generalize grow (redrawn W2 dq) osq = W3 at *
        have cW := hide (writeString_any w.heap.size w.heap.size _ (bs (be v 2)) W3 hm3 (by rw [Lib.byteCells_length, bs_size, be_length]; omega) hb3.size)
        go_wp2_with fail
        refine (unhide cW).mono ?_
        rintro e W4 ⟨rfl, hB4, b4⟩
        have hb4 := hb3.trans b4
        rw [strCells_bs, byteCells_append] at hB4
        clear cW hm3 hb3 b4
        go_wp2
        go_roundw
        case rel => exact ⟨k + 1, by omega, by go_num, by rw [unhide HN]; exact Or.inr hB4, hb4⟩
        case measure => simp [intOf]; omega
      · have cP := at_grown (put_mod v 4 4294967296 4294967296 rfl rfl (by decide) (by decide)) W2
        refine wp_region_quiet_below (by kernel_rfl) (by kernel_rfl) ?_
        repeat (go_big_quiet_step (first | (go_at_call 80; exact cP _ _)))
        refine wpQuiet_nil ?_
        rintro _ ⟨⟨dq, osq⟩, rfl⟩
        have hb3 := grown_then hb2 dq osq
        have hm3 := builder_next hmore (below_regrown W2 dq osq)
        clear r0 r1 cP hmore hb2
        generalize grow (redrawn W2 dq) osq = W3 at *
        have cW := hide (writeString_any w.heap.size w.heap.size _ (bs (be v 4)) W3 hm3 (by rw [Lib.byteCells_length, bs_size, be_length]; omega) hb3.size)
        go_wp2_with fail
        refine (unhide cW).mono ?_
        rintro e W4 ⟨rfl, hB4, b4⟩
        have hb4 := hb3.trans b4
        rw [strCells_bs, byteCells_append] at hB4
        clear cW hm3 hb3 b4
        go_wp2
        go_roundw
        case rel => exact ⟨k + 1, by omega, by go_num, by rw [unhide HN]; exact Or.inr hB4, hb4⟩
        case measure => simp [intOf]; omega
      · have cP := at_grown (put_mod v 6 281474976710656 281474976710656 rfl rfl (by decide) (by decide)) W2
        refine wp_region_quiet_below (by kernel_rfl) (by kernel_rfl) ?_
        repeat (go_big_quiet_step (first | (go_at_call 80; exact cP _ _)))
        refine wpQuiet_nil ?_
        rintro _ ⟨⟨dq, osq⟩, rfl⟩
        have hb3 := grown_then hb2 dq osq
        have hm3 := builder_next hmore (below_regrown W2 dq osq)
        clear r0 r1 cP hmore hb2
        generalize grow (redrawn W2 dq) osq = W3 at *
        have cW := hide (writeString_any w.heap.size w.heap.size _ (bs (be v 6)) W3 hm3 (by rw [Lib.byteCells_length, bs_size, be_length]; omega) hb3.size)
        go_wp2_with fail
        refine (unhide cW).mono ?_
        rintro e W4 ⟨rfl, hB4, b4⟩
        have hb4 := hb3.trans b4
        rw [strCells_bs, byteCells_append] at hB4
        clear cW hm3 hb3 b4
        go_wp2
        go_roundw
        case rel => exact ⟨k + 1, by omega, by go_num, by rw [unhide HN]; exact Or.inr hB4, hb4⟩
        case measure => simp [intOf]; omega
    · obtain rfl : k = ps.length := by omega
      rw [List.take_length] at hbu
      have hne : partBytes ps ≠ [] := by
        cases ps with
        | nil => exact absurd rfl h0
        | cons p ps =>
          have h2 := (HP.out p (List.mem_cons_self ..)).2
          intro e
          have := congrArg List.length e
          simp only [partBytes, List.flatMap_cons, List.length_append, be_length, List.length_nil] at this
          omega
      have cS := hide (lib_Builder_String w.heap.size w.heap.size _ wr hbu hne)
      clear hbu hne
      go_wp2_with fail
      refine (unhide cS).mono ?_
      rintro e w5 ⟨rfl, b5⟩
      have hb5 := hb.trans b5
      clear cS b5
      go_wp2_with fail
      go_ret
      exact ⟨rfl, hb5⟩
end Go.Proofs.YtljhgehlaehgnaaGreatDoor
namespace Go.Proofs.YtljhgehlaehgnaaGreatDoor
open Go.RowKit

theorem low_bit (m : Nat) (hm : m < 18446744073709551616) : bits BinOp.and IntKind.u64 ((m : Int) / 1099511627776) 1 = ((m / 1099511627776 % 2 : Nat) : Int) := by
  rw [show (m : Int) / 1099511627776 = ((m / 1099511627776 : Nat) : Int) by simp, show (1 : Int) = ((1 : Nat) : Int) from rfl, u64_and_nat _ _ (by omega) (by omega)]
  rw [show (1 : Nat) = 2 ^ 1 - 1 from rfl, Nat.and_two_pow_sub_one_eq_mod]
theorem group_any (m : Nat) (w : World) (hm : m < 18446744073709551616) :
    Calls Tryz.prog 42 #[.int .u64 m] w fun e w' => e = .returned (.bool (grp m)) ∧ w' = w := by
  have h := low_bit m hm
  go_enter Tryz.func42, Tryz.ntmps42
  go_wp2
  go_ret
  refine ⟨?_, rfl⟩
  show Ending.returned (Value.bool ((m : Int) / 1099511627776 % 2 == 1)) = _
  rw [show (m : Int) / 1099511627776 % 2 = ((m / 1099511627776 % 2 : Nat) : Int) by simp, show (((m / 1099511627776 % 2 : Nat) : Int) == 1) = decide (m / 1099511627776 % 2 = 1) from int_beq _ 1]
  rfl
theorem own_any (m : Nat) (w : World) (hm : m < 18446744073709551616) :
    Calls Tryz.prog 29 #[.int .u64 m] w fun e w' => e = .returned (.bool (ownH m)) ∧ w' = w := by
  have hg := hide (group_any m w hm)
  clear hm
  unfold ownH
  generalize grp m = g at hg ⊢
  by_cases h : (m : Int) < 281474976710656
  · have hd : decide ((m : Int) < 281474976710656) = true := decide_eq_true h
    rw [decide_eq_true (show m < 281474976710656 by omega)]
    clear h
    cases g
    · by_cases h0 : m = 0
      · subst h0
        go_enter Tryz.func29, Tryz.ntmps29
        go_wp2_with fail
        refine (unhide hg).mono ?_
        rintro e w1 ⟨rfl, rfl⟩
        go_wp2_with fail
        go_ret
        exact ⟨rfl, rfl⟩
      · have h1 : ((m : Int) != 0) = true := by rw [bne_iff_ne]; omega
        rw [decide_eq_true h0]
        go_enter Tryz.func29, Tryz.ntmps29
        go_wp2_with fail
        refine (unhide hg).mono ?_
        rintro e w1 ⟨rfl, rfl⟩
        go_wp2_with fail
        go_ret
        exact ⟨rfl, rfl⟩
    · rw [show (true && !true && decide (m ≠ 0)) = false from rfl]
      go_enter Tryz.func29, Tryz.ntmps29
      go_wp2_with fail
      refine (unhide hg).mono ?_
      rintro e w1 ⟨rfl, rfl⟩
      go_wp2_with fail
      go_ret
      exact ⟨rfl, rfl⟩
  · have hd : decide ((m : Int) < 281474976710656) = false := decide_eq_false h
    rw [decide_eq_false (show ¬ m < 281474976710656 by omega), Bool.false_and, Bool.false_and]
    go_enter Tryz.func29, Tryz.ntmps29
    go_wp2_with fail
    go_ret
    exact ⟨rfl, rfl⟩
end Go.Proofs.YtljhgehlaehgnaaGreatDoor
namespace Go.Proofs.YtljhgehlaehgnaaGreatDoor
open Go.RowKit Go.Sort

/-- a message as the program has it -/
def Ar.val (a : Ar) : Value := .agg #[.int .i64 a.op, .int .u64 (a.smac : Int), .int .u32 (a.sip : Int), .int .u64 (a.tmac : Int), .int .u32 (a.tip : Int)]
/-- a message's numbers are of their types -/
def Ar.fits (a : Ar) : Prop := (-9223372036854775808 ≤ a.op ∧ a.op ≤ 9223372036854775807) ∧ a.smac < 18446744073709551616 ∧ a.sip < 4294967296 ∧ a.tmac < 18446744073709551616 ∧ a.tip < 4294967296
set_option maxRecDepth 100000 in
theorem check_at (op S I T J : Int) (t1 t2 o t : Bool) (w : World) (h1 : (op != 1) = t1) (h2 : (op != 2) = t2)
    (cO : Hid (∀ W, Calls Tryz.prog 29 #[.int .u64 S] W fun e W' => e = .returned (.bool o) ∧ W' = W)) (hT : decide (281474976710656 ≤ T) = t) :
    Calls Tryz.prog 17 #[.agg #[.int .i64 op, .int .u64 S, .int .u32 I, .int .u64 T, .int .u32 J]] w fun e w' => e = .returned (.int .i64 (if (t1 && t2) || !o || t then 51 else 0)) ∧ Below w.heap.size w w' := by
  cases t1 <;> cases t2 <;> cases o <;> cases t
  all_goals
    go_enter Tryz.func17, Tryz.ntmps17
    go_wp2_with (go_at_call 29; refine (unhide cO _).mono ?_; rintro e w1 ⟨rfl, rfl⟩)
    go_ret
    exact ⟨rfl, alloc_below _ _⟩
theorem arpCheck_any (a : Ar) (w : World) (h : a.fits) : Calls Tryz.prog 17 #[a.val] w fun e w' => e = .returned (.int .i64 a.check) ∧ Below w.heap.size w w' := by
  obtain ⟨op, s, i, t, j⟩ := a
  obtain ⟨_, hs, _, _, _⟩ := h
  have c := check_at op s i t j _ _ (ownH s) _ w rfl rfl (hide fun W => own_any s W hs) rfl
  have e : (if ((op != 1) && (op != 2)) || !(ownH s) || decide (281474976710656 ≤ (t : Int)) then (51 : Int) else 0) = (Ar.mk op s i t j).check := by
    rw [show decide ((281474976710656 : Int) ≤ (t : Int)) = decide (281474976710656 ≤ t) from decide_eq_decide.2 (by omega)]
    have e1 : (op != 1 && op != 2) = decide (op < 1 ∨ 2 < op) := by
      by_cases a : op = 1
      · subst a; rfl
      · by_cases b : op = 2
        · subst b; rfl
        · rw [decide_eq_true (by omega)]
          simp [a, b]
    unfold Ar.check
    simp only
    rw [e1]
    by_cases a : op < 1 ∨ 2 < op <;> by_cases b : 281474976710656 ≤ t <;> cases ownH s <;> simp [a, b] <;> omega
  rw [e] at c
  exact c
/-- a message's parts -/
def Ar.parts (a : Ar) : List (Nat × Nat) := [(a.op.toNat, 2), (a.smac, 6), (a.sip, 4), (a.tmac, 6), (a.tip, 4)]
theorem Ar.parts_bytes (a : Ar) : arpHead ++ partBytes a.parts = a.bytes := by
  unfold Ar.parts Ar.bytes partBytes
  simp
set_option maxRecDepth 100000 in
theorem written_at (op s i t j : Nat) (R : ByteArray) (w : World) (hs : op < 9223372036854775808) (hi : i < 4294967296) (hj : j < 4294967296)
    (cJ : Hid (∀ W g, W.heap[g]? = some (.cells #[.int .u64 op, .int .i64 2, .int .u64 s, .int .i64 6, .int .u64 i, .int .i64 4, .int .u64 t, .int .i64 6, .int .u64 j, .int .i64 4] 131 (0, 0)) →
      Calls Tryz.prog 77 #[.slice (some ⟨g, 0, none⟩) 5 5] W fun e W' => e = .returned (.string R) ∧ Below W.heap.size W W'))
    (B : ByteArray) (hadd : ∀ W, (Op.stringOp .add ⟨#[0, 1, 8, 0, 6, 4]⟩ R).run Tryz.prog W = .ok (.string B) W) :
    Calls Tryz.prog 68 #[.agg #[.int .i64 op, .int .u64 s, .int .u32 i, .int .u64 t, .int .u32 j]] w fun e w' => e = .returned (.string B) ∧ Below w.heap.size w w' := by
  have e1 : IntKind.u64.wrap (op : Int) = (op : Int) := u64_id op (by omega)
  have e2 : IntKind.u64.wrap (i : Int) = (i : Int) := u64_id i (by omega)
  have e3 : IntKind.u64.wrap (j : Int) = (j : Int) := u64_id j (by omega)
  clear hs hi hj
  go_enter Tryz.func68, Tryz.ntmps68
  go_wp2_with fail
  refine (unhide cJ _ _ (heap_alloc2_new w _ _)).mono ?_
  rintro e w1 ⟨rfl, b1⟩
  have hb := bthen (alloc_then (alloc_below w _)) b1
  clear b1 cJ
  go_wp2_with fail
  go_ret
  exact ⟨rfl, hb⟩
theorem written_any (a : Ar) (w : World) (h : a.fits) (ho : 0 ≤ a.op) : Calls Tryz.prog 68 #[a.val] w fun e w' => e = .returned (.string (bs a.bytes)) ∧ Below w.heap.size w w' := by
  obtain ⟨op, s, i, t, j⟩ := a
  obtain ⟨h0, hs, hi, ht, hj⟩ := h
  simp only at h0 hs hi ht hj ho
  obtain ⟨o, rfl⟩ : ∃ o : Nat, op = o := ⟨op.toNat, by omega⟩
  have e : ((o : Int)).toNat = o := by omega
  have hp : ∀ p ∈ (Ar.mk o s i t j).parts, p.1 < 18446744073709551616 ∧ (p.2 = 2 ∨ p.2 = 4 ∨ p.2 = 6) := by
    intro p hp
    unfold Ar.parts at hp
    rw [e] at hp
    simp only [List.mem_cons, List.not_mem_nil, or_false] at hp
    rcases hp with rfl | rfl | rfl | rfl | rfl <;> simp <;> omega
  have hc : (partCells (Ar.mk o s i t j).parts).toArray = #[.int .u64 o, .int .i64 2, .int .u64 s, .int .i64 6, .int .u64 i, .int .i64 4, .int .u64 t, .int .i64 6, .int .u64 j, .int .i64 4] := by
    unfold Ar.parts
    rw [e]
    rfl
  refine written_at o s i t j (bs (partBytes (Ar.mk o s i t j).parts)) w (by omega) hi hj (hide fun W g hg => ?_) _ (fun W => ?_)
  · exact join_any (Ar.mk o s i t j).parts g W (by unfold Ar.parts; simp) (by unfold Ar.parts; simp) hp (by rw [hc]; exact hg)
  · rw [← Ar.parts_bytes]
    exact add_bs arpHead _ (by unfold Ar.parts partBytes arpHead; simp [be_length]) W
/-- a message's bytes, if it may be -/
def Ar.built (a : Ar) : List UInt8 := if a.check = 0 then a.bytes else []
end Go.Proofs.YtljhgehlaehgnaaGreatDoor
namespace Go.Proofs.YtljhgehlaehgnaaGreatDoor
open Go.RowKit

set_option maxRecDepth 20000 in
theorem piece_ok (s : ByteArray) (a n : Nat) (w : World) (hs : s.size ≤ maxLen) (h : a + n ≤ s.size) :
    Calls Tryz.prog 85 #[.string s, .int .i64 a, .int .i64 n] w fun e w' => e = .returned (.tuple #[.string (s.extract a (a + n)), .nilIface]) ∧ w' = w := by
  unfold maxLen at hs
  have hsl := run_slice_string_lh (P := Tryz.prog) w 9 s Tryz.underlying9 .i64 .i64 (a : Int) ((a : Int) + (n : Int)) (by omega) (by omega) (by omega)
  rw [show ((a : Int) + (n : Int)).toNat = a + n from by omega, show (a : Int).toNat = a from by omega] at hsl
  go_enter Tryz.func85, Tryz.ntmps85
  go_wp2
  go_ret2
  exact ⟨rfl, rfl⟩

theorem or_byte (m : Nat) (c : UInt8) (h : m * 256 + 255 < 18446744073709551616) :
    bits BinOp.or IntKind.u64 ((m : Int) * 256) (IntKind.u64.wrap (c.toNat : Int)) = ((m * 256 + c.toNat : Nat) : Int) := by
  have hc := c.toNat_lt
  have e : ((m : Int) * 256) = ((m * 256 : Nat) : Int) := by omega
  have ew : IntKind.u64.wrap (c.toNat : Int) = ((c.toNat : Nat) : Int) := by rw [IntKind.wrap_u64]; omega
  have a1 : m * 256 < 18446744073709551616 := Nat.lt_of_le_of_lt (Nat.le_add_right _ 255) h
  have a2 : c.toNat < 18446744073709551616 := Nat.lt_trans hc (by decide)
  rw [e, ew, u64_or_nat (m * 256) c.toNat a1 a2]
  rw [show m * 256 ||| c.toNat = m * 256 + c.toNat from by
    have := Nat.shiftLeft_add_eq_or_of_lt (i := 8) (show c.toNat < 2 ^ 8 by omega) m
    rw [Nat.shiftLeft_eq] at this
    exact this.symm]
theorem take_snoc (s : ByteArray) (k : Nat) (h : k < s.size) : s.data.toList.take (k + 1) = s.data.toList.take k ++ [s[k]] := by
  rw [List.take_succ_eq_append_getElem (by simpa using h)]; rfl
theorem pow_le8 (k n : Nat) (h : k < n) (h2 : n ≤ 8) : 256 ^ k ≤ 72057594037927936 := by
  have : 256 ^ k ≤ 256 ^ 7 := Nat.pow_le_pow_right (by omega) (by omega)
  simpa using this

theorem get_ok (s : ByteArray) (a n : Nat) (w : World) (hs : s.size ≤ maxLen) (h1 : 1 ≤ n) (h2 : n ≤ 8) (h : a + n ≤ s.size) :
    Calls Tryz.prog 78 #[.string s, .int .i64 a, .int .i64 n] w fun e w' => e = .returned (.tuple #[.int .u64 (num (s.extract a (a + n)).data.toList : Nat), .int .i64 0]) ∧ w' = w := by
  obtain ⟨p, hp⟩ : ∃ p, p = s.extract a (a + n) := ⟨_, rfl⟩
  have hps : p.size = n := by rw [hp, ByteArray.size_extract]; omega
  rw [← hp]
  have HP : Hid (p = s.extract a (a + n)) := hp
  clear hp
  go_enter Tryz.func78, Tryz.ntmps78
  go_wp2_with (first | (go_at_call 83; refine (width_ok _ _ (by omega) (by omega)).mono ?_; rintro e w' ⟨rfl, rfl⟩) | (go_at_call 85; refine (piece_ok s a n _ hs h).mono ?_; rintro e w' ⟨rfl, rfl⟩; rw [← HP.out]))
  go_loop [11, 31] (fun v i => ∃ k : Nat, k ≤ n ∧ i = .int .i64 k ∧ v = .int .u64 (num (p.data.toList.take k) : Nat)) (fun _ i => n - (intOf i).toNat)
  case atStart => exact ⟨0, Nat.zero_le _, rfl, rfl⟩
  case round =>
    obtain ⟨k, hk, rfl, rfl⟩ := hrel
    by_cases hlt : k < n
    · have hb := num_lt (p.data.toList.take k)
      have hsn := num_snoc (p.data.toList.take k) (p[k]'(by omega))
      rw [← take_snoc p k (by omega)] at hsn
      have HS : Hid (num (p.data.toList.take (k + 1)) = num (p.data.toList.take k) * 256 + (p[k]'(by omega)).toNat) := hsn
      clear hsn
      have hl : (p.data.toList.take k).length = k := by rw [List.length_take, size_toList]; omega
      have hpw := pow_le8 k n hlt h2
      rw [hl] at hb
      generalize num (p.data.toList.take k) = m at hb HS ⊢
      have hm : m < 72057594037927936 := by omega
      clear hb hpw hl
      go_wp2
      all_goals
        go_round
        case rel => exact ⟨k + 1, by omega, by go_num, by rw [HS.out, or_byte m _ (by omega)]⟩
        case measure => simp [intOf]; omega
    · have hkn : p.data.toList.take k = p.data.toList := List.take_of_length_le (by rw [size_toList]; omega)
      rw [hkn]
      clear hkn
      go_wp2
      go_ret2
      exact ⟨rfl, rfl⟩

end Go.Proofs.YtljhgehlaehgnaaGreatDoor
namespace Go.Proofs.YtljhgehlaehgnaaGreatDoor
open Go.RowKit Go.Sort

theorem part_bs (l : List UInt8) (a n : Nat) : ((bs l).extract a (a + n)).data.toList = (l.drop a).take n := by
  rw [extract_toList, bs_toList, Nat.add_sub_cancel_left]
theorem number_ok (l : List UInt8) (a n : Nat) (w : World) (hl : l.length ≤ 10000) (h1 : 1 ≤ n) (h2 : n ≤ 8) (h : a + n ≤ l.length) :
    Calls Tryz.prog 71 #[.string (bs l), .int .i64 a, .int .i64 n] w fun e w' => e = .returned (.int .u64 (num ((l.drop a).take n) : Nat)) ∧ w' = w := by
  have C := get_ok (bs l) a n w (by rw [bs_size]; unfold maxLen; omega) h1 h2 (by rw [bs_size]; exact h)
  rw [part_bs] at C
  have C' := hide C
  clear C
  generalize num ((l.drop a).take n) = m at *
  generalize bs l = s at *
  go_enter Tryz.func71, Tryz.ntmps71
  go_wp2_with fail
  refine (unhide C').mono ?_
  rintro e w1 ⟨rfl, rfl⟩
  go_wp2_with fail
  go_ret
  exact ⟨rfl, rfl⟩
set_option maxRecDepth 100000 in
theorem read_at (s : ByteArray) (n0 n1 n2 n3 n4 : Nat) (w : World) (h0 : n0 < 65536) (h2 : n2 < 4294967296) (h4 : n4 < 4294967296)
    (c0 : Hid (∀ W, Calls Tryz.prog 71 #[.string s, .int .i64 6, .int .i64 2] W fun e W' => e = .returned (.int .u64 n0) ∧ W' = W))
    (c1 : Hid (∀ W, Calls Tryz.prog 71 #[.string s, .int .i64 8, .int .i64 6] W fun e W' => e = .returned (.int .u64 n1) ∧ W' = W))
    (c2 : Hid (∀ W, Calls Tryz.prog 71 #[.string s, .int .i64 14, .int .i64 4] W fun e W' => e = .returned (.int .u64 n2) ∧ W' = W))
    (c3 : Hid (∀ W, Calls Tryz.prog 71 #[.string s, .int .i64 18, .int .i64 6] W fun e W' => e = .returned (.int .u64 n3) ∧ W' = W))
    (c4 : Hid (∀ W, Calls Tryz.prog 71 #[.string s, .int .i64 24, .int .i64 4] W fun e W' => e = .returned (.int .u64 n4) ∧ W' = W)) :
    Calls Tryz.prog 55 #[.string s] w fun e w' => e = .returned (.agg #[.int .i64 n0, .int .u64 n1, .int .u32 n2, .int .u64 n3, .int .u32 n4]) ∧ Below w.heap.size w w' := by
  have e0 : IntKind.i64.wrap (n0 : Int) = (n0 : Int) := by rw [IntKind.wrap_i64]; omega
  have e0' : wrap64 (n0 : Int) = (n0 : Int) := wrap64_id (by omega) (by omega)
  have e2 : IntKind.u32.wrap (n2 : Int) = (n2 : Int) := by rw [IntKind.wrap_u32]; omega
  have e4 : IntKind.u32.wrap (n4 : Int) = (n4 : Int) := by rw [IntKind.wrap_u32]; omega
  clear h0 h2 h4
  go_enter Tryz.func55, Tryz.ntmps55
  go_wp2_with fail
  refine (unhide c0 _).mono ?_
  rintro e w1 ⟨rfl, rfl⟩
  go_wp2_with fail
  refine (unhide c1 _).mono ?_
  rintro e w1 ⟨rfl, rfl⟩
  go_wp2_with fail
  refine (unhide c2 _).mono ?_
  rintro e w1 ⟨rfl, rfl⟩
  go_wp2_with fail
  refine (unhide c3 _).mono ?_
  rintro e w1 ⟨rfl, rfl⟩
  go_wp2_with fail
  refine (unhide c4 _).mono ?_
  rintro e w1 ⟨rfl, rfl⟩
  clear c0 c1 c2 c3 c4
  go_wp2_with fail
  refine bodyPost_ret ?_ rfl ⟨rfl, alloc_below _ _⟩
  exact results_cell_row rfl _ _ w.heap.size 35 _ _ _ rfl (heap_last w _ _ rfl) Tryz.underlying35 rfl (by kernel_rfl)
theorem take_len (l : List UInt8) (a n : Nat) (h : a + n ≤ l.length) : ((l.drop a).take n).length = n := by rw [List.length_take, List.length_drop]; omega
theorem Ar.of_fits (l : List UInt8) (h : 28 ≤ l.length) : (Ar.of l).fits := by
  have h0 := num_two_lt _ (take_len l 6 2 (by omega))
  have h1 := num_lt ((l.drop 8).take 6)
  have h2 := num_four_lt _ (take_len l 14 4 (by omega))
  have h3 := num_lt ((l.drop 18).take 6)
  have h4 := num_four_lt _ (take_len l 24 4 (by omega))
  rw [take_len l 8 6 (by omega), pow6] at h1
  rw [take_len l 18 6 (by omega), pow6] at h3
  unfold Ar.of Ar.fits
  simp only
  exact ⟨by omega, by omega, h2, by omega, h4⟩
theorem read_any (l : List UInt8) (w : World) (h : 28 ≤ l.length) (hl : l.length ≤ 10000) :
    Calls Tryz.prog 55 #[.string (bs l)] w fun e w' => e = .returned (Ar.of l).val ∧ Below w.heap.size w w' :=
  read_at (bs l) _ _ _ _ _ w (num_two_lt _ (take_len l 6 2 (by omega))) (num_four_lt _ (take_len l 14 4 (by omega))) (num_four_lt _ (take_len l 24 4 (by omega)))
    (hide fun W => number_ok l 6 2 W hl (by decide) (by decide) (by omega)) (hide fun W => number_ok l 8 6 W hl (by decide) (by decide) (by omega)) (hide fun W => number_ok l 14 4 W hl (by decide) (by decide) (by omega))
    (hide fun W => number_ok l 18 6 W hl (by decide) (by decide) (by omega)) (hide fun W => number_ok l 24 4 W hl (by decide) (by decide) (by omega))
/-- what Parse tells -/
def ParseTells (s : ByteArray) (a : Ar) (c : Int) (w : World) : Prop := Calls Tryz.prog 40 #[.string s] w fun e w' => e = .returned (.tuple #[a.val, .int .i64 c]) ∧ Below w.heap.size w w'
theorem parse_short (s : ByteArray) (w : World) (h : s.size < 28) : ParseTells s .none 50 w := by
  unfold ParseTells
  go_enter Tryz.func40, Tryz.ntmps40
  go_wp2
  refine bodyPost_ret ?_ rfl ⟨rfl, alloc_below _ _⟩
  exact results_row2 rfl _ _ w.heap.size 35 _ _ _ _ rfl rfl (heap_last w _ _ rfl) Tryz.underlying35 rfl (by kernel_rfl)
theorem parse_head (s : ByteArray) (w : World) (h : 28 ≤ s.size) (hl : s.size ≤ 10000) (hp : Lib.hasPrefix s.data.toList [0, 1, 8, 0, 6, 4] = false) : ParseTells s .none 51 w := by
  unfold ParseTells
  have C := hide fun W => lib_strings_HasPrefix s ⟨#[0, 1, 8, 0, 6, 4]⟩ W
  simp only at C
  rw [hp] at C
  go_enter Tryz.func40, Tryz.ntmps40
  go_wp2_with fail
  refine (unhide C _).mono ?_
  rintro e w1 ⟨rfl, rfl⟩
  go_wp2_with fail
  refine bodyPost_ret ?_ rfl ⟨rfl, alloc_below _ _⟩
  exact results_row2 rfl _ _ w.heap.size 35 _ _ _ _ rfl rfl (heap_last w _ _ rfl) Tryz.underlying35 rfl (by kernel_rfl)
set_option maxRecDepth 100000 in
theorem parse_bad (s : ByteArray) (op : Int) (q i t j : Nat) (c : Int) (w : World) (h : 28 ≤ s.size) (hl : s.size ≤ 10000) (hp : Lib.hasPrefix s.data.toList [0, 1, 8, 0, 6, 4] = true) (hc : (c != 0) = true)
    (R : Hid (∀ W, Calls Tryz.prog 55 #[.string s] W fun e W' => e = .returned (.agg #[.int .i64 op, .int .u64 q, .int .u32 i, .int .u64 t, .int .u32 j]) ∧ Below W.heap.size W W'))
    (K : Hid (∀ W, Calls Tryz.prog 17 #[.agg #[.int .i64 op, .int .u64 q, .int .u32 i, .int .u64 t, .int .u32 j]] W fun e W' => e = .returned (.int .i64 c) ∧ Below W.heap.size W W')) : ParseTells s .none c w := by
  unfold ParseTells
  have C := hide fun W => lib_strings_HasPrefix s ⟨#[0, 1, 8, 0, 6, 4]⟩ W
  simp only at C
  rw [hp] at C
  go_enter Tryz.func40, Tryz.ntmps40
  go_wp2_with fail
  refine (unhide C _).mono ?_
  rintro e w1 ⟨rfl, rfl⟩
  go_wp2_with fail
  refine (unhide R _).mono ?_
  rintro e w2 ⟨rfl, b2⟩
  have hb2 := bthen (alloc_below w _) b2
  have hr2 := Below.row b2 (heap_alloc_new w _)
  clear b2 C R
  go_wp2_with fail
  refine (unhide K _).mono ?_
  rintro e w3 ⟨rfl, b3⟩
  have hb3 := bthen (alloc_then hb2) b3
  have hr3 := Below.row b3 (Below.row (alloc_below w2 _) hr2)
  clear b3 hb2 hr2 K
  obtain ⟨c0, c1, c2, c3, c4, f0, f1, f2, f3, f4⟩ := cells5 hr3
  have HR := hide hr3
  clear hr3
  go_wp2_with fail
  refine bodyPost_ret ?_ rfl ⟨rfl, below5 hb3 (Nat.le_refl _)⟩
  exact results_row2 rfl _ _ w.heap.size 35 _ _ _ _ rfl rfl (set5 (unhide HR)) Tryz.underlying35 rfl (by kernel_rfl)
set_option maxRecDepth 100000 in
theorem parse_good (s : ByteArray) (op : Int) (q i t j : Nat) (w : World) (h : 28 ≤ s.size) (hl : s.size ≤ 10000) (hp : Lib.hasPrefix s.data.toList [0, 1, 8, 0, 6, 4] = true)
    (R : Hid (∀ W, Calls Tryz.prog 55 #[.string s] W fun e W' => e = .returned (.agg #[.int .i64 op, .int .u64 q, .int .u32 i, .int .u64 t, .int .u32 j]) ∧ Below W.heap.size W W'))
    (K : Hid (∀ W, Calls Tryz.prog 17 #[.agg #[.int .i64 op, .int .u64 q, .int .u32 i, .int .u64 t, .int .u32 j]] W fun e W' => e = .returned (.int .i64 0) ∧ Below W.heap.size W W')) : ParseTells s ⟨op, q, i, t, j⟩ 0 w := by
  unfold ParseTells
  have C := hide fun W => lib_strings_HasPrefix s ⟨#[0, 1, 8, 0, 6, 4]⟩ W
  simp only at C
  rw [hp] at C
  go_enter Tryz.func40, Tryz.ntmps40
  go_wp2_with fail
  refine (unhide C _).mono ?_
  rintro e w1 ⟨rfl, rfl⟩
  go_wp2_with fail
  refine (unhide R _).mono ?_
  rintro e w2 ⟨rfl, b2⟩
  have hb2 := bthen (alloc_below w _) b2
  have hr2 := Below.row b2 (heap_alloc_new w _)
  clear b2 C R
  go_wp2_with fail
  refine (unhide K _).mono ?_
  rintro e w3 ⟨rfl, b3⟩
  have hb3 := bthen (alloc_then hb2) b3
  have hr3 := Below.row b3 (Below.row (alloc_below w2 _) hr2)
  have hq3 := Below.row b3 (heap_alloc_new w2 _)
  clear b3 hb2 hr2 K
  obtain ⟨c0, c1, c2, c3, c4, f0, f1, f2, f3, f4⟩ := cells5 hr3
  obtain ⟨k0, k1, k2, k3, k4, _⟩ := cells5 hq3
  have HR := hide hr3
  clear hr3 hq3
  go_wp2_with fail
  refine bodyPost_ret ?_ rfl ⟨rfl, below5 hb3 (Nat.le_refl _)⟩
  exact results_row2 rfl _ _ w.heap.size 35 _ _ _ _ rfl rfl (set5 (unhide HR)) Tryz.underlying35 rfl (by kernel_rfl)
end Go.Proofs.YtljhgehlaehgnaaGreatDoor
namespace Go.Proofs.YtljhgehlaehgnaaGreatDoor
open Go.RowKit Go.Sort

theorem prefix_head (l : List UInt8) (h : 28 ≤ l.length) : Lib.hasPrefix l [0, 1, 8, 0, 6, 4] = decide (l.take 6 = arpHead) := by
  rw [← Lib.hasPrefix_of_take]
  have e : decide (([0, 1, 8, 0, 6, 4] : List UInt8).length ≤ l.length) = true := decide_eq_true (by simp; omega)
  rw [e, Bool.true_and]
  show (l.take 6 == arpHead) = _
  rw [Bool.eq_iff_iff]
  simp
theorem arpParse_any (l : List UInt8) (w : World) (hl : l.length ≤ 10000) : ParseTells (bs l) (Ar.parse l).1 (Ar.parse l).2 w := by
  have hz := bs_size l
  unfold Ar.parse
  by_cases h : l.length < 28
  · rw [if_pos h]; exact parse_short (bs l) w (by omega)
  · rw [if_neg h]
    have hp := prefix_head l (by omega)
    by_cases h1 : l.take 6 = arpHead
    · have hp' : Lib.hasPrefix (bs l).data.toList [0, 1, 8, 0, 6, 4] = true := by rw [bs_toList, hp]; exact decide_eq_true h1
      have R := hide fun W => read_any l W (by omega) hl
      have K := hide fun W => arpCheck_any (Ar.of l) W (Ar.of_fits l (by omega))
      by_cases h2 : (Ar.of l).check = 0
      · rw [if_neg (by simp [h1, h2])]
        rw [h2] at K
        exact parse_good (bs l) _ _ _ _ _ w (by omega) (by omega) hp' R K
      · rw [if_pos (Or.inr h2)]
        have h3 : (Ar.of l).check = 51 := by
          unfold Ar.check at h2 ⊢
          split
          · rfl
          · rename_i h4; rw [if_neg h4] at h2; exact absurd rfl h2
        rw [h3] at K
        exact parse_bad (bs l) _ _ _ _ _ 51 w (by omega) (by omega) hp' rfl R K
    · have hp' : Lib.hasPrefix (bs l).data.toList [0, 1, 8, 0, 6, 4] = false := by rw [bs_toList, hp]; exact decide_eq_false h1
      rw [if_pos (Or.inl h1)]
      exact parse_head (bs l) w (by omega) (by omega) hp'
/-- a frame as the program has it -/
def Fr.val (f : Fr) : Value := .agg #[.int .u64 (f.dst : Int), .int .u64 (f.src : Int), .bool f.has, .int .i64 f.pri, .bool f.dei, .int .i64 f.vid, .int .i64 f.ty, .string (bs f.body)]
/-- a message in a frame -/
def arpFr (d : Nat) (a : Ar) : Fr := ⟨d, a.smac, false, 0, false, 0, 2054, a.bytes⟩
theorem keep5 {W W' : World} {g : Nat} {t : TypeId} {a0 a1 a2 a3 a4 : Value} (b : Below W.heap.size W W') (h : W.heap[g]? = some (.cells #[a0, a1, a2, a3, a4] t (0, 0))) :
    W'.cell? ⟨g, 0, none⟩ = some a0 ∧ W'.cell? ⟨g, 1, none⟩ = some a1 ∧ W'.cell? ⟨g, 2, none⟩ = some a2 ∧ W'.cell? ⟨g, 3, none⟩ = some a3 ∧ W'.cell? ⟨g, 4, none⟩ = some a4 := by
  obtain ⟨c0, c1, c2, c3, c4, _⟩ := cells5 (Below.row b h)
  exact ⟨c0, c1, c2, c3, c4⟩
theorem keepR {W : World} {g : Nat} {t : TypeId} {a0 a1 a2 a3 a4 : Value} (h : W.heap[g]? = some (.cells #[a0, a1, a2, a3, a4] t (0, 0))) :
    W.cell? ⟨g, 0, none⟩ = some a0 ∧ W.cell? ⟨g, 1, none⟩ = some a1 ∧ W.cell? ⟨g, 2, none⟩ = some a2 ∧ W.cell? ⟨g, 3, none⟩ = some a3 ∧ W.cell? ⟨g, 4, none⟩ = some a4 := by
  obtain ⟨c0, c1, c2, c3, c4, _⟩ := cells5 h
  exact ⟨c0, c1, c2, c3, c4⟩
set_option maxRecDepth 100000 in
theorem frame_at (d op s i t j : Int) (R : ByteArray) (w : World)
    (cW : Hid (∀ W, Calls Tryz.prog 68 #[.agg #[.int .i64 op, .int .u64 s, .int .u32 i, .int .u64 t, .int .u32 j]] W fun e W' => e = .returned (.string R) ∧ Below W.heap.size W W')) :
    Calls Tryz.prog 52 #[.int .u64 d, .agg #[.int .i64 op, .int .u64 s, .int .u32 i, .int .u64 t, .int .u32 j]] w fun e w' => e = .returned (.agg #[.int .u64 d, .int .u64 s, .bool false, .int .i64 0, .bool false, .int .i64 0, .int .i64 2054, .string R]) ∧ Below w.heap.size w w' := by
  go_enter Tryz.func52, Tryz.ntmps52
  go_wp2_with fail
  have hA := heap_alloc2_old w (.cells #[.int .i64 op, .int .u64 s, .int .u32 i, .int .u64 t, .int .u32 j] 35) (.cells #[.int .u64 0, .int .u64 0, .bool false, .int .i64 0, .bool false, .int .i64 0, .int .i64 0, .string ⟨#[]⟩] 68)
  have hF := heap_alloc2_new w (.cells #[.int .i64 op, .int .u64 s, .int .u32 i, .int .u64 t, .int .u32 j] 35) (.cells #[.int .u64 0, .int .u64 0, .bool false, .int .i64 0, .bool false, .int .i64 0, .int .i64 0, .string ⟨#[]⟩] 68)
  have hb := alloc_then (o := .cells #[.int .u64 0, .int .u64 0, .bool false, .int .i64 0, .bool false, .int .i64 0, .int .i64 0, .string ⟨#[]⟩] 68) (alloc_below w (.cells #[.int .i64 op, .int .u64 s, .int .u32 i, .int .u64 t, .int .u32 j] 35))
  generalize (w.alloc (.cells #[.int .i64 op, .int .u64 s, .int .u32 i, .int .u64 t, .int .u32 j] 35)).alloc (.cells #[.int .u64 0, .int .u64 0, .bool false, .int .i64 0, .bool false, .int .i64 0, .int .i64 0, .string ⟨#[]⟩] 68) = W2 at *
  have HA := hide hA
  have HF := hide hF
  clear hA hF
  go_region_held3 (fun w' => w'.cell? ⟨w.heap.size, 0, none⟩ = some (.int .i64 op) ∧ w'.cell? ⟨w.heap.size, 1, none⟩ = some (.int .u64 s) ∧ w'.cell? ⟨w.heap.size, 2, none⟩ = some (.int .u32 i) ∧ w'.cell? ⟨w.heap.size, 3, none⟩ = some (.int .u64 t) ∧ w'.cell? ⟨w.heap.size, 4, none⟩ = some (.int .u32 j))
    ((first | (with_reducible exact unhide K5) | (refine keep5 ?_ (unhide HA); (repeat (first | (with_reducible exact Below.refl _ _) | (with_reducible refine Below.drew ?_) | (with_reducible refine bthen ?_ B5))); done)))
    ((go_at_call 68; refine (unhide cW _).mono ?_; rintro e5 w5 ⟨rfl, B5⟩; have r5 := Below.row B5 (unhide HF); obtain ⟨x0, x1, x2, x3, x4, x5, x6, x7, u0, u1, u2, u3, u4, u5, u6, u7⟩ := cells8 r5; have K5 := hide (keepR (W := ((((((((w5.setCell ⟨w.heap.size + 1, 0, none⟩ (.int .u64 d)).setCell ⟨w.heap.size + 1, 1, none⟩ (.int .u64 s)).setCell ⟨w.heap.size + 1, 2, none⟩ (.bool false)).setCell ⟨w.heap.size + 1, 3, none⟩ (.int .i64 0)).setCell ⟨w.heap.size + 1, 4, none⟩ (.bool false)).setCell ⟨w.heap.size + 1, 5, none⟩ (.int .i64 0)).setCell ⟨w.heap.size + 1, 6, none⟩ (.int .i64 2054)).setCell ⟨w.heap.size + 1, 7, none⟩ (.string R))) (other8 (Nat.ne_of_lt (Nat.lt_succ_self _)) (Below.row B5 (unhide HA))))))
  go_wp2_with fail
  refine bodyPost_ret ?_ rfl ⟨rfl, below8 (bthen hb.drew B5) (Nat.le_succ _)⟩
  exact results_cell_row rfl _ _ (w.heap.size + 1) 68 _ _ _ rfl (set8 r5) Tryz.underlying68 rfl (by kernel_rfl)
theorem frame_any (d : Nat) (a : Ar) (w : World) (h : a.fits) (ho : 0 ≤ a.op) : Calls Tryz.prog 52 #[.int .u64 d, a.val] w fun e w' => e = .returned (arpFr d a).val ∧ Below w.heap.size w w' :=
  frame_at d a.op a.smac a.sip a.tmac a.tip (bs a.bytes) w (hide fun W => written_any a W h ho)
/-- the message that asks -/
def askAr (mac ip want : Nat) : Ar := ⟨1, mac, ip, 0, want⟩
/-- the message that tells -/
def tellAr (a : Ar) (mac : Nat) : Ar := ⟨2, mac, a.tip, a.smac, a.sip⟩
set_option maxRecDepth 100000 in
theorem tell_op (op s i t j m : Int) (w : World) (h : (op != 1) = true) :
    Calls Tryz.prog 38 #[.agg #[.int .i64 op, .int .u64 s, .int .u32 i, .int .u64 t, .int .u32 j], .int .u64 m] w fun e w' => e = .returned (.tuple #[.agg #[.int .u64 0, .int .u64 0, .bool false, .int .i64 0, .bool false, .int .i64 0, .int .i64 0, .string ⟨#[]⟩], .int .i64 51]) ∧ Below w.heap.size w w' := by
  go_enter Tryz.func38, Tryz.ntmps38
  go_wp2_with fail
  refine bodyPost_ret ?_ rfl ⟨rfl, alloc_then (alloc_below _ _)⟩
  exact results_row2 rfl _ _ (w.heap.size + 1) 68 _ _ _ _ rfl rfl (heap_last _ _ _ (by simp)) Tryz.underlying68 rfl (by kernel_rfl)
set_option maxRecDepth 100000 in
theorem tell_check (op s i t j m c : Int) (w : World) (h : (op != 1) = false) (hc : (c != 0) = true)
    (K : Hid (∀ W, Calls Tryz.prog 17 #[.agg #[.int .i64 op, .int .u64 s, .int .u32 i, .int .u64 t, .int .u32 j]] W fun e W' => e = .returned (.int .i64 c) ∧ Below W.heap.size W W')) :
    Calls Tryz.prog 38 #[.agg #[.int .i64 op, .int .u64 s, .int .u32 i, .int .u64 t, .int .u32 j], .int .u64 m] w fun e w' => e = .returned (.tuple #[.agg #[.int .u64 0, .int .u64 0, .bool false, .int .i64 0, .bool false, .int .i64 0, .int .i64 0, .string ⟨#[]⟩], .int .i64 51]) ∧ Below w.heap.size w w' := by
  go_enter Tryz.func38, Tryz.ntmps38
  go_wp2_with fail
  refine (unhide K _).mono ?_
  rintro e w1 ⟨rfl, b1⟩
  have hb := bthen (alloc_then (alloc_below w _)) b1
  have hr := Below.row b1 (heap_alloc2_new w _ _)
  clear b1 K
  obtain ⟨c0, c1, c2, c3, c4, c5, c6, c7, f0, f1, f2, f3, f4, f5, f6, f7⟩ := cells8 hr
  have HR := hide hr
  clear hr
  go_wp2_with fail
  refine bodyPost_ret ?_ rfl ⟨rfl, below8 hb (Nat.le_succ _)⟩
  exact results_row2 rfl _ _ (w.heap.size + 1) 68 _ _ _ _ rfl rfl (set8 (unhide HR)) Tryz.underlying68 rfl (by kernel_rfl)
set_option maxRecDepth 100000 in
theorem tell_own (op s i t j m : Int) (w : World) (h : (op != 1) = false)
    (K : Hid (∀ W, Calls Tryz.prog 17 #[.agg #[.int .i64 op, .int .u64 s, .int .u32 i, .int .u64 t, .int .u32 j]] W fun e W' => e = .returned (.int .i64 0) ∧ Below W.heap.size W W'))
    (O : Hid (∀ W, Calls Tryz.prog 29 #[.int .u64 m] W fun e W' => e = .returned (.bool false) ∧ W' = W)) :
    Calls Tryz.prog 38 #[.agg #[.int .i64 op, .int .u64 s, .int .u32 i, .int .u64 t, .int .u32 j], .int .u64 m] w fun e w' => e = .returned (.tuple #[.agg #[.int .u64 0, .int .u64 0, .bool false, .int .i64 0, .bool false, .int .i64 0, .int .i64 0, .string ⟨#[]⟩], .int .i64 51]) ∧ Below w.heap.size w w' := by
  go_enter Tryz.func38, Tryz.ntmps38
  go_wp2_with fail
  refine (unhide K _).mono ?_
  rintro e w1 ⟨rfl, b1⟩
  have hb := bthen (alloc_then (alloc_below w _)) b1
  have hr := Below.row b1 (heap_alloc2_new w _ _)
  clear b1 K
  obtain ⟨c0, c1, c2, c3, c4, c5, c6, c7, f0, f1, f2, f3, f4, f5, f6, f7⟩ := cells8 hr
  have HR := hide hr
  clear hr
  go_wp2_with fail
  refine (unhide O _).mono ?_
  rintro e w2 ⟨rfl, rfl⟩
  clear O
  go_wp2_with fail
  refine bodyPost_ret ?_ rfl ⟨rfl, below8 hb (Nat.le_succ _)⟩
  exact results_row2 rfl _ _ (w.heap.size + 1) 68 _ _ _ _ rfl rfl (set8 (unhide HR)) Tryz.underlying68 rfl (by kernel_rfl)
set_option maxRecDepth 100000 in
theorem tell_good (op s i t j m : Int) (R : ByteArray) (w : World) (h : (op != 1) = false)
    (K : Hid (∀ W, Calls Tryz.prog 17 #[.agg #[.int .i64 op, .int .u64 s, .int .u32 i, .int .u64 t, .int .u32 j]] W fun e W' => e = .returned (.int .i64 0) ∧ Below W.heap.size W W'))
    (O : Hid (∀ W, Calls Tryz.prog 29 #[.int .u64 m] W fun e W' => e = .returned (.bool true) ∧ W' = W))
    (cF : Hid (∀ W, Calls Tryz.prog 52 #[.int .u64 s, .agg #[.int .i64 2, .int .u64 m, .int .u32 j, .int .u64 s, .int .u32 i]] W fun e W' => e = .returned (.agg #[.int .u64 s, .int .u64 m, .bool false, .int .i64 0, .bool false, .int .i64 0, .int .i64 2054, .string R]) ∧ Below W.heap.size W W')) :
    Calls Tryz.prog 38 #[.agg #[.int .i64 op, .int .u64 s, .int .u32 i, .int .u64 t, .int .u32 j], .int .u64 m] w fun e w' => e = .returned (.tuple #[.agg #[.int .u64 s, .int .u64 m, .bool false, .int .i64 0, .bool false, .int .i64 0, .int .i64 2054, .string R], .int .i64 0]) ∧ Below w.heap.size w w' := by
  go_enter Tryz.func38, Tryz.ntmps38
  go_wp2_with fail
  refine (unhide K _).mono ?_
  rintro e w1 ⟨rfl, b1⟩
  have hb := bthen (alloc_then (alloc_below w _)) b1
  have hr := Below.row b1 (heap_alloc2_new w _ _)
  have hq := Below.row b1 (heap_alloc2_old w _ _)
  clear b1 K
  obtain ⟨k0, k1, k2, k3, k4, _⟩ := cells5 hq
  clear hq
  have HR := hide hr
  clear hr
  go_wp2_with fail
  refine (unhide O _).mono ?_
  rintro e w2 ⟨rfl, rfl⟩
  clear O
  go_wp2_with fail
  refine (unhide cF _).mono ?_
  rintro e w3 ⟨rfl, b3⟩
  have hb3 := bthen hb b3
  have hr3 := Below.row b3 (unhide HR)
  clear b3 cF k0 k1 k2 k3 k4 hb HR
  obtain ⟨c0, c1, c2, c3, c4, c5, c6, c7, f0, f1, f2, f3, f4, f5, f6, f7⟩ := cells8 hr3
  have HR := hide hr3
  clear hr3
  go_wp2_with fail
  refine bodyPost_ret ?_ rfl ⟨rfl, below8 hb3 (Nat.le_succ _)⟩
  exact results_row2 rfl _ _ (w.heap.size + 1) 68 _ _ _ _ rfl rfl (set8 (unhide HR)) Tryz.underlying68 rfl (by kernel_rfl)
/-- what Tell tells -/
def tells (a : Ar) (m : Nat) : Fr × Int := if a.op = 1 ∧ a.check = 0 ∧ ownH m = true then (arpFr a.smac (tellAr a m), 0) else (Fr.none, 51)
theorem tell_any (a : Ar) (m : Nat) (w : World) (h : a.fits) (hm : m < 18446744073709551616) :
    Calls Tryz.prog 38 #[a.val, .int .u64 m] w fun e w' => e = .returned (.tuple #[(tells a m).1.val, .int .i64 (tells a m).2]) ∧ Below w.heap.size w w' := by
  have K := fun W => arpCheck_any a W h
  have O := fun W => own_any m W hm
  unfold tells
  by_cases h1 : a.op = 1
  · by_cases h2 : a.check = 0
    · rw [h2] at K
      by_cases h3 : ownH m = true
      · rw [h3] at O
        rw [if_pos ⟨h1, h2, h3⟩]
        exact tell_good a.op a.smac a.sip a.tmac a.tip m (bs (tellAr a m).bytes) w (by rw [h1]; rfl) (hide K) (hide O) (hide fun W => frame_any a.smac (tellAr a m) W ⟨by unfold tellAr; simp, hm, h.2.2.2.2, h.2.1, h.2.2.1⟩ (by unfold tellAr; simp))
      · have h4 : ownH m = false := by simpa using h3
        rw [h4] at O
        rw [if_neg (fun q => h3 q.2.2)]
        exact tell_own a.op a.smac a.sip a.tmac a.tip m w (by rw [h1]; rfl) (hide K) (hide O)
    · rw [if_neg (fun q => h2 q.2.1)]
      exact tell_check a.op a.smac a.sip a.tmac a.tip m a.check w (by rw [h1]; rfl) (by simpa using h2) (hide K)
  · rw [if_neg (fun q => h1 q.1)]
    exact tell_op a.op a.smac a.sip a.tmac a.tip m w (by simpa using h1)
end Go.Proofs.YtljhgehlaehgnaaGreatDoor
namespace Go.Proofs.YtljhgehlaehgnaaGreatDoor
open Go.RowKit Go.Sort

set_option maxRecDepth 100000 in
theorem of_type (d s : Int) (has : Bool) (pri : Int) (dei : Bool) (vid ty : Int) (b : ByteArray) (w : World) (h : (ty != 2054) = true) :
    Calls Tryz.prog 27 #[.agg #[.int .u64 d, .int .u64 s, .bool has, .int .i64 pri, .bool dei, .int .i64 vid, .int .i64 ty, .string b]] w fun e w' => e = .returned (.tuple #[Ar.none.val, .bool false]) ∧ Below w.heap.size w w' := by
  go_enter Tryz.func27, Tryz.ntmps27
  go_wp2_with fail
  refine bodyPost_ret ?_ rfl ⟨rfl, alloc_then (alloc_below _ _)⟩
  exact results_row2 rfl _ _ (w.heap.size + 1) 35 _ _ _ _ rfl rfl (heap_last _ _ _ (by simp)) Tryz.underlying35 rfl (by kernel_rfl)
set_option maxRecDepth 100000 in
theorem of_at (d s : Int) (has : Bool) (pri : Int) (dei : Bool) (vid ty : Int) (b : ByteArray) (op q i t j c : Int) (z : Bool) (w : World) (h : (ty != 2054) = false) (hc : (c == 0) = z)
    (P : Hid (∀ W, Calls Tryz.prog 40 #[.string b] W fun e W' => e = .returned (.tuple #[.agg #[.int .i64 op, .int .u64 q, .int .u32 i, .int .u64 t, .int .u32 j], .int .i64 c]) ∧ Below W.heap.size W W')) :
    Calls Tryz.prog 27 #[.agg #[.int .u64 d, .int .u64 s, .bool has, .int .i64 pri, .bool dei, .int .i64 vid, .int .i64 ty, .string b]] w fun e w' => e = .returned (.tuple #[.agg #[.int .i64 op, .int .u64 q, .int .u32 i, .int .u64 t, .int .u32 j], .bool z]) ∧ Below w.heap.size w w' := by
  go_enter Tryz.func27, Tryz.ntmps27
  go_wp2_with fail
  refine (unhide P _).mono ?_
  rintro e w1 ⟨rfl, b1⟩
  have hb := bthen (alloc_then (alloc_below w _)) b1
  have hr := Below.row b1 (heap_alloc2_new w _ _)
  have hr2 := Below.row (alloc_below w1 (.cells #[.int .i64 op, .int .u64 q, .int .u32 i, .int .u64 t, .int .u32 j] 35)) hr
  clear b1 P hr
  obtain ⟨c0, c1, c2, c3, c4, f0, f1, f2, f3, f4⟩ := cells5 hr2
  have HR := hide hr2
  clear hr2
  go_wp2_with fail
  refine bodyPost_ret ?_ rfl ⟨rfl, below5 (alloc_then hb) (Nat.le_succ _)⟩
  exact results_row2 rfl _ _ (w.heap.size + 1) 35 _ _ _ _ rfl rfl (set5 (unhide HR)) Tryz.underlying35 rfl (by kernel_rfl)
/-- the message in a frame, and whether there is one -/
def ofFr (f : Fr) : Ar × Bool := if f.ty = 2054 then ((Ar.parse f.body).1, (Ar.parse f.body).2 == 0) else (.none, false)
theorem of_any (f : Fr) (w : World) (hl : f.body.length ≤ 10000) : Calls Tryz.prog 27 #[f.val] w fun e w' => e = .returned (.tuple #[(ofFr f).1.val, .bool (ofFr f).2]) ∧ Below w.heap.size w w' := by
  unfold ofFr
  by_cases h : f.ty = 2054
  · rw [if_pos h]
    exact of_at f.dst f.src f.has f.pri f.dei f.vid f.ty (bs f.body) _ _ _ _ _ _ _ w (by rw [h]; rfl) rfl (hide fun W => arpParse_any f.body W hl)
  · rw [if_neg h]
    exact of_type f.dst f.src f.has f.pri f.dei f.vid f.ty (bs f.body) w (by simpa using h)
end Go.Proofs.YtljhgehlaehgnaaGreatDoor
namespace Go.Proofs.YtljhgehlaehgnaaGreatDoor
open Go.RowKit Go.Sort

theorem fields_arp : Tryz.prog.underlying 35 = some (.struct (Tryz.prog.fieldsOf 35)) := by kernel_rfl
theorem held_arp : Tryz.prog.stoodInHeld 35 = false := by kernel_rfl
theorem same_arp (op s i t j : Int) (W : World) : (binOp .eql 35 (.agg #[.int .i64 op, .int .u64 s, .int .u32 i, .int .u64 t, .int .u32 j]) (.agg #[.int .i64 op, .int .u64 s, .int .u32 i, .int .u64 t, .int .u32 j])).run Tryz.prog W = .ok (.bool true) W := by
  rw [run_eql_struct, run_equalIn_agg _ _ _ _ _ fields_arp held_arp]
  simp [go_sem, Tryz.underlying35]
theorem other_arp (op s i t j : Int) (W : World) : (binOp .neq 35 (.agg #[.int .i64 op, .int .u64 s, .int .u32 i, .int .u64 t, .int .u32 j]) (.agg #[.int .i64 op, .int .u64 s, .int .u32 i, .int .u64 t, .int .u32 j])).run Tryz.prog W = .ok (.bool false) W := by
  rw [run_neq_struct, run_equalIn_agg _ _ _ _ _ fields_arp held_arp]
  simp [go_sem, Tryz.underlying35]
/-- a frame with a message in it has just that message -/
theorem of_arpFr (d : Nat) (a : Ar) (h : a.check = 0) (h3 : a.sip < 4294967296) (h5 : a.tip < 4294967296) : ofFr (arpFr d a) = (a, true) := by
  have e := arp_back a [] h h3 h5
  rw [List.append_nil] at e
  unfold ofFr arpFr
  simp only
  rw [if_pos trivial, e]
  rfl
theorem arpFr_len (d : Nat) (a : Ar) : (arpFr d a).body.length = 28 := Ar.bytes_length a
end Go.Proofs.YtljhgehlaehgnaaGreatDoor
