/-
  The moves of the one address that moved: a map of one list at most; what is read of it, what is stored; an append to such a list. No condition on where the list lies in its row.
-/
import Derived.Test.YtpddbfdgaeldjaaHas11
import Derived.Test.YtpddbfdgaeldjaaMov1
import Derived.Maps.OwnSet
import Derived.ArgAppend
namespace Go.Proofs.Ytpddbfdgaeldjaa
open Go.RowKit Go.Sort

/-- an element of a map, read as itself -/
def RH (v : Value) : Option (DataW Value × List MemPlace) := some (.held v, [])
theorem lawU : Go.Maps.Keyed Try.prog 39 := Go.Maps.int_keyed Try.underlying39
theorem zeroInts (w : World) : (zeroValue 38).run Try.prog w = .ok (.slice none 0 0) w := by kernel_rfl
/-- the moves' map, as it reads: nothing, or one list -/
def mapD (v : Value) : List Int → DataW Value
  | [] => .map []
  | _ :: _ => .map [(.int .u64 281474976710658, .held v)]
theorem keyK : keyOf Try.prog 39 (.int .u64 281474976710658) = some (.int .u64 281474976710658) := Go.Maps.keyOf_int_mk Try.underlying39 (by decide)
/-- numbers in a row of their own: from which cell on, with room for how many -/
def Irw (W : World) (r o c : Nat) (M : List Int) : Prop :=
  M.length ≤ c ∧ c ≤ maxLen ∧ ∃ cur, W.heap[r]? = some (.cells cur 3 (0, 0)) ∧ o + c ≤ cur.size ∧ ∀ j (h : j < M.length), cur[o + j]? = some (.int .i64 M[j])
theorem Irw.irow {W : World} {r o c : Nat} {M : List Int} (h : Irw W r o c M) : Irow W r o M := by
  obtain ⟨_, _, cur, hr, _, hj⟩ := h
  intro j hl
  rw [cell_of_row W r (o + j) _ _ _ hr]
  exact hj j hl
/-- a list as the map has it: nil, or in a row from block B on -/
def Sl (B : Nat) (W : World) (mr : Option Nat) (v : Value) (M : List Int) : Prop :=
  (v = .slice none 0 0 ∧ M = [] ∧ mr = none) ∨ ∃ r o c, v = .slice (some ⟨r, o, none⟩) M.length c ∧ mr = some r ∧ B ≤ r ∧ M ≠ [] ∧ Irw W r o c M
/-- the moves -/
structure Mv (B : Nat) (W : World) (b : Nat) (mr : Option Nat) (v : Value) (M : List Int) : Prop where
  low : B ≤ b
  times : ∀ x ∈ M, 0 ≤ x ∧ x ≤ 1099511627776
  rises : Rises M
  map : W.ownsMap Try.prog 39 RH b 1 (mapD v M)
  sl : Sl B W mr v M
theorem Mv.look {B : Nat} {W : World} {b : Nat} {mr : Option Nat} {v : Value} {M : List Int} (h : Mv B W b mr v M) :
    (Instr.lookup 64 (.map (some b)) (.int .u64 281474976710658) false).run Try.prog W = .ok v W := by
  obtain ⟨u, ps, hrun, hu⟩ := h.map.lookup lawU Try.underlying64 (zeroInts W) (show RH (.slice none 0 0) = some (.held (.slice none 0 0), []) from rfl) keyK
  rw [hrun]
  have e : u = v := by
    rcases h.sl with ⟨rfl, rfl, _⟩ | ⟨r, o, c, hv, _, _, hne, _⟩
    · simp only [RH, Option.some.injEq, Prod.mk.injEq] at hu
      have h1 := hu.1
      have h2 : (mapD (.slice none 0 0) []).atKey (.int .u64 281474976710658) (.held (.slice none 0 0)) = .held (.slice none 0 0) := rfl
      rw [h2] at h1
      exact DataW.held.inj h1
    · cases M with
      | nil => exact absurd rfl hne
      | cons x M =>
        simp only [RH, Option.some.injEq, Prod.mk.injEq] at hu
        have h1 := hu.1
        have h2 : (mapD v (x :: M)).atKey (.int .u64 281474976710658) (.held (.slice none 0 0)) = .held v := by kernel_rfl
        rw [h2] at h1
        exact DataW.held.inj h1
  rw [e]
theorem put_mapD (v v' : Value) (M : List Int) : (mapD v M).put (.int .u64 281474976710658) (.held v') = .map [(.int .u64 281474976710658, .held v')] := by
  cases M <;> rfl
theorem map_store {W : World} {b : Nat} {v : Value} {M : List Int} (h : W.ownsMap Try.prog 39 RH b 1 (mapD v M)) (v' : Value) (M' : List Int) (hne : M' ≠ []) :
    ∃ W', (Instr.mapUpdate 64 (.map (some b)) (.int .u64 281474976710658) v').run Try.prog W = .ok () W' ∧ W'.ownsMap Try.prog 39 RH b 1 (mapD v' M') ∧ W.grownBy W' (some b) := by
  obtain ⟨W', hrun, ho, hg⟩ := h.update lawU Try.underlying64 (by unfold maxLen; omega) keyK (show RH v' = some (.held v', []) from rfl)
  refine ⟨W', hrun, ?_, hg⟩
  rw [put_mapD] at ho
  cases M' with
  | nil => exact absurd rfl hne
  | cons x M' =>
    obtain ⟨es, clock, hb, F, _, hD⟩ := ho
    refine ⟨es, clock, hb, F, ?_, hD⟩
    have hl := congrArg (fun D : DataW Value => Go.Maps.size D) hD
    simp only [Go.Maps.size, length_sorted, List.length_map, List.length_cons, List.length_nil, Array.length_toList] at hl
    omega
theorem infoInt : (Try.prog.info? 3).map (fun i => (i.zero, i.size, i.bytes)) = some (some (.int .i64 0), 1, 8) := by kernel_rfl
theorem Sl.base {B : Nat} {W : World} {mr : Option Nat} {v : Value} {M : List Int} (h : Sl B W mr v M) : ∀ r, mr = some r → B ≤ r ∧ ∃ cur, W.heap[r]? = some (.cells cur 3 (0, 0)) := by
  intro r hr
  rcases h with ⟨_, _, h0⟩ | ⟨r', o, c, _, h0, hB, _, _, _, cur, hc, _⟩
  · rw [h0] at hr; cases hr
  · rw [h0] at hr
    obtain rfl := Option.some.inj hr
    exact ⟨hB, cur, hc⟩
/-- a list, with one number more behind it -/
theorem append_run {B : Nat} {W : World} {mr : Option Nat} {v : Value} {M : List Int} (h : Sl B W mr v M) (hB : B ≤ W.heap.size) (x : Int) (s : Nat) (hs : W.cell? ⟨s, 0, none⟩ = some (.int .i64 x)) (hl : M.length ≤ 64) (ty : TypeId) :
    ∃ r o c W', (Builtin.append_ #[38, 38] ty #[v, .slice (some ⟨s, 0, none⟩) 1 1]).run Try.prog W = .ok (.slice (some ⟨r, o, none⟩) (M.length + 1) c) W' ∧ Irw W' r o c (M ++ [x]) ∧ B ≤ r ∧ W.grownBy W' mr ∧ (mr = some r ∨ W.heap.size ≤ r) := by
  obtain ⟨i0, hi0, hz0, hz1, hz2⟩ := info_parts infoInt
  have hnews : ∀ j u, [Value.int .i64 x][j]? = some u → W.cell? ((⟨s, 0, none⟩ : Addr).add j) = some u := by
    intro j u hj
    match j, hj with
    | 0, hj => rw [← hj]; exact hs
  have grow : ∀ (w' : World) (v' : Value), w'.ownsRow W.heap.size 3 1 v' (M.length + 1) (M.map (Value.int .i64) ++ [.int .i64 x]) → W.grownBy w' none → ∃ r o c, v' = .slice (some ⟨r, o, none⟩) (M.length + 1) c ∧ Irw w' r o c (M ++ [x]) ∧ B ≤ r ∧ W.grownBy w' mr ∧ (mr = some r ∨ W.heap.size ≤ r) := by
    intro w' v' ho hg
    obtain ⟨hlen, ⟨rfl, h0⟩ | ⟨r, c, cur, rfl, h1, h2, h3, h4, h5, h6⟩⟩ := ho
    · simp at h0
    · refine ⟨r, 0, c, rfl, ⟨by simpa using h3, h4, cur, h2, by omega, fun j hj => ?_⟩, Nat.le_trans hB h1, ⟨hg.os, hg.tape, hg.output, hg.size, fun k hk _ => hg.block k hk (by simp)⟩, .inr h1⟩
      rw [Nat.zero_add]
      have hj' : j < M.length + 1 := by simpa using hj
      have e1 : cur[j]? = cur.toList[j]? := by simp
      have e2 : cur.toList[j]? = (cur.toList.take ((M.length + 1) * 1))[j]? := by rw [List.getElem?_take_of_lt (by omega)]
      rw [e1, e2, h6]
      have e3 : M.map (Value.int .i64) ++ [.int .i64 x] = (M ++ [x]).map (Value.int .i64) := by simp
      rw [e3, List.getElem?_map, List.getElem?_eq_getElem hj]
      rfl
  rcases h with ⟨rfl, rfl, rfl⟩ | ⟨r, o, c, rfl, rfl, hr, hne, hlc, hcm, cur, hcur, hoc, hat⟩
  · obtain ⟨v', w', hrun, r1, r2, _⟩ := run_append_own (P := Try.prog) W W.heap.size 38 ty 3 i0 _ 1 8 Try.underlying38 hi0 hz0 hz1 hz2 rfl (by decide) (.slice none 0 0) 0 [] (World.ownsRow_nil W _ 3 1) ⟨s, 0, none⟩ 1 1 [.int .i64 x] rfl hnews (by simp [Value.oneCell']) (by unfold maxLen; omega) (by omega) (Nat.le_refl _)
    obtain ⟨r, o, c, rfl, hq⟩ := grow w' v' (by simpa using r1) ⟨r2.os, r2.tape, r2.output, r2.size, fun k hk hn => r2.block k hk hn⟩
    exact ⟨r, o, c, w', hrun, hq⟩
  · have hlt := lt_of_row hcur
    by_cases hroom : M.length + 1 ≤ c
    · have hcell : ∀ j, j < 1 → (W.cell? ⟨r, o + M.length * i0.size + j, none⟩).isSome = true := by
        intro j hj
        obtain rfl : j = 0 := by omega
        rw [cell_of_row W r _ _ _ _ hcur, hz1, Nat.mul_one, Nat.add_zero, Array.getElem?_eq_getElem (by omega)]
        rfl
      have hrun := run_append_room_cells (P := Try.prog) W 38 ty 3 i0 Try.underlying38 hi0 r o M.length c ⟨s, 0, none⟩ 1 1 [.int .i64 x] (by rw [hz1]; rfl) hnews (by simp [Value.oneCell']) hroom hcell
        (fun j _ => frozen_of_row W r _ _ _ hcur)
      rw [hz1, Nat.mul_one] at hrun
      have hW : W.setCells r (o + M.length) [.int .i64 x] = W.setCell ⟨r, o + M.length, none⟩ (.int .i64 x) := rfl
      rw [hW] at hrun
      refine ⟨r, o, c, _, hrun, ⟨by simpa using hroom, hcm, _, heap_setCell_same W r (o + M.length) cur 3 _ hcur, by simpa using hoc, fun j hj => ?_⟩, hr, ⟨rfl, rfl, rfl, by simp [World.setCell], fun k hk hn => heap_setCell_other W _ k _ (fun e => hn (by rw [e]))⟩, .inl rfl⟩
      have hj' : j < M.length + 1 := by simpa using hj
      by_cases hjl : j < M.length
      · rw [List.getElem_append_left hjl, ← hat j hjl, Array.getElem?_setIfInBounds_ne (by omega)]
      · obtain rfl : j = M.length := by omega
        rw [List.getElem_append_right (Nat.le_refl _)]
        simp only [Nat.sub_self, List.getElem_cons_zero]
        rw [Array.getElem?_setIfInBounds_self_of_lt (by omega)]
    · obtain ⟨v', w', hrun, r1, r2⟩ := run_append_arg_grows (P := Try.prog) W 38 ty 3 i0 _ 1 8 Try.underlying38 hi0 hz0 hz1 hz2 rfl (by decide) ⟨r, o, none⟩ M.length c (M.map (Value.int .i64)) (by simp)
        (fun j u hj => by
          have hjl : j < M.length := by have := (List.getElem?_eq_some_iff.1 hj).1; simpa using this
          rw [Addr.add_lit, cell_of_row W r (o + j) _ _ _ hcur, hat j hjl]
          rw [List.getElem?_map, List.getElem?_eq_getElem hjl] at hj
          exact hj)
        ⟨s, 0, none⟩ 1 1 [.int .i64 x] rfl hnews (by omega) (by unfold maxLen; omega) (by omega)
      obtain ⟨r', o', c', rfl, hq⟩ := grow w' v' r1 r2
      exact ⟨r', o', c', w', hrun, hq⟩
end Go.Proofs.Ytpddbfdgaeldjaa
