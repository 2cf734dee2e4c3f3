/-
  gangwaylaw11.begun: both tables, empty, of a room of 1 to 8, a life of 1 to 32, 0 to 3 moves in a window of 1 to 16.
-/
import Derived.Test.YtpddbfdgaeldjaaRef11
namespace Go.Proofs.Ytpddbfdgaeldjaa
open Go.RowKit Go.Sort

theorem i64_and3 (n : Int) : bits .and .i64 n 3 = n % 4 := by
  have h : (BitVec.ofInt 64 3).toNat = 2 ^ 2 - 1 := by decide
  have key : (BitVec.ofInt 64 n &&& BitVec.ofInt 64 3).toNat = (n % ((2 ^ 64 : Nat) : Int)).toNat % 2 ^ 2 := by
    rw [BitVec.toNat_and, BitVec.toNat_ofInt, h, Nat.and_two_pow_sub_one_eq_mod]
  show IntKind.i64.wrap ((BitVec.ofInt 64 n &&& BitVec.ofInt 64 3).toNat : Nat) = n % 4
  rw [key, IntKind.wrap_i64]
  omega
theorem i64_and15 (n : Int) : bits .and .i64 n 15 = n % 16 := by
  have h : (BitVec.ofInt 64 15).toNat = 2 ^ 4 - 1 := by decide
  have key : (BitVec.ofInt 64 n &&& BitVec.ofInt 64 15).toNat = (n % ((2 ^ 64 : Nat) : Int)).toNat % 2 ^ 4 := by
    rw [BitVec.toNat_and, BitVec.toNat_ofInt, h, Nat.and_two_pow_sub_one_eq_mod]
  show IntKind.i64.wrap ((BitVec.ofInt 64 n &&& BitVec.ofInt 64 15).toNat : Nat) = n % 16
  rw [key, IntKind.wrap_i64]
  omega
theorem u64_and3 (n : Int) : bits .and .u64 n 3 = n % 4 := by
  have h : (BitVec.ofInt 64 3).toNat = 2 ^ 2 - 1 := by decide
  have key : (BitVec.ofInt 64 n &&& BitVec.ofInt 64 3).toNat = (n % ((2 ^ 64 : Nat) : Int)).toNat % 2 ^ 2 := by
    rw [BitVec.toNat_and, BitVec.toNat_ofInt, h, Nat.and_two_pow_sub_one_eq_mod]
  show IntKind.u64.wrap ((BitVec.ofInt 64 n &&& BitVec.ofInt 64 3).toNat : Nat) = n % 4
  rw [key, IntKind.wrap_u64]
  omega
set_option maxHeartbeats 1000000 in
set_option maxRecDepth 100000 in
theorem begun_any {w W : World} (a b c d : Int) (bl : Below w.heap.size w W) :
    Calls Try.prog 11 #[.agg #[.int .i64 a, .int .i64 b, .int .i64 c, .int .i64 d]] W fun e W' => ∃ g q, e = .returned (.tuple #[.pointer (some ⟨g, 0, none⟩), .pointer (some ⟨q, 0, none⟩)]) ∧ (∃ p bb, Fdb w g p bb none (.slice none 0 0) (c % 4) (1 + d % 16) (1 + a % 8) (1 + b % 32) [] [] W') ∧ (∃ r, W'.heap[q]? = some (.cells #[.pointer (some ⟨r, 0, none⟩), .int .i64 (1 + a % 8), .int .i64 (1 + b % 32), .int .i64 (c % 4), .int .i64 (1 + d % 16), .slice none 0 0] 52 (0, 0))) ∧ Below W.heap.size W W' := by
  have ha := i64_and7 a
  have hb := i64_and31 b
  have hc := i64_and3 c
  have hd := i64_and15 d
  obtain ⟨a', ea⟩ : ∃ a', a % 8 = a' := ⟨_, rfl⟩
  obtain ⟨b', eb⟩ : ∃ b', b % 32 = b' := ⟨_, rfl⟩
  obtain ⟨c', ec⟩ : ∃ c', c % 4 = c' := ⟨_, rfl⟩
  obtain ⟨d', ed⟩ : ∃ d', d % 16 = d' := ⟨_, rfl⟩
  have a0 : 0 ≤ a' ∧ a' < 8 := by omega
  have b0 : 0 ≤ b' ∧ b' < 32 := by omega
  have c0 : 0 ≤ c' ∧ c' < 4 := by omega
  have d0 : 0 ≤ d' ∧ d' < 16 := by omega
  rw [ea] at ha ⊢
  rw [eb] at hb ⊢
  rw [ec] at hc ⊢
  rw [ed] at hd ⊢
  have hk : keepOk (1 + a') (1 + b') c' (1 + d') := by unfold keepOk newOk; omega
  have bl2 := alloc_then (o := .cells #[.int .i64 (1 + a'), .int .i64 (1 + b'), .int .i64 c', .int .i64 (1 + d')] 23) (alloc_below W (.cells #[.int .i64 a, .int .i64 b, .int .i64 c, .int .i64 d] 23))
  have C0 := hide (fnew_ok (w := w) (1 + a') (1 + b') c' (1 + d') (bthen bl bl2) hk)
  have C1 := hide (fun W => qnew_ok (1 + a') (1 + b') c' (1 + d') W hk)
  have R0 := hide (heap_alloc2_new W (.cells #[.int .i64 a, .int .i64 b, .int .i64 c, .int .i64 d] 23) (.cells #[.int .i64 (1 + a'), .int .i64 (1 + b'), .int .i64 c', .int .i64 (1 + d')] 23))
  have B0 := hide bl2
  clear ea eb ec ed hk bl bl2
  go_enter Try.func11, Try.ntmps11
  go_wp2_with fail
  refine (unhide C0).mono ?_
  rintro e w1 ⟨g, rfl, ⟨p, bb, h1⟩, b1, _⟩
  obtain ⟨s0, s1, s2, s3, _⟩ := cells4 (Below.row b1 (unhide R0))
  have H1 := hide h1
  have B1 := hide (bthen (unhide B0) b1)
  clear h1 b1 C0 R0 B0
  go_wp2_with fail
  refine (unhide C1 _).mono ?_
  rintro e w2 ⟨q, r, rfl, b2, rq, _⟩
  have H2 := hide ((unhide H1).below b2)
  have B2 := hide (bthen (unhide B1) b2)
  have RQ := hide rq
  clear b2 rq C1 s0 s1 s2 s3 H1
  go_wp2_with fail
  go_ret2
  exact ⟨g, q, rfl, ⟨p, bb, unhide H2⟩, ⟨r, unhide RQ⟩, unhide B2⟩
/-- the walk's law at an append to a row of numbers -/
theorem append_irw {W : World} {r o c : Nat} {M : List Int} (h : Irw W r o c M) (x : Int) (s : Nat) (hs : W.cell? ⟨s, 0, none⟩ = some (.int .i64 x)) (hl : M.length ≤ 64) (ty : TypeId) :
    ∃ r' o' c' W', (Builtin.append_ #[38, 38] ty #[.slice (some ⟨r, o, none⟩) M.length c, .slice (some ⟨s, 0, none⟩) 1 1]).run Try.prog W = .ok (.slice (some ⟨r', o', none⟩) (M.length + 1) c') W' ∧ Irw W' r' o' c' (M ++ [x]) ∧ W.grownBy W' (some r) ∧ (r' = r ∨ W.heap.size ≤ r') := by
  obtain ⟨i0, hi0, hz0, hz1, hz2⟩ := info_parts infoInt
  obtain ⟨hlc, hcm, cur, hcur, hoc, hat⟩ := h
  have hnews : ∀ j u, [Value.int .i64 x][j]? = some u → W.cell? ((⟨s, 0, none⟩ : Addr).add j) = some u := by
    intro j u hj
    match j, hj with
    | 0, hj => rw [← hj]; exact hs
  by_cases hroom : M.length + 1 ≤ c
  · have hcell : ∀ j, j < 1 → (W.cell? ⟨r, o + M.length * i0.size + j, none⟩).isSome = true := by
      intro j hj
      obtain rfl : j = 0 := by omega
      rw [cell_of_row W r _ _ _ _ hcur, hz1, Nat.mul_one, Nat.add_zero, Array.getElem?_eq_getElem (by omega)]
      rfl
    have hrun := run_append_room_cells (P := Try.prog) W 38 ty 3 i0 Try.underlying38 hi0 r o M.length c ⟨s, 0, none⟩ 1 1 [.int .i64 x] (by rw [hz1]; rfl) hnews (by simp [Value.oneCell']) hroom hcell
      (fun j _ => frozen_of_row W r _ _ _ hcur)
    rw [hz1, Nat.mul_one] at hrun
    have hW : W.setCells r (o + M.length) [.int .i64 x] = W.setCell ⟨r, o + M.length, none⟩ (.int .i64 x) := rfl
    rw [hW] at hrun
    refine ⟨r, o, c, _, hrun, ⟨by simpa using hroom, hcm, _, heap_setCell_same W r (o + M.length) cur 3 _ hcur, by simpa using hoc, fun j hj => ?_⟩, ⟨rfl, rfl, rfl, by simp [World.setCell], fun k hk hn => heap_setCell_other W _ k _ (fun e => hn (by rw [e]))⟩, .inl rfl⟩
    have hj' : j < M.length + 1 := by simpa using hj
    by_cases hjl : j < M.length
    · rw [List.getElem_append_left hjl, ← hat j hjl, Array.getElem?_setIfInBounds_ne (by omega)]
    · obtain rfl : j = M.length := by omega
      rw [List.getElem_append_right (Nat.le_refl _)]
      simp only [Nat.sub_self, List.getElem_cons_zero]
      rw [Array.getElem?_setIfInBounds_self_of_lt (by omega)]
  · obtain ⟨v', w', hrun, r1, r2⟩ := run_append_arg_grows (P := Try.prog) W 38 ty 3 i0 _ 1 8 Try.underlying38 hi0 hz0 hz1 hz2 rfl (by decide) ⟨r, o, none⟩ M.length c (M.map (Value.int .i64)) (by simp)
      (fun j u hj => by
        have hjl : j < M.length := by have := (List.getElem?_eq_some_iff.1 hj).1; simpa using this
        rw [Addr.add_lit, cell_of_row W r (o + j) _ _ _ hcur, hat j hjl]
        rw [List.getElem?_map, List.getElem?_eq_getElem hjl] at hj
        exact hj)
      ⟨s, 0, none⟩ 1 1 [.int .i64 x] rfl hnews (by omega) (by unfold maxLen; omega) (by omega)
    obtain ⟨hlen, ⟨rfl, h0⟩ | ⟨r', c', cur', rfl, h1, h2, h3, h4, h5, h6⟩⟩ := r1
    · simp at h0
    · refine ⟨r', 0, c', w', hrun, ⟨by simpa using h3, h4, cur', h2, by omega, fun j hj => ?_⟩, ⟨r2.os, r2.tape, r2.output, r2.size, fun k hk _ => r2.block k hk (by simp)⟩, .inr h1⟩
      rw [Nat.zero_add]
      have hj' : j < M.length + 1 := by simpa using hj
      have e1 : cur'[j]? = cur'.toList[j]? := by simp
      have e2 : cur'.toList[j]? = (cur'.toList.take ((M.length + 1) * 1))[j]? := by rw [List.getElem?_take_of_lt (by omega)]
      rw [e1, e2, h6]
      have e3 : M.map (Value.int .i64) ++ [.int .i64 x] = (M ++ [x]).map (Value.int .i64) := by simp
      rw [e3, List.getElem?_map, List.getElem?_eq_getElem hj]
      rfl
theorem wp_more {W : World} {r o c : Nat} {M : List Int} (h : Irw W r o c M) (x : Int) (s : Nat) (hs : W.cell? ⟨s, 0, none⟩ = some (.int .i64 x)) (hl : M.length ≤ 64) (n : Nat) (hn : M.length = n)
    {ops : Array Oper} {rest : List Oper} {q : Oper} {a : Act} {Q : Exit → Act → World → Prop} (hg : q.guard = none) (sv xv : Operand) (hop : q.op = Op.call { callee := Callee.builtin Builtin.append, args := #[sv, xv], argTypes := #[38, 38] })
    (hsv : a.eval sv = .slice (some ⟨r, o, none⟩) n c) (hxv : a.eval xv = .slice (some ⟨s, 0, none⟩) 1 1)
    (hK : ∀ r' o' c' W', Irw W' r' o' c' (M ++ [x]) → W.grownBy W' (some r) → (r' = r ∨ W.heap.size ≤ r') → wpList Try.prog ops Q rest (a.put q.dst (.slice (some ⟨r', o', none⟩) (n + 1) c')) W') : wpList Try.prog ops Q (q :: rest) a W := by
  subst hn
  refine wpList_plain hg fun K hK' => ?_
  obtain ⟨r', o', c', W', hrun, h1, h2, h3⟩ := append_irw h x s hs hl q.type
  unfold Oper.wp
  simp [execOp, hop, resolve, invoke, builtin, hsv, hxv, hrun, Result.andThen]
  exact hK' _ _ (hK r' o' c' W' h1 h2 h3)
end Go.Proofs.Ytpddbfdgaeldjaa
