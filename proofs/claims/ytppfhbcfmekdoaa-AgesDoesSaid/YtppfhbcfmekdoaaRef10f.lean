/-
  The contracts of gangwayref10's Put and Fix.
-/
import Derived.Test.YtppfhbcfmekdoaaAgPlain4
namespace Go.Proofs.Ytppfhbcfmekdoaa
open Go.RowKit Go.Sort

theorem tells_mono {B B' : Nat} {w : World} {v : Value} {L : List Ent} (h : Tells B w v L) (hb : B' ≤ B) : Tells B' w v L := by
  obtain ⟨hl, hx | ⟨k, cap, cur, hv, h1, hrest⟩⟩ := h
  · exact ⟨hl, .inl hx⟩
  · exact ⟨hl, .inr ⟨k, cap, cur, hv, by omega, hrest⟩⟩
/-- an entry appended to a table's row -/
theorem wp_add {ops : Array Oper} {rest : List Oper} {o : Oper} {a : Act} {Q : Exit → Act → World → Prop} (hgd : o.guard = none) (s x : Operand)
    (ho : o.op = .call { callee := .builtin .append, args := #[s, x], argTypes := #[37, 37] }) (B : Nat) (W : World) (v : Value) (n : Nat) (M : List Ent) (E : Ent) (hn : M.length = n) (hs : a.eval s = v) (hown : Tells B W v M) (hB : B ≤ W.heap.size)
    (hx : a.eval x = .slice (some ⟨W.heap.size, 0, none⟩) 1 1) (hl : n ≤ 4096)
    (h : ∀ r c W', Hid ((W.alloc (.cells #[.int .u64 E.key, .int .u64 E.val, .int .i64 E.at_, .bool E.fix] 41)).grownBy W' v.ownBlock ∧ Tells B W' (.slice (some ⟨r, 0, none⟩) (n + 1) c) (M ++ [E]) ∧ Nb W v.ownBlock (some r)) → wpList Try.prog ops Q rest (a.put o.dst (.slice (some ⟨r, 0, none⟩) (n + 1) c)) W') :
    wpList Try.prog ops Q (o :: rest) a (W.alloc (.cells #[.int .u64 E.key, .int .u64 E.val, .int .i64 E.at_, .bool E.fix] 41)) := by
  obtain ⟨i0, hi0, hz0, hz1, hz2⟩ := info_parts Try.infoEntry
  subst hn
  have hb := alloc_below W (.cells #[.int .u64 E.key, .int .u64 E.val, .int .i64 E.at_, .bool E.fix] 41)
  have hown' := owns_below hown hb
  refine wpList_append_own_at _ hgd s x 37 ho B 41 i0 _ 4 32 Try.underlying37 hi0 hz0 hz1 hz2 rfl (by decide) v M.length (cs M) hs hown' ⟨W.heap.size, 0, none⟩ 1 1 E.cs hx rfl (src4e W E) (cs4_one E) (by unfold maxLen; omega) (by omega) (Nat.le_trans hB hb.size) ?_
  intro v' w' ho' hg hnil hat
  obtain ⟨r, c, rfl⟩ := tells_shape ho' (fun e => by have := (hnil.1 e).2; omega)
  refine h r c w' ⟨hg, ?_, ?_⟩
  · show World.ownsRow _ _ _ _ _ _ _
    rw [List.length_append, cs_append, cs_one]
    exact ho'
  · rcases hat with hat | hat
    · exact .inl hat
    · refine .inr fun k hk => ?_
      rw [show (Value.slice (some ⟨r, 0, none⟩) (M.length + 1) c).ownBlock = some r from rfl] at hat
      rw [hat] at hk
      have e := Option.some.inj hk
      simp at e
      omega
/-- a row that holds other entries now -/
theorem rturned_row {B : Nat} {w w1 w2 : World} {g r n c : Nat} {room life : Int} {L L' : List Ent} (T : RTab B w g room life (.slice (some ⟨r, 0, none⟩) n c) L) (b : Below w.heap.size w w1) (hg : w1.grownBy w2 (some r))
    (ho : Tells B w2 (.slice (some ⟨r, 0, none⟩) n c) L') (hs : Uniq L') (hk : Oks L') (hf : (L'.length : Int) ≤ room) : RTurned B g room life (.slice (some ⟨r, 0, none⟩) n c) L' w w2 := by
  have hgr : some g ≠ some r := fun e => T.apart e.symm
  have r1 := Below.row b T.row
  have r2 : w2.heap[g]? = _ := (hg.block g (lt_of_row r1) hgr).trans r1
  refine ⟨_, ⟨r2, ho, T.low, T.apart, hs, hk, hf, T.room1, T.room2, T.life1, T.life2⟩, ⟨hg.os.trans b.os, hg.tape.trans b.tape, hg.output.trans b.output, Nat.le_trans b.size hg.size, fun k hk _ hkr => ?_⟩, .inl rfl⟩
  exact (hg.block k (Nat.lt_of_lt_of_le hk b.size) hkr).trans (b.block k hk)
/-- behind the append: the table holds one more -/
theorem rturned_add {B : Nat} {w w1 w2 : World} {g r n c : Nat} {room life : Int} {v : Value} {M : List Ent} {E : Ent} (T : RTab B w g room life v M) (b : Below w.heap.size w w1) (hg : w1.grownBy w2 v.ownBlock) (ho : Tells B w2 (.slice (some ⟨r, 0, none⟩) n c) (M ++ [E]))
    (hn : Nb w v.ownBlock (some r)) (hs : Uniq (M ++ [E])) (hk : E.ok) (hf : (M.length : Int) < room) : RTurned B g room life v (M ++ [E]) w (w2.setCell ⟨g, 0, none⟩ (.slice (some ⟨r, 0, none⟩) n c)) :=
  rturned_of T b hg (.inl rfl) ho hn hs (oks_add T.oks hk) (by simp; omega)
theorem rput_no (B : Nat) (M : List Ent) (v : Value) (g : Nat) (room life key val now : Int) (w : World) (T : RTab B w g room life v M) (h : timeB now = false) :
    Calls Try.prog 30 #[.pointer (some ⟨g, 0, none⟩), .int .u64 key, .int .u64 val, .int .i64 now] w fun e w' => e = .returned (.int .i64 1) ∧ RTurned B g room life v M w w' := by
  have C := hide (fun W => rtime_any now W)
  rw [h] at C
  have HT := hide T
  clear T h
  go_enter Try.func30, Try.ntmps30
  go_wp2_with fail
  refine (unhide C _).mono ?_
  rintro e w2 ⟨rfl, rfl⟩
  go_wp2_with fail
  go_ret
  exact ⟨rfl, rturned_same (unhide HT) (Below.refl _ _)⟩
/-- four cells of the row, behind a struct's store -/
theorem erow_put {w : World} {r : Nat} {A D : List Ent} {x y : Ent} {R : List Value} (h : w.heap[r]? = some (.cells (cs (A ++ y :: D) ++ R).toArray 41 (0, 0))) :
    ((((w.setCell ⟨r, A.length * 4, none⟩ (.int .u64 x.key)).setCell ⟨r, A.length * 4 + 1, none⟩ (.int .u64 x.val)).setCell ⟨r, A.length * 4 + 2, none⟩ (.int .i64 x.at_)).setCell ⟨r, A.length * 4 + 3, none⟩ (.bool x.fix)).heap[r]? = some (.cells (cs (A ++ x :: D) ++ R).toArray 41 (0, 0)) := by
  have h' : w.heap[r]? = some (.cells (cs A ++ .int .u64 y.key :: .int .u64 y.val :: .int .i64 y.at_ :: .bool y.fix :: (cs D ++ R)).toArray 41 (0, 0)) := by
    rw [h, cs_append, cs_cons]; simp [Ent.cs]
  rw [put4 (cs_length A) h', cs_append, cs_cons]
  simp [Ent.cs]
theorem erow_cells {w : World} {r : Nat} {A D : List Ent} {y : Ent} {R : List Value} (h : w.heap[r]? = some (.cells (cs (A ++ y :: D) ++ R).toArray 41 (0, 0))) :
    w.cell? ⟨r, A.length * 4, none⟩ = some (.int .u64 y.key) ∧ w.cell? ⟨r, A.length * 4 + 1, none⟩ = some (.int .u64 y.val) ∧ w.cell? ⟨r, A.length * 4 + 2, none⟩ = some (.int .i64 y.at_) ∧ w.cell? ⟨r, A.length * 4 + 3, none⟩ = some (.bool y.fix) ∧
    w.frozen? ⟨r, A.length * 4, none⟩ = false ∧ w.frozen? ⟨r, A.length * 4 + 1, none⟩ = false ∧ w.frozen? ⟨r, A.length * 4 + 2, none⟩ = false ∧ w.frozen? ⟨r, A.length * 4 + 3, none⟩ = false := by
  refine mid4 (t := 41) (X := cs A) (Z := cs D ++ R) (cs_length A) ?_
  rw [h, cs_append, cs_cons]; simp [Ent.cs]
set_option maxHeartbeats 1000000 in
set_option maxRecDepth 100000 in
theorem rput_fixed (B : Nat) (A D : List Ent) (y : Ent) (v : Value) (g : Nat) (room life key val now : Int) (w : World) (T : RTab B w g room life v (A ++ y :: D)) (h : timeB now = true) (hk : y.key = key) (hf : y.fix = true) :
    Calls Try.prog 30 #[.pointer (some ⟨g, 0, none⟩), .int .u64 key, .int .u64 val, .int .i64 now] w fun e w' => e = .returned (.int .i64 100) ∧ RTurned B g room life v (A ++ y :: D) w w' := by
  have C := hide (fun W => rtime_any now W)
  rw [h] at C
  have hA : ∀ x ∈ A, x.key ≠ key := fun x hx => by rw [← hk]; exact (List.pairwise_append.1 T.uniq).2.2 x hx y (by simp)
  have P := hide (rplace_some B A D y v g room life key w T hk hA)
  have HT := hide T
  rcases T.own.parts with ⟨_, h⟩ | ⟨r, cap, R, rfl, hB, hr, hcap, hm, hR⟩
  · simp at h
  have hc := T.cells.1
  have hgl := T.lt
  have hl := T.len
  have e3 := (erow_cells hr).2.2.2.1
  rw [hf] at e3
  have hrl := lt_of_row hr
  have hlt : A.length < (A ++ y :: D).length := by simp
  have hge : ¬ (A.length : Int) < 0 := by omega
  have hge2 : decide ((0 : Int) ≤ (A.length : Int)) = true := decide_eq_true (by omega)
  clear T h hf hA hk hr
  generalize (A ++ y :: D).length = n at *
  generalize A.length = i at *
  go_enter Try.func30, Try.ntmps30
  go_wp2_with fail
  refine (unhide C _).mono ?_
  rintro e w2 ⟨rfl, rfl⟩
  go_wp2_with fail
  refine (unhide P).mono ?_
  rintro e w3 ⟨rfl, rfl⟩
  go_wp2_with fail
  go_ret
  exact ⟨rfl, rturned_same (unhide HT) (Below.refl _ _)⟩
set_option maxHeartbeats 1000000 in
set_option maxRecDepth 100000 in
theorem rput_old (B : Nat) (A D : List Ent) (y : Ent) (v : Value) (g : Nat) (room life key val now : Int) (w : World) (T : RTab B w g room life v (A ++ y :: D)) (h : timeB now = true) (hk : y.key = key) (hf : y.fix = false) (hx : (Ent.mk key val now false).ok) :
    Calls Try.prog 30 #[.pointer (some ⟨g, 0, none⟩), .int .u64 key, .int .u64 val, .int .i64 now] w fun e w' => e = .returned (.int .i64 0) ∧ RTurned B g room life v (A ++ ⟨key, val, now, false⟩ :: D) w w' := by
  have C := hide (fun W => rtime_any now W)
  rw [h] at C
  have hA : ∀ x ∈ A, x.key ≠ key := fun x hx => by rw [← hk]; exact (List.pairwise_append.1 T.uniq).2.2 x hx y (by simp)
  have P := hide (rplace_some B A D y v g room life key w T hk hA)
  rcases T.own.parts with ⟨_, h⟩ | ⟨r, cap, R, rfl, hB, hr, hcap, hm, hR⟩
  · simp at h
  have hc := T.cells.1
  have hgl := T.lt
  have hl := T.len
  obtain ⟨e0, e1, e2, e3, z0, z1, z2, z3⟩ := erow_cells hr
  rw [hf] at e3
  have hrl := lt_of_row hr
  have hlt : A.length < (A ++ y :: D).length := by simp
  have hge : ¬ (A.length : Int) < 0 := by omega
  have hge2 : decide ((0 : Int) ≤ (A.length : Int)) = true := decide_eq_true (by omega)
  have hgr : g ≠ r := fun e => T.apart (by rw [e]; rfl)
  have hlen : (A ++ (Ent.mk key val now false) :: D).length = (A ++ y :: D).length := by simp
  have fin := hide (rturned_row (L' := A ++ ⟨key, val, now, false⟩ :: D) T (Below.refl _ _) (put4_grown w r (A.length * 4) (.int .u64 key) (.int .u64 val) (.int .i64 now) (.bool false))
    (by rw [← hlen]; exact tells_of hB (erow_put (x := ⟨key, val, now, false⟩) hr) (by rw [hlen]; exact hcap) hm (by rw [hlen]; exact hR))
    (uniq_put T.uniq hk) (oks_put T.oks hx) (by rw [hlen]; exact T.fit))
  clear T h hf hA hk hr hlen hx hR
  generalize (A ++ y :: D).length = n at *
  generalize A.length = i at *
  go_enter Try.func30, Try.ntmps30
  go_wp2_with fail
  refine (unhide C _).mono ?_
  rintro e w2 ⟨rfl, rfl⟩
  go_wp2_with fail
  refine (unhide P).mono ?_
  rintro e w3 ⟨rfl, rfl⟩
  go_wp2_with fail
  go_ret
  exact ⟨rfl, unhide fin⟩
end Go.Proofs.Ytppfhbcfmekdoaa
