/-
  What a round of FdbMoves' script keeps, and what becomes of the address that is heard in it.
-/
import Derived.Test.YtpddbfdgaeldjaaSame11
import Derived.Test.YtpddbfdgaeldjaaBegun11
import Derived.Test.YtpddbfdgaeldjaaMovPlain11
import Derived.Test.YtpddbfdgaeldjaaRow11
namespace Go.Proofs.Ytpddbfdgaeldjaa.fdbMoves
open Go.ChangeShapes Go.WideShapes Go.ChangeAt Go.RowKit Go.Deep Go.Sort

/-- the table's entries: none, or the address' one, at a port from 1 to 4 -/
def One (now : Int) (L : List Ent) : Prop := L = [] ∨ ∃ v t, L = [⟨281474976710658, v, t, false⟩] ∧ (1 ≤ v ∧ v ≤ 4) ∧ 0 ≤ t ∧ t ≤ now
theorem One.later {now now' : Int} {L : List Ent} (h : One now L) (hn : now ≤ now') : One now' L := by
  rcases h with h | ⟨v, t, h1, h2, h3, h4⟩
  · exact .inl h
  · exact .inr ⟨v, t, h1, h2, h3, by omega⟩
/-- what a script's round keeps -/
structure Inv (w : World) (g p bb q : Nat) (most : Nat) (win room life : Int) (qr : Array Value) (i : Nat) (now : Int) (A : List Int) (r o c : Nat) (W : World) : Prop where
  fdb : ∃ L mr v, Fdb w g p bb mr v most win room life L (A.drop (A.length - most)) W ∧ One now L ∧ some r ≠ mr
  row : Irw W r o c A
  base : w.heap.size ≤ r
  box : W.heap[q]? = some (.cells qr 52 (0, 0))
  wide : Wide most win A
  le : ∀ y ∈ A, 0 ≤ y ∧ y ≤ now
  now0 : 0 ≤ now
  now1 : now ≤ 3 * i
  len : A.length ≤ i
/-- what holds no numbers of a row's, and is no map and no part of a table, stays where numbers are put in a row of the caller's own -/
theorem fdb_grown {w : World} {g p b r : Nat} {mr : Option Nat} {v : Value} {most win room life : Int} {L : List Ent} {M : List Int} {W W' : World} (hF : Fdb w g p b mr v most win room life L M W) (hg : W.grownBy W' (some r)) (hr : ∃ cur, W.heap[r]? = some (.cells cur 3 (0, 0))) (hb : w.heap.size ≤ r) (hne : some r ≠ mr) : Fdb w g p b mr v most win room life L M W' := by
  obtain ⟨cur, hr⟩ := hr
  have keep : ∀ k o, W.heap[k]? = some o → k ≠ r → W'.heap[k]? = some o := fun k o h hk => (hg.block k (lt_of_row h) (fun e => hk (Option.some.inj e))).trans h
  have other : ∀ k cs t fr, t ≠ 3 → W.heap[k]? = some (.cells cs t fr) → k ≠ r := fun k cs t fr ht h e => by
    rw [e, hr] at h
    have := Option.some.inj h
    simp at this
    exact ht this.2.1.symm
  obtain ⟨bl, v0, T⟩ := hF.has
  obtain ⟨es, cl, hbm, rest⟩ := hF.mv.map
  have hbr : b ≠ r := fun e => by rw [e, hr] at hbm; cases hbm
  refine ⟨keep _ _ hF.row (other _ _ _ _ (by decide) hF.row), ⟨bl.grown hg bl.size (fun k hk => by obtain rfl := Option.some.inj hk; exact hb), v0, ⟨keep _ _ T.row (other _ _ _ _ (by decide) T.row), ?_, T.low, T.apart, T.srt, T.oks, T.fit, T.room1, T.room2, T.life1, T.life2⟩⟩, ⟨hF.mv.low, hF.mv.times, hF.mv.rises, ⟨es, cl, keep _ _ hbm hbr, rest⟩, ?_⟩, hF.low⟩
  · obtain ⟨hl, hx | ⟨k, cap, cur', rfl, a1, a2, a3⟩⟩ := T.own
    · exact ⟨hl, .inl hx⟩
    · exact ⟨hl, .inr ⟨k, cap, cur', rfl, a1, keep _ _ a2 (other _ _ _ _ (by decide) a2), a3⟩⟩
  · rcases hF.mv.sl with h | ⟨r', o', c', h1, h2, h3, h4, h5⟩
    · exact .inl h
    · exact .inr ⟨r', o', c', h1, h2, h3, h4, h5.row fun _ h => keep _ _ h (fun e => hne (by rw [h2, e]))⟩
theorem put_one (room life v : Int) (L : List Ent) (now : Int) (h : One now L) (hr : 1 ≤ room) (h0 : 0 ≤ now) (h1 : now ≤ 1099511627776) : putP room life L ⟨281474976710658, v, now, false⟩ = (0, [⟨281474976710658, v, now, false⟩]) := by
  have ht : timeB now = true := by simp [timeB, h0, h1]
  rcases h with rfl | ⟨u, t, rfl, _⟩
  · unfold putP
    have hrm : roomed room [] = some [] := by
      unfold roomed
      rw [if_pos (by simp; omega)]
    simp [ht, kept, noted, look, errFull, hrm, ins]
  · unfold putP
    simp [ht, look, ins]
theorem told_one (life v now : Int) (hl : 1 ≤ life) (h0 : 0 ≤ now) (h1 : now ≤ 1099511627776) : told life now (look [⟨281474976710658, v, now, false⟩] 281474976710658) = some ⟨281474976710658, v, now, false⟩ := by
  have ht : timeB now = true := by simp [timeB, h0, h1]
  have : now < now + life := by omega
  simp [told, look, ht, oldE, this]
theorem told_was (life now : Int) (L : List Ent) (t0 : Int) (h : One t0 L) : told life now (look L 281474976710658) = none ∨ ∃ v t, L = [⟨281474976710658, v, t, false⟩] ∧ (1 ≤ v ∧ v ≤ 4) ∧ told life now (look L 281474976710658) = some ⟨281474976710658, v, t, false⟩ := by
  rcases h with rfl | ⟨v, t, rfl, h1, _⟩
  · exact .inl rfl
  · cases ho : timeB now && !oldE life now ⟨281474976710658, v, t, false⟩ with
    | false => exact .inl (by simp only [told, look, List.find?_cons, beq_self_eq_true, Option.filter, ho]; rfl)
    | true => exact .inr ⟨v, t, rfl, h1, by simp only [told, look, List.find?_cons, beq_self_eq_true, Option.filter, ho]; rfl⟩
/-- what becomes of an address that is heard: its place is noted -/
def Noted (w : World) (g p bb : Nat) (mr : Option Nat) (v : Value) (most win room life : Int) (L : List Ent) (M : List Int) (P now wt : Int) : Prop :=
  ∀ W, Fdb w g p bb mr v most win room life L M W → Calls Try.prog 14 #[.pointer (some ⟨g, 0, none⟩), .int .i64 1, .int .u64 2, .agg #[.int .i64 0, .int .u32 P], .int .i64 now] W fun e W' => e = .returned (.int .i64 wt) ∧ Fdb w g p bb mr v most win room life [⟨281474976710658, P, now, false⟩] M W' ∧ StaysM mr W W'
/-- it stays where it was -/
def Stuck (w : World) (g p bb : Nat) (mr : Option Nat) (v : Value) (most win room life : Int) (L : List Ent) (M : List Int) (P now : Int) : Prop :=
  ∀ W, Fdb w g p bb mr v most win room life L M W → Calls Try.prog 14 #[.pointer (some ⟨g, 0, none⟩), .int .i64 1, .int .u64 2, .agg #[.int .i64 0, .int .u32 P], .int .i64 now] W fun e W' => e = .returned (.int .i64 4) ∧ Below W.heap.size W W'
/-- it moves -/
def Went (w : World) (g p bb : Nat) (mr : Option Nat) (v : Value) (most : Nat) (win room life : Int) (L : List Ent) (A : List Int) (P now : Int) : Prop :=
  ∀ W, Fdb w g p bb mr v most win room life L (A.drop (A.length - most)) W → Calls Try.prog 14 #[.pointer (some ⟨g, 0, none⟩), .int .i64 1, .int .u64 2, .agg #[.int .i64 0, .int .u32 P], .int .i64 now] W fun e W' => e = .returned (.int .i64 3) ∧ ∃ mr', (∃ v', Fdb w g p bb mr' v' most win room life [⟨281474976710658, P, now, false⟩] ((A ++ [now]).drop ((A ++ [now]).length - most)) W') ∧ StaysM mr W W' ∧ Apart mr mr' W
theorem learn_any (w : World) (g p bb : Nat) (mr : Option Nat) (v : Value) (most : Nat) (win room life : Int) (L : List Ent) (A : List Int) (P now t0 : Int) (hP : 1 ≤ P ∧ P ≤ 4) (hL : One t0 L) (hr : 1 ≤ room) (h0 : 0 ≤ now) (h1 : now ≤ 1099511627776) (ht0 : t0 ≤ now) (hm : most ≤ 3) (hx : ∀ y ∈ A, y ≤ now) :
    (∃ (wt wn : Int) (had : Bool), (wt == 3) = false ∧ (wt == 4) = false ∧ (wt != 4) = true ∧ foundO (told life now (look L 281474976710658)) = .tuple #[.agg #[.int .i64 0, .int .u32 wn], .bool had] ∧ Noted w g p bb mr v most win room life L (A.drop (A.length - most)) P now wt) ∨
    (∃ wn : Int, foundO (told life now (look L 281474976710658)) = .tuple #[.agg #[.int .i64 0, .int .u32 wn], .bool true] ∧ Stuck w g p bb mr v most win room life L (A.drop (A.length - most)) P now) ∨
    (∃ wn : Int, (wn == P) = false ∧ foundO (told life now (look L 281474976710658)) = .tuple #[.agg #[.int .i64 0, .int .u32 wn], .bool true] ∧ cnt (A.drop (A.length - most)) now win < most ∧ Went w g p bb mr v most win room life L A P now) := by
  have hput := put_one room life P L now (hL.later ht0) hr h0 h1
  have tgt : Tgt 0 P := .inl ⟨rfl, by omega, by omega⟩
  have nP : 0 ≤ P ∧ P < 4294967296 := by omega
  have vP : 0 * 4294967296 + P = P := by omega
  rcases told_was life now L t0 hL with h | ⟨u, t, rfl, hu, h⟩
  · left
    rw [h]
    exact ⟨2, 0, false, rfl, rfl, rfl, rfl, fun W hF => learn_new (key := 281474976710658) (vid := 1) (mac := 2) (k := 0) (n := P) (now := now) W hF (by omega) nP fx_m12 tgt rfl vP (by rw [h]; rfl) hput rfl⟩
  · have hd : u / 4294967296 = 0 ∧ u % 4294967296 = u := by omega
    have hfo : foundO (told life now (look [⟨281474976710658, u, t, false⟩] 281474976710658)) = .tuple #[.agg #[.int .i64 0, .int .u32 u], .bool true] := by
      rw [h]
      simp only [foundO, hd.1, hd.2]
    by_cases hup : u = P
    · left
      subst hup
      exact ⟨1, u, true, rfl, rfl, rfl, hfo, fun W hF => learn_same (key := 281474976710658) (vid := 1) (mac := 2) (k := 0) (n := u) (now := now) W hF (by omega) nP fx_m12 tgt rfl vP (by rw [h]; rfl) hput rfl⟩
    · right
      have hne : (u != P) = true := by simpa using hup
      have hML := keep_length most A
      by_cases hc : cnt (A.drop (A.length - most)) now win < most
      · right
        refine ⟨u, by simpa using hup, hfo, hc, fun W hF => ?_⟩
        have hq := keep_push most A now (by omega)
        have := learn_moved (vid := 1) (mac := 2) (k := 0) (n := P) (now := now) W hF (by omega) nP fx_m12 tgt rfl vP (by rw [h]; rfl) hne (A.drop (A.length - most)).length rfl (by omega) ⟨h0, h1⟩ hc (by omega) (fun y hy => hx y (List.mem_of_mem_drop hy)) hput
        rw [hq] at this
        exact this
      · left
        exact ⟨u, hfo, fun W hF => learn_held (vid := 1) (mac := 2) (k := 0) (n := P) (now := now) W hF (by omega) nP fx_m12 tgt rfl vP (by rw [h]; rfl) hne (by omega) ⟨h0, h1⟩ (by omega)⟩
theorem Inv.next {w : World} {g p bb q : Nat} {most : Nat} {win room life : Int} {qr : Array Value} {i : Nat} {now now' : Int} {A : List Int} {r o c : Nat} {W W' : World} {mr : Option Nat} (h : Inv w g p bb q most win room life qr i now A r o c W) (hF : ∃ L' v', Fdb w g p bb mr v' most win room life L' (A.drop (A.length - most)) W' ∧ One now' L') (hr : some r ≠ mr) (hq : some q ≠ mr) (s : StaysM mr W W') (h1 : now ≤ now') (h2 : now' ≤ now + 3) :
    Inv w g p bb q most win room life qr (i + 1) now' A r o c W' := by
  obtain ⟨L', v', hF, hO⟩ := hF
  exact ⟨⟨L', mr, v', hF, hO, hr⟩, h.row.row fun _ hc => s _ _ rfl hr hc, h.base, s _ _ rfl hq h.box, h.wide, fun y hy => ⟨(h.le y hy).1, by have := (h.le y hy).2; omega⟩, by have := h.now0; omega, by have := h.now1; omega, by have := h.len; omega⟩
theorem Inv.push {w : World} {g p bb q : Nat} {most : Nat} {win room life : Int} {qr : Array Value} {i : Nat} {now nx : Int} {A : List Int} {r o c r' o' c' : Nat} {W W6 W7 : World} {mr' : Option Nat} (h : Inv w g p bb q most win room life qr i now A r o c W) (hF : ∃ L' v', Fdb w g p bb mr' v' most win room life L' ((A ++ [nx]).drop ((A ++ [nx]).length - most)) W6 ∧ One nx L') (hr : some r ≠ mr') (hq : W6.heap[q]? = some (.cells qr 52 (0, 0))) (hrow : ∃ cur, W6.heap[r]? = some (.cells cur 3 (0, 0)))
    (i7 : Irw W7 r' o' c' (A ++ [nx])) (g7 : W6.grownBy W7 (some r)) (m7 : r' = r ∨ W6.heap.size ≤ r') (hc : cnt (A.drop (A.length - most)) nx win < most) (h1 : now ≤ nx) (h2 : nx ≤ now + 3) :
    Inv w g p bb q most win room life qr (i + 1) nx (A ++ [nx]) r' o' c' W7 := by
  obtain ⟨L', v', hF, hO⟩ := hF
  have hqr : some q ≠ some r := fun e => by
    obtain ⟨cur, hc⟩ := hrow
    rw [Option.some.inj e, hc] at hq
    have := Option.some.inj hq
    simp at this
  have hr' : some r' ≠ mr' := by
    rcases m7 with rfl | h7
    · exact hr
    · intro e
      obtain ⟨_, cur, hcur⟩ := hF.mv.sl.base r' e.symm
      have := lt_of_row hcur
      omega
  have hb' : w.heap.size ≤ r' := by
    rcases m7 with rfl | h7
    · exact h.base
    · exact Nat.le_trans hF.has.1.size h7
  have le' : ∀ y ∈ A, y ≤ nx := fun y hy => by have := (h.le y hy).2; omega
  refine ⟨⟨L', mr', v', fdb_grown hF g7 hrow h.base hr, hO, hr'⟩, i7, hb', (g7.block q (lt_of_row hq) hqr).trans hq, wide_push h.wide nx le' hc, fun y hy => ?_, by have := h.now0; omega, by have := h.now1; omega, by have := h.len; simp; omega⟩
  rcases List.mem_append.1 hy with hy | hy
  · exact ⟨(h.le y hy).1, le' y hy⟩
  · obtain rfl : y = nx := by simpa using hy
    have := h.now0
    omega
end Go.Proofs.Ytpddbfdgaeldjaa.fdbMoves
