/-
  The contracts of ages' small functions: is a number a time, is a state old, may it go, was it put ahead of another one, a state's entry; and of the closures of Expire and Clear.
-/
import Derived.Test.YtljhgehlaehgnaaDoorAg8
namespace Go.Proofs.YtljhgehlaehgnaaDoor
open Go.RowKit Go.Sort

theorem drewN_below {B : Nat} {a W : World} (h : Below B a W) (n : Nat) : Below B a (W.drewN n) := ⟨h.os, h.tape, h.output, h.size, h.block⟩
/-- is a number a time -/
def timeB (n : Int) : Bool := decide (0 ≤ n) && decide (n ≤ 1099511627776)
theorem isTime_any (n : Int) (w : World) : Calls Tryd.prog 24 #[.int .i64 n] w fun e w' => e = .returned (.bool (timeB n)) ∧ w' = w := by
  unfold timeB
  by_cases h1 : 0 ≤ n
  · by_cases h2 : n ≤ 1099511627776
    · rw [decide_eq_true h1, decide_eq_true h2]
      go_enter Tryd.func24, Tryd.ntmps24
      go_wp2
      go_ret
      exact ⟨rfl, rfl⟩
    · rw [decide_eq_true h1, decide_eq_false h2]
      go_enter Tryd.func24, Tryd.ntmps24
      go_wp2
      go_ret
      exact ⟨rfl, rfl⟩
  · rw [decide_eq_false h1]
    go_enter Tryd.func24, Tryd.ntmps24
    go_wp2
    go_ret
    exact ⟨rfl, rfl⟩
/-- is an entry old -/
def oldE (life now : Int) (e : Ent) : Bool := !e.fix && decide (e.at_ + life ≤ now)
set_option maxRecDepth 100000 in
theorem old_any (g : Nat) (life now : Int) (e : Ent) (w : World) (hg : w.cell? ⟨g, 1, none⟩ = some (.int .i64 life)) (he : e.ok) (h1 : 1 ≤ life) (h2 : life ≤ 1099511627776) :
    Calls Tryd.prog 32 #[.pointer (some ⟨g, 0, none⟩), e.st, .int .i64 now] w fun x w' => x = .returned (.bool (oldE life now e)) ∧ Below w.heap.size w w' := by
  obtain ⟨key, val, at_, fix⟩ := e
  have h3 := he.2.2.2.2.1
  have h4 := he.2.2.2.2.2.1
  clear he
  unfold Ent.st oldE
  simp only at h3 h4 ⊢
  have hgl := block_lt_of_cell hg
  have hg' := ((alloc_below w (.cells #[.int .u64 val, .int .i64 at_, .bool fix] 86)).cell (p := ⟨g, 1, none⟩) hgl).trans hg
  have hB := hide (alloc_below w (.cells #[.int .u64 val, .int .i64 at_, .bool fix] 86))
  clear hg
  cases fix with
  | true =>
    go_enter Tryd.func32, Tryd.ntmps32
    go_wp2_with fail
    go_quiet (fail)
    go_wp2_with fail
    go_ret
    exact ⟨rfl, drewN_below (unhide hB) _⟩
  | false =>
    have hw : IntKind.i64.wrap (at_ + life) = at_ + life := by rw [IntKind.wrap_i64]; omega
    by_cases h : at_ + life ≤ now
    · have hd : decide (at_ + life ≤ now) = true := decide_eq_true h
      rw [hd]
      go_enter Tryd.func32, Tryd.ntmps32
      go_wp2_with fail
      go_quiet (fail)
      go_wp2_with fail
      go_ret
      exact ⟨rfl, drewN_below (unhide hB) _⟩
    · have hd : decide (at_ + life ≤ now) = false := decide_eq_false h
      rw [hd]
      go_enter Tryd.func32, Tryd.ntmps32
      go_wp2_with fail
      go_quiet (fail)
      go_wp2_with fail
      go_ret
      exact ⟨rfl, drewN_below (unhide hB) _⟩
theorem loose_any (e : Ent) (w : World) : Calls Tryd.prog 49 #[e.st] w fun x w' => x = .returned (.bool (!e.fix)) ∧ Below w.heap.size w w' := by
  unfold Ent.st
  go_enter Tryd.func49, Tryd.ntmps49
  go_wp2
  go_ret
  exact ⟨rfl, alloc_below _ _⟩
theorem earlier_any (e d : Ent) (w : World) : Calls Tryd.prog 50 #[e.st, d.st] w fun x w' => x = .returned (.bool (decide (e.at_ < d.at_))) ∧ Below w.heap.size w w' := by
  unfold Ent.st
  have hB := hide (alloc_then (o := .cells #[.int .u64 d.val, .int .i64 d.at_, .bool d.fix] 86) (alloc_below w (.cells #[.int .u64 e.val, .int .i64 e.at_, .bool e.fix] 86)))
  obtain ⟨q, hq⟩ : ∃ q, decide (e.at_ < d.at_) = q := ⟨_, rfl⟩
  rw [hq]
  go_enter Tryd.func50, Tryd.ntmps50
  go_wp2
  go_ret
  exact ⟨rfl, unhide hB⟩
theorem entry_any (k : Int) (e : Ent) (w : World) : Calls Tryd.prog 33 #[.int .u64 k, e.st] w fun x w' => x = .returned (.agg #[.int .u64 k, .int .u64 e.val, .int .i64 e.at_, .bool e.fix]) ∧ Below w.heap.size w w' := by
  unfold Ent.st
  go_enter Tryd.func33, Tryd.ntmps33
  go_wp2_with fail
  refine bodyPost_ret (v := .agg #[.int .u64 k, .int .u64 e.val, .int .i64 e.at_, .bool e.fix]) ?_ rfl ⟨rfl, alloc_then (alloc_below _ _)⟩
  exact results_cell_row rfl _ _ (w.heap.size + 1) 82 _ _ _ rfl (heap_alloc2_new w _ _) Tryd.underlying82 rfl (by kernel_rfl)
set_option maxRecDepth 100000 in
theorem exc_any (b1 b2 g : Nat) (life now : Int) (row : Option Nat) (w : World) (hb1 : w.heap[b1]? = some (.cells #[.pointer (some ⟨g, 0, none⟩)] 51 (0, 0))) (hb2 : w.heap[b2]? = some (.cells #[.int .i64 now] 3 (0, 0)))
    (hg1 : w.cell? ⟨g, 1, none⟩ = some (.int .i64 life)) (hr1 : some b1 ≠ row) (hr2 : some b2 ≠ row) (hr3 : some g ≠ row) (h1 : 1 ≤ life) (h2 : life ≤ 1099511627776) :
    Asks 36 #[.pointer (some ⟨b1, 0, none⟩), .pointer (some ⟨b2, 0, none⟩)] (oldE life now) row w := by
  intro W e he hg
  have c1 : W.cell? ⟨b1, 0, none⟩ = some (.pointer (some ⟨g, 0, none⟩)) := cell_of_one ((hg.block b1 (lt_of_row hb1) hr1).trans hb1)
  have c2 : W.cell? ⟨b2, 0, none⟩ = some (.int .i64 now) := cell_of_one ((hg.block b2 (lt_of_row hb2) hr2).trans hb2)
  have c3 : W.cell? ⟨g, 1, none⟩ = some (.int .i64 life) := hg.cell hg1 hr3
  have b1l := block_lt_of_cell c1
  have b2l := block_lt_of_cell c2
  have b3l := block_lt_of_cell c3
  have hB := alloc_below W (.cells #[.int .u64 e.val, .int .i64 e.at_, .bool e.fix] 86)
  have c1' := (hB.cell (p := ⟨b1, 0, none⟩) b1l).trans c1
  have c2' := (hB.cell (p := ⟨b2, 0, none⟩) b2l).trans c2
  have C := hide (old_any g life now e (W.alloc (.cells #[.int .u64 e.val, .int .i64 e.at_, .bool e.fix] 86)) ((hB.cell (p := ⟨g, 1, none⟩) b3l).trans c3) he h1 h2)
  have HB := hide hB
  clear hB c1 c2 c3 hb1 hb2 hg1 hg
  generalize oldE life now e = q at C ⊢
  simp only [Ent.st] at C ⊢
  go_enter Tryd.func36, Tryd.ntmps36
  go_wp2_with fail
  refine (unhide C).mono ?_
  rintro x w2 ⟨rfl, b2⟩
  have HB2 := hide (bthen (unhide HB) b2)
  clear b2
  go_wp2_with fail
  go_ret
  exact ⟨rfl, unhide HB2⟩
end Go.Proofs.YtljhgehlaehgnaaDoor
