/-
  The contracts of Table's Clear, Expire, Drop, Get and of New.
-/
import Derived.Test.YtljhgehlaehgnaaDoorAg10
namespace Go.Proofs.YtljhgehlaehgnaaDoor
open Go.RowKit Go.Sort

theorem enters_exc : ∀ args w, (callFunc 36 args).run Tryd.prog w = .ok (.enter 36 args) w := enters_of Tryd.func36 (by kernel_rfl) rfl
/-- has a value, and is not fixed -/
def hasVal (val : Int) (e : Ent) : Bool := !e.fix && e.val == val
theorem expire_no (B : Nat) (L : List Ent) (v : Value) (g : Nat) (room life now : Int) (w : World) (T : Tab B w g room life v L) (h : timeB now = false) :
    Calls Tryd.prog 26 #[.pointer (some ⟨g, 0, none⟩), .int .i64 now] w fun e w' => e = .returned (.int .i64 0) ∧ Turned B g room life v L w w' := by
  have C := hide (fun W => isTime_any now W)
  rw [h] at C
  have HT := hide T
  clear T h
  go_enter Tryd.func26, Tryd.ntmps26
  go_wp2_with fail
  refine (unhide C _).mono ?_
  rintro e w2 ⟨rfl, rfl⟩
  go_wp2_with fail
  go_ret
  exact ⟨rfl, turned_same (unhide HT) (alloc_then (alloc_below _ _))⟩
theorem turned_from {B : Nat} {w w1 w2 : World} {g : Nat} {room life : Int} {v : Value} {L : List Ent} (b : Below w.heap.size w w1) (t : Turned B g room life v L w1 w2) : Turned B g room life v L w w2 := by
  obtain ⟨v', a, c, d⟩ := t
  exact ⟨v', a, (But2.of b).trans (Nb.refl _ _) c, d.elim .inl fun d => .inr fun k hk => Nat.le_trans b.size (d k hk)⟩
set_option maxRecDepth 100000 in
theorem expire_yes (B : Nat) (L : List Ent) (v : Value) (g : Nat) (room life now d : Int) (w : World) (T : Tab B w g room life v L) (h : timeB now = true) (hd : d = (L.length : Int) - ((kept (oldE life now) L).length : Int)) :
    Calls Tryd.prog 26 #[.pointer (some ⟨g, 0, none⟩), .int .i64 now] w fun e w' => e = .returned (.int .i64 d) ∧ Turned B g room life v (kept (oldE life now) L) w w' := by
  have C := hide (fun W => isTime_any now W)
  rw [h] at C
  have hgl := T.lt
  have hB1 := alloc_below w (.cells #[.pointer (some ⟨g, 0, none⟩)] 51)
  have hB2 := alloc_then (o := .cells #[.int .i64 now] 3) hB1
  have hs : (w.alloc (.cells #[.pointer (some ⟨g, 0, none⟩)] 51)).heap.size = w.heap.size + 1 := by simp
  have r2 := heap_alloc_new (w.alloc (.cells #[.pointer (some ⟨g, 0, none⟩)] 51)) (.cells #[.int .i64 now] 3)
  rw [hs] at r2
  have r1 := Below.row (alloc_below (w.alloc (.cells #[.pointer (some ⟨g, 0, none⟩)] 51)) (.cells #[.int .i64 now] 3)) (heap_alloc_new w (.cells #[.pointer (some ⟨g, 0, none⟩)] 51))
  have T2 := T.below hB2
  have n1 : some w.heap.size ≠ v.ownBlock := fun e => by have := (T.vlt _ e.symm).2; omega
  have n2 : some (w.heap.size + 1) ≠ v.ownBlock := fun e => by have := (T.vlt _ e.symm).2; omega
  have A := exc_any w.heap.size (w.heap.size + 1) g life now v.ownBlock _ r1 r2 (cells3 T2.row).2.1 n1 n2 (fun e => T.apart e.symm) T.life1 T.life2
  have D := hide (dropAll_any B L v g room life 36 #[.pointer (some ⟨w.heap.size, 0, none⟩), .pointer (some ⟨w.heap.size + 1, 0, none⟩)] enters_exc (oldE life now) d _ T2 A hd)
  have HB := hide hB2
  clear A hd T hB1 hB2 T2 r1 r2 h n1 n2
  go_enter Tryd.func26, Tryd.ntmps26
  go_wp2_with fail
  refine (unhide C _).mono ?_
  rintro e w2 ⟨rfl, rfl⟩
  go_wp2_with fail
  refine (unhide D).mono ?_
  rintro e w2 ⟨rfl, t2⟩
  have t3 := hide (turned_from (unhide HB) t2)
  clear t2
  go_wp2_with fail
  go_ret
  exact ⟨rfl, unhide t3⟩
/-- may a room, and a life, be -/
def newOk (room life : Int) : Prop := 1 ≤ room ∧ room ≤ 4096 ∧ 1 ≤ life ∧ life ≤ 1099511627776
theorem new_ok (B : Nat) (room life : Int) (w : World) (h : newOk room life) (hB : B ≤ w.heap.size) :
    Calls Tryd.prog 12 #[.int .i64 room, .int .i64 life] w fun e w' => e = .returned (.tuple #[.pointer (some ⟨w.heap.size, 0, none⟩), .int .i64 0]) ∧ Below w.heap.size w w' ∧ Tab B w' w.heap.size room life (.slice none 0 0) [] := by
  obtain ⟨h1, h2, h3, h4⟩ := h
  have n1 : ¬ room < 1 := by omega
  have n2 : ¬ 4096 < room := by omega
  have n3 : ¬ life < 1 := by omega
  have n4 : ¬ 1099511627776 < life := by omega
  have HT : Hid (Tab B (w.alloc (.cells #[.int .i64 room, .int .i64 life, .slice none 0 0] 80)) w.heap.size room life (.slice none 0 0) []) :=
    ⟨heap_alloc_new _ _, World.ownsRow_nil _ _ _ _, hB, by simp [Value.ownBlock], List.Pairwise.nil, fun _ h => (by cases h), by simp; omega, h1, h2, h3, h4⟩
  go_enter Tryd.func12, Tryd.ntmps12
  go_wp2
  go_ret2
  exact ⟨rfl, alloc_below _ _, unhide HT⟩
theorem new_no (room life : Int) (w : World) (h : ¬ newOk room life) :
    Calls Tryd.prog 12 #[.int .i64 room, .int .i64 life] w fun e w' => e = .returned (.tuple #[.pointer none, .int .i64 1]) ∧ w' = w := by
  by_cases h1 : room < 1
  · go_enter Tryd.func12, Tryd.ntmps12
    go_wp2
    go_ret2
    exact ⟨rfl, rfl⟩
  · by_cases h2 : 4096 < room
    · go_enter Tryd.func12, Tryd.ntmps12
      go_wp2
      go_ret2
      exact ⟨rfl, rfl⟩
    · by_cases h3 : life < 1
      · go_enter Tryd.func12, Tryd.ntmps12
        go_wp2
        go_ret2
        exact ⟨rfl, rfl⟩
      · have h4 : 1099511627776 < life := by
          unfold newOk at h; omega
        clear h
        go_enter Tryd.func12, Tryd.ntmps12
        go_wp2
        go_ret2
        exact ⟨rfl, rfl⟩
end Go.Proofs.YtljhgehlaehgnaaDoor
