/-
  The contracts of Table's note, Put and Fix.
-/
import Derived.Test.YtljhgehlaehgnaaDoorAg18
namespace Go.Proofs.YtljhgehlaehgnaaDoor
open Go.RowKit Go.Sort

/-- an entry noted: what is left then; none: there is no room -/
def noted (room : Int) (L : List Ent) (x : Ent) : Option (List Ent) := match look L x.key with
  | some _ => some (ins x L)
  | none => (roomed room L).map (ins x)
/-- the number of an answer -/
def errFull (o : Option (List Ent)) : Int := if o.isSome then 0 else 101
set_option maxHeartbeats 1000000 in
set_option maxRecDepth 100000 in
theorem note_old (B : Nat) (L : List Ent) (v : Value) (g : Nat) (room life : Int) (x y : Ent) (w : World) (T : Tab B w g room life v L) (hy : look L x.key = some y) (hx : x.ok) :
    Calls Tryd.prog 27 #[.pointer (some ⟨g, 0, none⟩), .int .u64 x.key, x.st] w fun e w' => e = .returned (.int .i64 0) ∧ Turned B g room life v (ins x L) w w' := by
  have b0 := alloc_below w (.cells #[.int .u64 x.val, .int .i64 x.at_, .bool x.fix] 86)
  have T0 := T.below b0
  have G := hide (get_some B L v g 2 x.key y _ T0.cell T0.own T0.len T0.srt hy)
  have S := hide (fun W (h : Below w.heap.size w W) => set_old B L v g room life x y W (T.below h) hy hx)
  have r0 := hide (heap_alloc_new w (.cells #[.int .u64 x.val, .int .i64 x.at_, .bool x.fix] 86))
  have hB := hide b0
  have hgl := T.lt
  clear T T0 b0 hx
  unfold Ent.st at *
  go_enter Tryd.func27, Tryd.ntmps27
  go_wp2_with fail
  refine (unhide G).mono ?_
  rintro e w1 ⟨rfl, b1⟩
  have b2 := alloc_then (o := .cells #[.int .u64 y.val, .int .i64 y.at_, .bool y.fix] 86) (bthen (unhide hB) b1)
  have r2 := Below.row (alloc_below w1 (.cells #[.int .u64 y.val, .int .i64 y.at_, .bool y.fix] 86)) (Below.row b1 (unhide r0))
  have c2 := cells3 r2
  have hB2 := hide b2
  have S2 := hide (unhide S _ (Below.drew b2))
  have hg1 : g < w1.heap.size := Nat.lt_of_lt_of_le hgl (bthen (unhide hB) b1).size
  clear G r0 hB b1 b2 r2 S
  go_wp2_with fail
  go_region_with (go_at_call 38; refine (unhide S2).mono ?_; rintro e w3 ⟨rfl, t3⟩; have t4 := hide (turned_from (Below.drew (unhide hB2)) t3); clear t3)
  all_goals (go_wp2_with fail; go_ret; exact ⟨rfl, unhide (by assumption)⟩)
set_option maxHeartbeats 1000000 in
set_option maxRecDepth 100000 in
theorem note_full (B : Nat) (L : List Ent) (v : Value) (g : Nat) (room life : Int) (x : Ent) (w : World) (T : Tab B w g room life v L) (hy : look L x.key = none) (hr : roomed room L = none) :
    Calls Tryd.prog 27 #[.pointer (some ⟨g, 0, none⟩), .int .u64 x.key, x.st] w fun e w' => e = .returned (.int .i64 101) ∧ Turned B g room life v L w w' := by
  have b0 := alloc_below w (.cells #[.int .u64 x.val, .int .i64 x.at_, .bool x.fix] 86)
  have T0 := T.below b0
  have G := hide (get_none B L v g 2 x.key _ T0.cell T0.own T0.len T0.srt hy)
  have R := hide (fun W (h : Below w.heap.size w W) => room_any B L v g room life W (T.below h))
  rw [hr] at R
  have hB := hide b0
  clear T T0 b0
  unfold Ent.st at *
  go_enter Tryd.func27, Tryd.ntmps27
  go_wp2_with fail
  refine (unhide G).mono ?_
  rintro e w1 ⟨rfl, b1⟩
  have b2 := alloc_then (o := .cells #[.int .u64 0, .int .i64 0, .bool false] 86) (bthen (unhide hB) b1)
  have R2 := hide (unhide R _ b2)
  have hB2 := hide b2
  clear G hB b1 b2 R
  go_wp2_with fail
  refine (unhide R2).mono ?_
  rintro e w3 ⟨rfl, t3⟩
  have t4 := hide (turned_from (unhide hB2) t3)
  clear t3
  go_wp2_with fail
  go_ret
  exact ⟨rfl, unhide t4⟩
theorem But2.then_row {g : Nat} {r : Option Nat} {w w' : World} {k : Nat} {o : Obj} (h : But2 g r w w') (hg : k ≠ g) (hr : some k ≠ r) (ho : w.heap[k]? = some o) : w'.heap[k]? = some o := h.row hg hr ho
set_option maxHeartbeats 1000000 in
set_option maxRecDepth 100000 in
theorem note_new (B : Nat) (L L1 : List Ent) (v : Value) (g : Nat) (room life : Int) (x : Ent) (w : World) (T : Tab B w g room life v L) (hy : look L x.key = none) (hr : roomed room L = some L1) (hx : x.ok) (hBw : B ≤ w.heap.size) :
    Calls Tryd.prog 27 #[.pointer (some ⟨g, 0, none⟩), .int .u64 x.key, x.st] w fun e w' => e = .returned (.int .i64 0) ∧ Turned B g room life v (ins x L1) w w' := by
  obtain ⟨hL1, hk1⟩ := roomed_ok T.srt T.fit hr
  have hy1 := hk1 _ hy
  have b0 := alloc_below w (.cells #[.int .u64 x.val, .int .i64 x.at_, .bool x.fix] 86)
  have T0 := T.below b0
  have G := hide (get_none B L v g 2 x.key _ T0.cell T0.own T0.len T0.srt hy)
  have R := hide (fun W (h : Below w.heap.size w W) => room_any B L v g room life W (T.below h))
  rw [hr] at R
  have S := hide (fun W v1 (T1 : Tab B W g room life v1 L1) (h : B ≤ W.heap.size) => set_new B L1 v1 g room life x W T1 hy1 hx hL1 h)
  have r0 := hide (heap_alloc_new w (.cells #[.int .u64 x.val, .int .i64 x.at_, .bool x.fix] 86))
  have hB := hide b0
  have hgl := T.lt
  have hbv : Hid (some w.heap.size ≠ v.ownBlock) := fun e => by have := (T.vlt _ e.symm).2; omega
  clear T T0 b0 hx hL1 hk1 hy1
  unfold Ent.st at *
  go_enter Tryd.func27, Tryd.ntmps27
  go_wp2_with fail
  refine (unhide G).mono ?_
  rintro e w1 ⟨rfl, b1⟩
  have b2 := alloc_then (o := .cells #[.int .u64 0, .int .i64 0, .bool false] 86) (bthen (unhide hB) b1)
  have r2 := hide (Below.row (alloc_below w1 (.cells #[.int .u64 0, .int .i64 0, .bool false] 86)) (Below.row b1 (unhide r0)))
  have R2 := hide (unhide R _ b2)
  have hB2 := hide b2
  clear G hB b1 b2 R r0
  go_wp2_with fail
  refine (unhide R2).mono ?_
  rintro e w3 ⟨rfl, t3⟩
  have t4 := hide (turned_from (unhide hB2) t3)
  obtain ⟨v3, T3, but3, n3⟩ := t3
  have c3 := cells3 (but3.row (by omega) (unhide hbv) (unhide r2))
  have hg3 := T3.lt
  have bd := Below.drew (Below.refl w3.heap.size w3)
  have S3 := hide (unhide S w3.drew v3 (T3.below bd) (Nat.le_trans hBw (Nat.le_trans (unhide hB2).size but3.size)))
  have t5 : Hid (∀ w4, Turned B g room life v3 (ins x L1) w3.drew w4 → Turned B g room life v (ins x L1) w w4) := by
    intro w4 t
    have t' := turned_from bd t
    obtain ⟨v4, T4, b4, n4⟩ := t'
    obtain ⟨_, _, be, ne⟩ := turned_from (unhide hB2) ⟨v3, T3, but3, n3⟩
    have hx := turned_from (unhide hB2) ⟨v3, T3, but3, n3⟩
    exact ⟨v4, T4, (((But2.of (unhide hB2)).trans (Nb.refl _ _) but3).trans (n3.elim .inl fun h => .inr fun k hk => Nat.le_trans (unhide hB2).size (h k hk)) b4), Nb.trans (n3.elim .inl fun h => .inr fun k hk => Nat.le_trans (unhide hB2).size (h k hk)) (Nat.le_trans (unhide hB2).size but3.size) n4⟩
  clear T3 but3 n3 R2 S r2 t4 bd
  go_wp2_with fail
  go_region_with (go_at_call 38; refine (unhide S3).mono ?_; rintro e w4 ⟨rfl, t6⟩; have t7 := hide (unhide t5 w4 t6); clear t6)
  all_goals (go_wp2_with fail; go_ret; exact ⟨rfl, unhide (by assumption)⟩)
theorem note_any (B : Nat) (L : List Ent) (v : Value) (g : Nat) (room life : Int) (x : Ent) (w : World) (T : Tab B w g room life v L) (hx : x.ok) (hBw : B ≤ w.heap.size) :
    Calls Tryd.prog 27 #[.pointer (some ⟨g, 0, none⟩), .int .u64 x.key, x.st] w fun e w' => e = .returned (.int .i64 (errFull (noted room L x))) ∧ Turned B g room life v ((noted room L x).getD L) w w' := by
  unfold noted errFull
  cases hy : look L x.key with
  | some y => exact note_old B L v g room life x y w T hy hx
  | none =>
    cases hr : roomed room L with
    | none => exact note_full B L v g room life x w T hy hr
    | some L1 => exact note_new B L L1 v g room life x w T hy hr hx hBw
end Go.Proofs.YtljhgehlaehgnaaDoor
