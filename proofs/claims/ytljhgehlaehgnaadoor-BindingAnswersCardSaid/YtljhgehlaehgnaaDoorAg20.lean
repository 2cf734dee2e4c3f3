/-
  The contracts of Table's Put and Fix.
-/
import Derived.Test.YtljhgehlaehgnaaDoorAg19
namespace Go.Proofs.YtljhgehlaehgnaaDoor
open Go.RowKit Go.Sort

/-- an entry that is put: the answer's number, and what is left -/
def putP (room life : Int) (L : List Ent) (x : Ent) : Int × List Ent :=
  if timeB x.at_ then match look L x.key with
    | some y => if y.fix then (100, L) else (0, ins x L)
    | none => (errFull (noted room (kept (oldE life x.at_) L) x), (noted room (kept (oldE life x.at_) L) x).getD (kept (oldE life x.at_) L))
  else (1, L)
/-- an entry that is fixed -/
def fixP (room : Int) (L : List Ent) (x : Ent) : Int × List Ent := (errFull (noted room L x), (noted room L x).getD L)
theorem Tab.base {B : Nat} {w : World} {g : Nat} {room life : Int} {v : Value} {L : List Ent} (h : Tab B w g room life v L) : B ≤ w.heap.size := by
  have := h.low; have := h.lt; omega
theorem put_no (B : Nat) (L : List Ent) (v : Value) (g : Nat) (room life key val now : Int) (w : World) (T : Tab B w g room life v L) (h : timeB now = false) :
    Calls Tryd.prog 18 #[.pointer (some ⟨g, 0, none⟩), .int .u64 key, .int .u64 val, .int .i64 now] w fun e w' => e = .returned (.int .i64 1) ∧ Turned B g room life v L w w' := by
  have C := hide (fun W => isTime_any now W)
  rw [h] at C
  have HT := hide T
  clear T h
  go_enter Tryd.func18, Tryd.ntmps18
  go_wp2_with fail
  refine (unhide C _).mono ?_
  rintro e w2 ⟨rfl, rfl⟩
  go_wp2_with fail
  go_ret
  exact ⟨rfl, turned_same (unhide HT) (Below.refl _ _)⟩
set_option maxRecDepth 100000 in
theorem put_fixed (B : Nat) (L : List Ent) (v : Value) (g : Nat) (room life key val now : Int) (y : Ent) (w : World) (T : Tab B w g room life v L) (h : timeB now = true) (hy : look L key = some y) (hf : y.fix = true) :
    Calls Tryd.prog 18 #[.pointer (some ⟨g, 0, none⟩), .int .u64 key, .int .u64 val, .int .i64 now] w fun e w' => e = .returned (.int .i64 100) ∧ Turned B g room life v L w w' := by
  have C := hide (fun W => isTime_any now W)
  rw [h] at C
  have G := hide (get_some B L v g 2 key y w T.cell T.own T.len T.srt hy)
  unfold Ent.st at G
  rw [hf] at G
  have HT := hide T
  clear T h hf hy
  go_enter Tryd.func18, Tryd.ntmps18
  go_wp2_with fail
  refine (unhide C _).mono ?_
  rintro e w2 ⟨rfl, rfl⟩
  go_wp2_with fail
  refine (unhide G).mono ?_
  rintro e w3 ⟨rfl, b3⟩
  have hB := hide (alloc_then (o := .cells #[.int .u64 y.val, .int .i64 y.at_, .bool true] 86) b3)
  clear b3
  go_wp2_with fail
  go_ret
  exact ⟨rfl, turned_same (unhide HT) (unhide hB)⟩
set_option maxRecDepth 100000 in
theorem put_old (B : Nat) (L : List Ent) (v : Value) (g : Nat) (room life key val now : Int) (y : Ent) (w : World) (T : Tab B w g room life v L) (h : timeB now = true) (hy : look L key = some y) (hf : y.fix = false) (hx : (Ent.mk key val now false).ok) :
    Calls Tryd.prog 18 #[.pointer (some ⟨g, 0, none⟩), .int .u64 key, .int .u64 val, .int .i64 now] w fun e w' => e = .returned (.int .i64 0) ∧ Turned B g room life v (ins ⟨key, val, now, false⟩ L) w w' := by
  have C := hide (fun W => isTime_any now W)
  rw [h] at C
  have G := hide (get_some B L v g 2 key y w T.cell T.own T.len T.srt hy)
  unfold Ent.st at G
  rw [hf] at G
  have N := hide (fun W (h : Below w.heap.size w W) => note_old B L v g room life ⟨key, val, now, false⟩ y W (T.below h) hy hx)
  unfold Ent.st at N
  clear T h hf hy hx
  go_enter Tryd.func18, Tryd.ntmps18
  go_wp2_with fail
  refine (unhide C _).mono ?_
  rintro e w2 ⟨rfl, rfl⟩
  go_wp2_with fail
  refine (unhide G).mono ?_
  rintro e w3 ⟨rfl, b3⟩
  have hB := hide (alloc_then (o := .cells #[.int .u64 y.val, .int .i64 y.at_, .bool false] 86) b3)
  have N2 := hide (unhide N _ (unhide hB))
  clear b3 N
  go_wp2_with fail
  refine (unhide N2).mono ?_
  rintro e w4 ⟨rfl, t4⟩
  have t5 := hide (turned_from (unhide hB) t4)
  clear t4
  go_wp2_with fail
  go_ret
  exact ⟨rfl, unhide t5⟩
set_option maxRecDepth 100000 in
theorem put_new (B : Nat) (L : List Ent) (v : Value) (g : Nat) (room life key val now : Int) (w : World) (T : Tab B w g room life v L) (h : timeB now = true) (hy : look L key = none) (hx : (Ent.mk key val now false).ok) (c : Int) (L2 : List Ent)
    (hc : c = errFull (noted room (kept (oldE life now) L) ⟨key, val, now, false⟩)) (hL : L2 = (noted room (kept (oldE life now) L) ⟨key, val, now, false⟩).getD (kept (oldE life now) L)) :
    Calls Tryd.prog 18 #[.pointer (some ⟨g, 0, none⟩), .int .u64 key, .int .u64 val, .int .i64 now] w fun e w' => e = .returned (.int .i64 c) ∧ Turned B g room life v L2 w w' := by
  have C := hide (fun W => isTime_any now W)
  rw [h] at C
  have G := hide (get_none B L v g 2 key w T.cell T.own T.len T.srt hy)
  have E := hide (fun W (b : Below w.heap.size w W) => expire_yes B L v g room life now _ W (T.below b) h rfl)
  have N := hide (fun W v1 (T1 : Tab B W g room life v1 (kept (oldE life now) L)) => note_any B _ v1 g room life ⟨key, val, now, false⟩ W T1 hx T1.base)
  rw [← hc, ← hL] at N
  unfold Ent.st at N
  clear T h hy hx hc hL
  go_enter Tryd.func18, Tryd.ntmps18
  go_wp2_with fail
  refine (unhide C _).mono ?_
  rintro e w2 ⟨rfl, rfl⟩
  go_wp2_with fail
  refine (unhide G).mono ?_
  rintro e w3 ⟨rfl, b3⟩
  have hB := hide (alloc_then (o := .cells #[.int .u64 0, .int .i64 0, .bool false] 86) b3)
  have E2 := hide (unhide E _ (unhide hB))
  clear b3 E
  go_wp2_with fail
  refine (unhide E2).mono ?_
  rintro e w4 ⟨rfl, t4⟩
  have t5 := hide (turned_from (unhide hB) t4)
  obtain ⟨v4, T4, b4, n4⟩ := t4
  have N2 := hide (unhide N _ v4 T4)
  have TT := hide T4
  have fin : Hid (∀ w5, Turned B g room life v4 L2 w4 w5 → Turned B g room life v L2 w2 w5) := by
    intro w5 t
    obtain ⟨v5, T5, b5, n5⟩ := t
    have bb := (But2.of (g := g) (r := v.ownBlock) (unhide hB)).trans (Nb.refl _ _) b4
    have nn : Nb w2 v.ownBlock v4.ownBlock := n4.elim .inl fun h => .inr fun k hk => Nat.le_trans (unhide hB).size (h k hk)
    exact ⟨v5, T5, bb.trans nn b5, nn.trans bb.size n5⟩
  clear N T4 b4 n4 E2
  go_wp2_with fail
  refine (unhide N2).mono ?_
  rintro e w5 ⟨rfl, t6⟩
  have t7 := hide (unhide fin w5 t6)
  clear t6
  go_wp2_with fail
  go_ret
  exact ⟨rfl, unhide t7⟩
theorem put_any (B : Nat) (L : List Ent) (v : Value) (g : Nat) (room life key val now : Int) (w : World) (T : Tab B w g room life v L) (hk : 0 ≤ key ∧ key < 18446744073709551616) (hv : 0 ≤ val ∧ val < 18446744073709551616) :
    Calls Tryd.prog 18 #[.pointer (some ⟨g, 0, none⟩), .int .u64 key, .int .u64 val, .int .i64 now] w fun e w' => e = .returned (.int .i64 (putP room life L ⟨key, val, now, false⟩).1) ∧ Turned B g room life v (putP room life L ⟨key, val, now, false⟩).2 w w' := by
  unfold putP
  simp only
  cases h : timeB now with
  | false => exact put_no B L v g room life key val now w T h
  | true =>
    have hx : (Ent.mk key val now false).ok := by
      simp [timeB] at h
      exact ⟨hk.1, hk.2, hv.1, hv.2, h.1, h.2, fun e => by cases e⟩
    cases hy : look L key with
    | some y =>
      simp only [if_true]
      cases hf : y.fix with
      | true => exact put_fixed B L v g room life key val now y w T h hy hf
      | false => exact put_old B L v g room life key val now y w T h hy hf hx
    | none => exact put_new B L v g room life key val now w T h hy hx _ _ rfl rfl
end Go.Proofs.YtljhgehlaehgnaaDoor
