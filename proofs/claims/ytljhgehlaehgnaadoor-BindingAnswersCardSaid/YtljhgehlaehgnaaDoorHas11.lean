/-
  A table that a call has made: what it holds now; what else stays. The contracts of Table's calls, said so.
-/
import Derived.Test.YtljhgehlaehgnaaDoorAg21
namespace Go.Proofs.YtljhgehlaehgnaaDoor
open Go.RowKit Go.Sort

/-- an object that is no row of parts, and no table -/
def notA : Obj → Bool
  | .cells _ t _ => !(t == 100) && !(t == 80)
  | _ => true
/-- whatever holds no parts, and is no table, stays -/
def Stays (W W' : World) : Prop := ∀ (k : Nat) (o : Obj), notA o = true → W.heap[k]? = some o → W'.heap[k]? = some o
theorem Stays.refl (W : World) : Stays W W := fun _ _ _ h => h
theorem Stays.of {W W' : World} (b : Below W.heap.size W W') : Stays W W' := fun _ _ _ h => Below.row b h
theorem Stays.trans {a b c : World} (h : Stays a b) (k : Stays b c) : Stays a c := fun i o h1 h2 => k i o h1 (h i o h1 h2)
theorem Tab.ownRow {B : Nat} {w : World} {g : Nat} {room life : Int} {v : Value} {L : List Ent} (h : Tab B w g room life v L) {k : Nat} (hk : v.ownBlock = some k) : ∃ c, w.heap[k]? = some (.cells c 100 (0, 0)) := by
  obtain ⟨_, ⟨rfl, _⟩ | ⟨r, cap, cur, rfl, _, hr, _⟩⟩ := h.own
  · cases hk
  · have e : some r = some k := hk
    obtain rfl := Option.some.inj e
    exact ⟨cur, hr⟩
theorem Turned.stays {B : Nat} {w w' : World} {g : Nat} {room life : Int} {v : Value} {L L' : List Ent} (T : Tab B w g room life v L) (t : Turned B g room life v L' w w') : Stays w w' := by
  obtain ⟨v', _, b, _⟩ := t
  intro k o h1 hk
  refine b.row ?_ ?_ hk
  · rintro rfl
    have := T.row
    rw [hk] at this
    obtain rfl := Option.some.inj this
    simp [notA] at h1
  · intro e
    obtain ⟨d, hd⟩ := T.ownRow e.symm
    rw [hk] at hd
    obtain rfl := Option.some.inj hd
    simp [notA] at h1
/-- a table that was made since w: what it holds in W -/
def Has (w : World) (g : Nat) (room life : Int) (L : List Ent) (W : World) : Prop := Below w.heap.size w W ∧ ∃ v, Tab w.heap.size W g room life v L
theorem Has.below {w W W' : World} {g : Nat} {room life : Int} {L : List Ent} (h : Has w g room life L W) (b : Below W.heap.size W W') : Has w g room life L W' := by
  obtain ⟨h1, v, T⟩ := h
  exact ⟨bthen h1 b, v, T.below b⟩
theorem Has.turned {w W W' : World} {g : Nat} {room life : Int} {v : Value} {L L' : List Ent} (h : Below w.heap.size w W) (T : Tab w.heap.size W g room life v L) (t : Turned w.heap.size g room life v L' W W') : Has w g room life L' W' ∧ Stays W W' := by
  refine ⟨?_, t.stays T⟩
  obtain ⟨v', T', b, _⟩ := t
  exact ⟨h.trans (b.below T.low (fun k hk => (T.vlt k hk).1) h.size), v', T'⟩
theorem has_put {w W : World} {g : Nat} {room life : Int} {L : List Ent} (key val now : Int) (h : Has w g room life L W) (hk : 0 ≤ key ∧ key < 18446744073709551616) (hv : 0 ≤ val ∧ val < 18446744073709551616) :
    Calls Tryd.prog 18 #[.pointer (some ⟨g, 0, none⟩), .int .u64 key, .int .u64 val, .int .i64 now] W fun e W' => e = .returned (.int .i64 (putP room life L ⟨key, val, now, false⟩).1) ∧ Has w g room life (putP room life L ⟨key, val, now, false⟩).2 W' ∧ Stays W W' := by
  obtain ⟨b, v, T⟩ := h
  exact (put_any _ L v g room life key val now W T hk hv).mono fun e W' ⟨h1, h2⟩ => ⟨h1, Has.turned b T h2⟩
theorem has_get {w W : World} {g : Nat} {room life : Int} {L : List Ent} (key now : Int) (h : Has w g room life L W) :
    Calls Tryd.prog 23 #[.pointer (some ⟨g, 0, none⟩), .int .u64 key, .int .i64 now] W fun e W' => e = .returned (entO (told life now (look L key))) ∧ Below W.heap.size W W' := by
  obtain ⟨b, v, T⟩ := h
  exact tget_any _ L v g room life key now W T
/-- what becomes old: how many, what is left -/
def expP (life now : Int) (L : List Ent) : List Ent := if timeB now then kept (oldE life now) L else L
theorem has_expire {w W : World} {g : Nat} {room life : Int} {L : List Ent} (now : Int) (h : Has w g room life L W) :
    Calls Tryd.prog 26 #[.pointer (some ⟨g, 0, none⟩), .int .i64 now] W fun e W' => e = .returned (.int .i64 ((L.length : Int) - ((expP life now L).length : Int))) ∧ Has w g room life (expP life now L) W' ∧ Stays W W' := by
  obtain ⟨b, v, T⟩ := h
  unfold expP
  cases ht : timeB now with
  | false => exact (expire_no _ L v g room life now W T ht).mono fun e W' ⟨h1, h2⟩ => ⟨by rw [h1]; simp, Has.turned b T h2⟩
  | true => exact (expire_yes _ L v g room life now _ W T ht rfl).mono fun e W' ⟨h1, h2⟩ => ⟨h1, Has.turned b T h2⟩
theorem has_entries {w W : World} {g : Nat} {room life : Int} {L : List Ent} (h : Has w g room life L W) :
    Calls Tryd.prog 100 #[.pointer (some ⟨g, 0, none⟩)] W fun e W' => e = .returned (.slice (some ⟨W.heap.size, 0, none⟩) L.length L.length) ∧ Tells W.heap.size W' (.slice (some ⟨W.heap.size, 0, none⟩) L.length L.length) L ∧ Below W.heap.size W W' := by
  obtain ⟨b, v, T⟩ := h
  exact entries_any g room life _ v L W T
theorem has_new {w W : World} (room life : Int) (b : Below w.heap.size w W) (h : newOk room life) :
    Calls Tryd.prog 12 #[.int .i64 room, .int .i64 life] W fun e W' => e = .returned (.tuple #[.pointer (some ⟨W.heap.size, 0, none⟩), .int .i64 0]) ∧ Has w W.heap.size room life [] W' ∧ Below W.heap.size W W' :=
  (new_ok _ room life W h b.size).mono fun _ _ ⟨h1, h2, h3⟩ => ⟨h1, ⟨bthen b h2, _, h3⟩, h2⟩
end Go.Proofs.YtljhgehlaehgnaaDoor
