/-
  The contract of binding's Find.
-/
import Derived.Test.YtljhgehlaehgnaaDoorBd3
namespace Go.Proofs.YtljhgehlaehgnaaDoor
open Go.RowKit Go.Sort

/-- the answer to who has an address -/
def macO : Option Ent → Value
  | some e => .tuple #[.int .u64 e.val, .bool true]
  | none => .tuple #[.int .u64 0, .bool false]
/-- the entry that answers -/
def findE (life now : Int) (L : List Ent) (vid : Int) (ip : Nat) : Option Ent := if vlanB vid then told life now (look L (bkey vid ip)) else none
theorem ent_parts (t : Option Ent) : ∃ (E : Ent) (is : Bool), entO t = .tuple #[.agg #[.int .u64 E.key, .int .u64 E.val, .int .i64 E.at_, .bool E.fix], .bool is] ∧ macO t = .tuple #[.int .u64 E.val, .bool is] := by
  cases t with
  | none => exact ⟨⟨0, 0, 0, false⟩, false, rfl, rfl⟩
  | some e => exact ⟨e, true, rfl, rfl⟩
theorem bfind_not {vid now i : Int} (g : Nat) (W : World) (h : vlanB vid = false) :
    Calls Tryd.prog 16 #[.pointer (some ⟨g, 0, none⟩), .int .i64 vid, .int .u32 i, .int .i64 now] W fun e W' => e = .returned (macO none) ∧ W' = W := by
  have C := hide (fun W => isVlan_any vid W)
  rw [h] at C
  clear h
  unfold macO
  go_enter Tryd.func16, Tryd.ntmps16
  go_wp2_with fail
  refine (unhide C _).mono ?_
  rintro e w1 ⟨rfl, rfl⟩
  go_wp2_with fail
  go_ret2
  exact ⟨rfl, rfl⟩
set_option maxHeartbeats 1000000 in
theorem bfind_at {w W1 : World} {g p : Nat} {room life : Int} {L : List Ent} {vid now i key : Int} (hB : Bnd w g p room life L W1)
    (C : Hid (∀ W, Calls Tryd.prog 17 #[.int .i64 vid] W fun e w' => e = .returned (.bool true) ∧ w' = W))
    (K : Hid (∀ W, Calls Tryd.prog 19 #[.int .i64 vid, .int .u32 i] W fun e w' => e = .returned (.int .u64 key) ∧ w' = W)) :
    Calls Tryd.prog 16 #[.pointer (some ⟨g, 0, none⟩), .int .i64 vid, .int .u32 i, .int .i64 now] W1 fun e W' => e = .returned (macO (told life now (look L key))) ∧ Below W1.heap.size W1 W' := by
  have G := hide (fun W2 (h : Below W1.heap.size W1 W2) => has_get (w := w) (W := W2) (g := p) (room := room) (life := life) (L := L) key now (hB.has.below h))
  obtain ⟨E, is, hE, ht⟩ := ent_parts (told life now (look L key))
  rw [hE] at G
  rw [ht]
  have f2 := hB.ptr.2
  have keepG : Hid (∀ W2, Below W1.heap.size W1 W2 → W2.cell? ⟨g, 1, none⟩ = some (.pointer (some ⟨p, 0, none⟩))) := fun W2 h => (h.cell (p := ⟨g, 1, none⟩) (block_lt_of_cell f2)).trans f2
  clear hE ht hB
  go_enter Tryd.func16, Tryd.ntmps16
  go_wp2_with fail
  refine (unhide C _).mono ?_
  rintro e w1 ⟨rfl, rfl⟩
  go_wp2_with fail
  go_cut [10, 11] (fun x y wx => ∃ X : Nat, x = .pointer (some ⟨X, 0, none⟩) ∧ y = .bool is ∧ Below w1.heap.size w1 wx ∧ wx.heap[X]? = some (.cells #[.int .u64 E.key, .int .u64 E.val, .int .i64 E.at_, .bool E.fix] 82 (0, 0)) ∧ w1.heap.size ≤ X)
  case first =>
    go_region_held3 (fun w' => w'.cell? ⟨g, 1, none⟩ = some (.pointer (some ⟨p, 0, none⟩))) ((refine unhide keepG _ ?_; (repeat (first | (with_reducible exact Below.refl _ _) | (with_reducible refine Below.drew ?_) | (with_reducible refine alloc_then ?_) | (with_reducible refine bthen ?_ B3) | (with_reducible refine Below.setCell ?_ (by first | (show w1.heap.size ≤ w1.heap.size; exact Nat.le_refl _) | (show w1.heap.size ≤ w3.heap.size; exact B3.size)) _))); done))
      ((first | (go_at_call 19; refine (unhide K _).mono ?_; rintro e2 w2 ⟨rfl, rfl⟩) | (go_at_call 23; refine (unhide G _ ?_).mono ?_; (repeat (first | (with_reducible exact Below.refl _ _) | (with_reducible refine Below.drew ?_) | (with_reducible refine alloc_then ?_))); rintro e3 w3 ⟨rfl, B3⟩; (try (have r3 := Below.row B3 (heap_alloc_new w1 (.cells #[.int .u64 0, .int .u64 0, .int .i64 0, .bool false] 82)); obtain ⟨x0, x1, x2, x3, u0, u1, u2, u3⟩ := cells4 r3)))))
    all_goals
      go_wp2_with fail
      go_meet
    · refine ⟨_, rfl, rfl, ?_, heap_alloc_new w3 _, B3.size⟩
      repeat (first | (with_reducible exact Below.refl _ _) | (with_reducible refine Below.drew ?_) | (with_reducible refine alloc_then ?_) | (with_reducible refine bthen ?_ B3))
    all_goals
      refine ⟨_, rfl, rfl, below4 ?_ (Nat.le_refl _), set4 r3, Nat.le_refl _⟩
      repeat (first | (with_reducible exact Below.refl _ _) | (with_reducible refine Below.drew ?_) | (with_reducible refine alloc_then ?_) | (with_reducible refine bthen ?_ B3))
  case rest =>
    obtain ⟨X, rfl, rfl, bc, rX, hX⟩ := hcut
    obtain ⟨x0, x1, x2, x3, _⟩ := cells4 rX
    have HB := hide bc
    clear K G C keepG bc rX
    go_wp2_with fail
    go_ret2
    exact ⟨rfl, unhide HB⟩
theorem bfind_any {w W : World} {g p : Nat} {room life : Int} {L : List Ent} (vid now : Int) (ip : Nat) (hB : Bnd w g p room life L W) (hi : ip < 4294967296) :
    Calls Tryd.prog 16 #[.pointer (some ⟨g, 0, none⟩), .int .i64 vid, .int .u32 (ip : Int), .int .i64 now] W fun e W' => e = .returned (macO (findE life now L vid ip)) ∧ Below W.heap.size W W' := by
  unfold findE
  cases hv : vlanB vid with
  | false => exact (bfind_not g W hv).mono fun e W' ⟨h1, h2⟩ => ⟨h1, by rw [h2]; exact Below.refl _ _⟩
  | true =>
    have C := hide (fun W => isVlan_any vid W)
    rw [hv] at C
    exact bfind_at hB C (hide (fun W => bkeyOf_any vid ip W (vlan_iff.1 hv) hi))
end Go.Proofs.YtljhgehlaehgnaaDoor
