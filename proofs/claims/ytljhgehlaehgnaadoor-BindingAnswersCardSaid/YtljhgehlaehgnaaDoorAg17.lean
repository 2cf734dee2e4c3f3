/-
  The contracts of ordered's first (the entry that was put longest ago, of those that are not fixed) and size.
-/
import Derived.Test.YtljhgehlaehgnaaDoorAg16
namespace Go.Proofs.YtljhgehlaehgnaaDoor
open Go.RowKit

/-- the older one -/
def pick (o : Option Ent) (e : Ent) : Option Ent := if e.fix then o else match o with
  | none => some e
  | some b => if e.at_ < b.at_ then some e else some b
/-- the entry that goes for another one -/
def oldest (L : List Ent) : Option Ent := L.foldl pick none
/-- its cells -/
def best : Option Ent → Array Value
  | none => #[.int .u64 0, .int .u64 0, .int .i64 0, .bool false]
  | some b => #[.int .u64 b.key, .int .u64 b.val, .int .i64 b.at_, .bool b.fix]
theorem best_some (b : Ent) : best (some b) = #[.int .u64 b.key, .int .u64 b.val, .int .i64 b.at_, .bool b.fix] := rfl
/-- its key -/
def bestKey : Option Ent → Int
  | none => 0
  | some b => b.key
theorem oldest_take (L : List Ent) (k : Nat) (h : k < L.length) : oldest (L.take (k + 1)) = pick (oldest (L.take k)) L[k] := by
  unfold oldest
  rw [List.take_succ_eq_append_getElem h, List.foldl_append]; rfl
set_option maxHeartbeats 1000000 in
set_option maxRecDepth 100000 in
theorem first_at (L : List Ent) (r c g : Nat) (w : World) (hv : w.cell? ⟨g, 2, none⟩ = some (.slice (some ⟨r, 0, none⟩) L.length c)) (hr : Prow w r L) (hc : L.length ≤ 4096) (q : Option Ent) (hq : q = oldest L) :
    Calls Tryd.prog 48 #[.pointer (some ⟨g, 2, none⟩), .func (.func 49) #[] #[], .func (.func 50) #[] #[]] w fun e w' => e = .returned (.tuple #[.int .u64 (bestKey q), .bool q.isSome]) ∧ Below w.heap.size w w' := by
  have HR := hide hr
  have HQ := hide hq
  have hgl := block_lt_of_cell hv
  clear hr hq
  have CL := hide (fun (e : Ent) W => loose_any e W)
  have CE := hide (fun (e d : Ent) W => earlier_any e d W)
  unfold Ent.st at CL CE
  have HB0 := hide (alloc_below w (.cells #[.int .u64 0, .int .u64 0, .int .i64 0, .bool false] 100))
  have r0 := hide (heap_alloc_new w (.cells #[.int .u64 0, .int .u64 0, .int .i64 0, .bool false] 100))
  go_enter Tryd.func48, Tryd.ntmps48
  go_wp2_with fail
  go_loopw [9, 11, 17] (fun f _ a wr => ∃ k : Nat, a = .int .i64 k ∧ k ≤ L.length ∧ f = .bool (oldest (L.take k)).isSome ∧ wr.heap[w.heap.size]? = some (.cells (best (oldest (L.take k))) 100 (0, 0)) ∧ Below w.heap.size w wr) (fun _ _ a _ => L.length - (intOf a).toNat)
  case atStart => exact ⟨0, rfl, Nat.zero_le _, rfl, unhide r0, unhide HB0⟩
  case round =>
    obtain ⟨k, rfl, hkl, rfl, hrow, hb⟩ := hrel
    have HB := hide hb
    have HROW := hide hrow
    have hr1 := (unhide HR).below hb
    have hbl := lt_of_row hrow
    clear hb hrow HB0 r0
    by_cases hlt : k < L.length
    · have e0 := hr1.at0 k hlt
      have e1 := hr1.at1 k hlt
      have e2 := hr1.at2 k hlt
      have e3 := hr1.at3 k hlt
      have HT := hide (oldest_take L k hlt)
      clear hr1
      generalize L[k] = E at e0 e1 e2 e3 HT
      generalize oldest (L.take k) = o at HROW HT ⊢
      have b1 := alloc_below wr (.cells #[.int .u64 E.key, .int .u64 E.val, .int .i64 E.at_, .bool E.fix] 100)
      have hb1 := hide (bthen (unhide HB) b1)
      have rb1 := hide (Below.row b1 (unhide HROW))
      have rv1 := hide (heap_alloc_new wr (.cells #[.int .u64 E.key, .int .u64 E.val, .int .i64 E.at_, .bool E.fix] 100))
      have C1 := hide (unhide CL E (wr.alloc (.cells #[.int .u64 E.key, .int .u64 E.val, .int .i64 E.at_, .bool E.fix] 100)))
      clear b1
      cases hf : E.fix with
      | true =>
        rw [hf] at C1 e3 hb1 rb1 rv1
        have HO := hide (show pick o E = o by unfold pick; rw [if_pos hf])
        clear hf
        go_wp2_with fail
        refine (unhide C1).mono ?_
        rintro e w2 ⟨rfl, b2⟩
        have hb2 := hide (bthen (unhide hb1) b2)
        have rb2 := hide (Below.row b2 (unhide rb1))
        clear b2 hb1 rb1 e0 e1 e2 e3
        go_wp2_with fail
        go_roundw
        case rel => exact ⟨k + 1, by go_num, by omega, by rw [unhide HT, unhide HO], by rw [unhide HT, unhide HO]; exact unhide rb2, unhide hb2⟩
        case measure => simp [intOf]; omega
      | false =>
        rw [hf] at C1 e3 hb1 rb1 rv1
        cases o with
        | none =>
          have HO := hide (show pick none E = some E by unfold pick; rw [if_neg (by simp [hf])])
          have HF := hide hf
          clear hf
          go_wp2_with fail
          refine (unhide C1).mono ?_
          rintro e w2 ⟨rfl, b2⟩
          have hb2 := hide (bthen (unhide hb1) b2)
          have rb2 := Below.row b2 (unhide rb1)
          have cv2 := cells4 (Below.row b2 (unhide rv1))
          have cb2 := cells4 rb2
          have RB2 := hide (set4 (v0 := .int .u64 E.key) (v1 := .int .u64 E.val) (v2 := .int .i64 E.at_) (v3 := .bool false) rb2)
          clear b2 hb1 rb1 rv1 rb2 e0 e1 e2 e3
          go_wp2_with fail
          go_roundw
          case rel => exact ⟨k + 1, by go_num, by omega, by rw [unhide HT, unhide HO]; rfl, by rw [unhide HT, unhide HO]; rw [best_some, unhide HF]; exact unhide RB2, below4 (unhide hb2) (Nat.le_refl _)⟩
          case measure => simp [intOf]; omega
        | some b =>
          have C2 := hide (fun W => unhide CE E b W)
          rw [hf] at C2
          by_cases hlt2 : E.at_ < b.at_
          · rw [decide_eq_true hlt2] at C2
            have HO := hide (show pick (some b) E = some E by simp [pick, hf, hlt2])
            have HF := hide hf
            clear hf hlt2
            go_wp2_with fail
            refine (unhide C1).mono ?_
            rintro e w2 ⟨rfl, b2⟩
            have hb2 := hide (bthen (unhide hb1) b2)
            have rb2 := Below.row b2 (unhide rb1)
            have rv2 := Below.row b2 (unhide rv1)
            have cv2 := cells4 rv2
            have cb2 := cells4 rb2
            have RV2 := hide rv2
            have RB2 := hide rb2
            clear b2 hb1 rb1 rv1 rb2 rv2 e0 e1 e2 e3
            go_wp2_with fail
            refine (unhide C2 _).mono ?_
            rintro e w3 ⟨rfl, b3⟩
            have hb3 := hide (bthen (unhide hb2) b3)
            have rb3 := Below.row b3 (unhide RB2)
            have cv3 := cells4 (Below.row b3 (unhide RV2))
            have cb3 := cells4 rb3
            have RB3 := hide (set4 (v0 := .int .u64 E.key) (v1 := .int .u64 E.val) (v2 := .int .i64 E.at_) (v3 := .bool false) rb3)
            clear b3 hb2 RB2 RV2 rb3 cv2 cb2
            go_wp2_with fail
            go_roundw
            case rel => exact ⟨k + 1, by go_num, by omega, by rw [unhide HT, unhide HO]; rfl, by rw [unhide HT, unhide HO]; rw [best_some, unhide HF]; exact unhide RB3, below4 (unhide hb3) (Nat.le_refl _)⟩
            case measure => simp [intOf]; omega
          · rw [decide_eq_false hlt2] at C2
            have HO := hide (show pick (some b) E = some b by simp [pick, hf, hlt2])
            clear hf hlt2
            go_wp2_with fail
            refine (unhide C1).mono ?_
            rintro e w2 ⟨rfl, b2⟩
            have hb2 := hide (bthen (unhide hb1) b2)
            have rb2 := Below.row b2 (unhide rb1)
            have rv2 := Below.row b2 (unhide rv1)
            have cv2 := cells4 rv2
            have cb2 := cells4 rb2
            have RB2 := hide rb2
            clear b2 hb1 rb1 rv1 rb2 rv2 e0 e1 e2 e3
            go_wp2_with fail
            refine (unhide C2 _).mono ?_
            rintro e w3 ⟨rfl, b3⟩
            have hb3 := hide (bthen (unhide hb2) b3)
            have rb3 := hide (Below.row b3 (unhide RB2))
            clear b3 hb2 RB2 cv2 cb2
            go_wp2_with fail
            go_roundw
            case rel => exact ⟨k + 1, by go_num, by omega, by rw [unhide HT, unhide HO]; rfl, by rw [unhide HT, unhide HO]; exact unhide rb3, unhide hb3⟩
            case measure => simp [intOf]; omega
    · have hk : L.take k = L := List.take_of_length_le (by omega)
      rw [hk, ← unhide HQ] at HROW
      rw [hk, ← unhide HQ]
      have c0 : wr.cell? ⟨w.heap.size, 0, none⟩ = some (.int .u64 (bestKey q)) := by
        rw [cell_of_row wr w.heap.size 0 _ _ _ (unhide HROW)]
        cases q <;> rfl
      clear hr1 hk
      go_wp2_with fail
      go_ret2
      exact ⟨rfl, unhide HB⟩
theorem first_nil (g : Nat) (w : World) (hv : w.cell? ⟨g, 2, none⟩ = some (.slice none 0 0)) :
    Calls Tryd.prog 48 #[.pointer (some ⟨g, 2, none⟩), .func (.func 49) #[] #[], .func (.func 50) #[] #[]] w fun e w' => e = .returned (.tuple #[.int .u64 0, .bool false]) ∧ Below w.heap.size w w' := by
  have hgl := block_lt_of_cell hv
  go_enter Tryd.func48, Tryd.ntmps48
  go_wp2
  refine wp_loop_rounds 1 ?_
  rw [rounds_succ]
  go_wp2
  go_ret2
  exact ⟨rfl, alloc_below _ _⟩
theorem first_any (B : Nat) (L : List Ent) (v : Value) (g : Nat) (room life : Int) (w : World) (T : Tab B w g room life v L) :
    Calls Tryd.prog 48 #[.pointer (some ⟨g, 2, none⟩), .func (.func 49) #[] #[], .func (.func 50) #[] #[]] w fun e w' => e = .returned (.tuple #[.int .u64 (bestKey (oldest L)), .bool (oldest L).isSome]) ∧ Below w.heap.size w w' := by
  rcases T.own.parts with ⟨rfl, rfl⟩ | ⟨r, cap, R, rfl, _, hr, _⟩
  · exact first_nil g w T.cell
  · exact first_at L r cap g w T.cell (prow_of hr) T.len _ rfl
theorem size_any (B : Nat) (L : List Ent) (v : Value) (g : Nat) (room life : Int) (w : World) (T : Tab B w g room life v L) :
    Calls Tryd.prog 47 #[.pointer (some ⟨g, 2, none⟩)] w fun e w' => e = .returned (.int .i64 (L.length : Int)) ∧ w' = w := by
  have hv := T.cell
  obtain ⟨av, cv, rfl⟩ : ∃ av cv, v = .slice av L.length cv := by
    rcases T.own.parts with ⟨h, rfl⟩ | ⟨r, cap, R, h, _⟩
    · exact ⟨none, 0, h⟩
    · exact ⟨some ⟨r, 0, none⟩, cap, h⟩
  clear T
  generalize L.length = n at *
  go_enter Tryd.func47, Tryd.ntmps47
  go_wp2
  go_ret
  exact ⟨rfl, rfl⟩
end Go.Proofs.YtljhgehlaehgnaaDoor
