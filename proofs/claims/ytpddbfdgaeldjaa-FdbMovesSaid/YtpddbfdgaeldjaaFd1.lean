/-
  A table of places: what it holds; the contracts of fdb's New and Find.
-/
import Derived.Test.YtpddbfdgaeldjaaKeys11
import Derived.Test.YtpddbfdgaeldjaaMov3
namespace Go.Proofs.Ytpddbfdgaeldjaa
open Go.RowKit Go.Sort

/-- an object that is no row of parts, no table of ages and no map -/
def notT : Obj → Bool
  | .cells _ t _ => !(t == 99) && !(t == 92)
  | .map _ _ => false
  | _ => true
/-- whatever is no part of a table of places stays (mr: the moves' row) -/
def StaysM (mr : Option Nat) (W W' : World) : Prop := ∀ (k : Nat) (o : Obj), notT o = true → some k ≠ mr → W.heap[k]? = some o → W'.heap[k]? = some o
theorem StaysM.of {mr : Option Nat} {W W' : World} (b : Below W.heap.size W W') : StaysM mr W W' := fun _ _ _ _ h => Below.row b h
theorem StaysM.by {mr : Option Nat} {W W' : World} (s : Stays W W') : StaysM mr W W' := fun k o h _ hk => s k o (by
  cases o <;> first | rfl | exact h) hk
/-- a table of places that was made since w: what it holds in W -/
structure Fdb (w : World) (g p b : Nat) (mr : Option Nat) (v : Value) (most win room life : Int) (L : List Ent) (M : List Int) (W : World) : Prop where
  row : W.heap[g]? = some (.cells #[.int .i64 most, .int .i64 win, .pointer (some ⟨p, 0, none⟩), .map (some b)] 66 (0, 0))
  has : Has w p room life L W
  mv : Mv w.heap.size W b mr v M
  low : w.heap.size ≤ g
theorem Fdb.below {w W W' : World} {g p b : Nat} {mr : Option Nat} {v : Value} {most win room life : Int} {L : List Ent} {M : List Int} (h : Fdb w g p b mr v most win room life L M W) (bl : Below W.heap.size W W') : Fdb w g p b mr v most win room life L M W' :=
  ⟨Below.row bl h.row, h.has.below bl, h.mv.below bl, h.low⟩
theorem Fdb.stays {w W W' : World} {g p b : Nat} {mr : Option Nat} {v : Value} {most win room life : Int} {L L' : List Ent} {M : List Int} (h : Fdb w g p b mr v most win room life L M W) (hh : Has w p room life L' W') (s : Stays W W') : Fdb w g p b mr v most win room life L' M W' :=
  ⟨s _ _ rfl h.row, hh, h.mv.stays s, h.low⟩
theorem ent_parts (t : Option Ent) : ∃ (E : Ent) (is : Bool), entO t = .tuple #[.agg #[.int .u64 E.key, .int .u64 E.val, .int .i64 E.at_, .bool E.fix], .bool is] ∧ t = if is then some E else none := by
  cases t with
  | none => exact ⟨⟨0, 0, 0, false⟩, false, rfl, rfl⟩
  | some e => exact ⟨e, true, rfl, rfl⟩
theorem told_mem {life now k : Int} {L : List Ent} {e : Ent} (h : told life now (look L k) = some e) : e ∈ L := by
  unfold told at h
  exact look_mem (Option.filter_eq_some_iff.1 h).1
/-- the answer to where an address is -/
def foundO : Option Ent → Value
  | some e => .tuple #[.agg #[.int .i64 (e.val / 4294967296), .int .u32 (e.val % 4294967296)], .bool true]
  | none => .tuple #[.agg #[.int .i64 0, .int .u32 0], .bool false]
theorem find_not {vid mac now : Int} (g : Nat) (W : World) (hm : 0 ≤ mac ∧ mac < 18446744073709551616) (h : mayB vid mac = false) :
    Calls Try.prog 12 #[.pointer (some ⟨g, 0, none⟩), .int .i64 vid, .int .u64 mac, .int .i64 now] W fun e W' => e = .returned (foundO none) ∧ Below W.heap.size W W' := by
  have C := hide (fun W => may_any vid mac W hm)
  rw [h] at C
  have r0 := heap_alloc_new W (.cells #[.int .i64 0, .int .u32 0] 42)
  obtain ⟨q0, q1, q2, q3⟩ := cells2 r0
  have hB := hide (alloc_below W (.cells #[.int .i64 0, .int .u32 0] 42))
  have R0 := hide r0
  clear r0
  unfold foundO
  go_enter Try.func12, Try.ntmps12
  go_wp2_with fail
  refine (unhide C _).mono ?_
  rintro e w1 ⟨rfl, rfl⟩
  go_wp2_with fail
  refine bodyPost_ret ?_ rfl ⟨rfl, unhide hB⟩
  exact results_row2 rfl _ _ W.heap.size 42 _ _ _ _ rfl rfl (unhide R0) Try.underlying42 rfl (by kernel_rfl)
theorem mac_lt {vid mac : Int} (h : mayB vid mac = true) (hm : 0 ≤ mac) : (1 ≤ vid ∧ vid ≤ 4094) ∧ 0 ≤ mac ∧ mac < 281474976710656 := by
  simp [mayB, ownH] at h
  omega
theorem find_may {w : World} {g p b : Nat} {mr : Option Nat} {v : Value} {most win room life : Int} {L : List Ent} {M : List Int} {vid mac now : Int} (W : World) (hF : Fdb w g p b mr v most win room life L M W) (hm : 0 ≤ mac ∧ mac < 18446744073709551616) (h : mayB vid mac = true) :
    Calls Try.prog 12 #[.pointer (some ⟨g, 0, none⟩), .int .i64 vid, .int .u64 mac, .int .i64 now] W fun e W' => e = .returned (foundO (told life now (look L (vid * 281474976710656 + mac)))) ∧ Below W.heap.size W W' := by
  have C := hide (fun W => may_any vid mac W hm)
  rw [h] at C
  obtain ⟨hv, hmm⟩ := mac_lt h hm.1
  have K := hide (fun W => keyOf_any vid mac W hv hmm)
  have b0 := alloc_below W (.cells #[.int .i64 0, .int .u32 0] 42)
  have F1 := hF.below b0
  obtain ⟨f0, f1, f2, f3, _⟩ := cells4 F1.row
  have G := hide (fun W2 (h : Below (W.alloc (.cells #[.int .i64 0, .int .u32 0] 42)).heap.size (W.alloc (.cells #[.int .i64 0, .int .u32 0] 42)) W2) => has_get (w := w) (W := W2) (g := p) (room := room) (life := life) (L := L) (vid * 281474976710656 + mac) now (F1.has.below h))
  have r0 := heap_alloc_new W (.cells #[.int .i64 0, .int .u32 0] 42)
  obtain ⟨q0, q1, q2, q3⟩ := cells2 r0
  have hB := hide b0
  have R0 := hide r0
  generalize vid * 281474976710656 + mac = key at *
  obtain ⟨E, is, hE, ht⟩ := ent_parts (told life now (look L key))
  have hval : is = true → 0 ≤ E.val ∧ E.val < 18446744073709551616 := by
    rintro rfl
    obtain ⟨_, v', T⟩ := hF.has
    have := T.oks E (told_mem ht)
    exact ⟨this.2.2.1, this.2.2.2.1⟩
  rw [hE] at G
  rw [ht]
  clear hE ht
  clear r0 b0 F1 hF h hv hmm
  go_enter Try.func12, Try.ntmps12
  go_wp2_with fail
  refine (unhide C _).mono ?_
  rintro e w1 ⟨rfl, rfl⟩
  go_wp2_with fail
  have keepG : Hid (∀ W2, Below (W.alloc (.cells #[.int .i64 0, .int .u32 0] 42)).heap.size (W.alloc (.cells #[.int .i64 0, .int .u32 0] 42)) W2 → W2.cell? ⟨g, 2, none⟩ = some (.pointer (some ⟨p, 0, none⟩))) := fun W2 h => (h.cell (p := ⟨g, 2, none⟩) (block_lt_of_cell f2)).trans f2
  generalize W.alloc (.cells #[.int .i64 0, .int .u32 0] 42) = W1 at *
  go_cut [10, 11] (fun x y wx => ∃ X : Nat, x = .pointer (some ⟨X, 0, none⟩) ∧ y = .bool is ∧ Below W1.heap.size W1 wx ∧ wx.heap[X]? = some (.cells #[.int .u64 E.key, .int .u64 E.val, .int .i64 E.at_, .bool E.fix] 72 (0, 0)) ∧ W1.heap.size ≤ X)
  case first =>
    go_region_held3 (fun w' => w'.cell? ⟨g, 2, none⟩ = some (.pointer (some ⟨p, 0, none⟩))) ((refine unhide keepG _ ?_; (repeat (first | (with_reducible exact Below.refl _ _) | (with_reducible refine Below.drew ?_) | (with_reducible refine alloc_then ?_) | (with_reducible refine bthen ?_ B3) | (with_reducible refine Below.setCell ?_ (by first | (show W1.heap.size ≤ W1.heap.size; exact Nat.le_refl _) | (show W1.heap.size ≤ w3.heap.size; exact B3.size)) _))); done))
      ((first | (go_at_call 27; refine (unhide K _).mono ?_; rintro e2 w2 ⟨rfl, rfl⟩) | (go_at_call 26; refine (unhide G _ ?_).mono ?_; (repeat (first | (with_reducible exact Below.refl _ _) | (with_reducible refine Below.drew ?_) | (with_reducible refine alloc_then ?_))); rintro e3 w3 ⟨rfl, B3⟩; (try (have r3 := Below.row B3 (heap_alloc_new W1 (.cells #[.int .u64 0, .int .u64 0, .int .i64 0, .bool false] 72)); obtain ⟨x0, x1, x2, x3, u0, u1, u2, u3⟩ := cells4 r3)))))
    all_goals
      go_wp2_with fail
      go_meet
    · refine ⟨_, rfl, rfl, ?_, heap_alloc_new w3 _, B3.size⟩
      repeat (first | (with_reducible exact Below.refl _ _) | (with_reducible refine Below.drew ?_) | (with_reducible refine alloc_then ?_) | (with_reducible refine bthen ?_ B3))
    all_goals
      refine ⟨_, rfl, rfl, below4 ?_ (Nat.le_refl _), set4 r3, Nat.le_refl _⟩
      repeat (first | (with_reducible exact Below.refl _ _) | (with_reducible refine Below.drew ?_) | (with_reducible refine alloc_then ?_) | (with_reducible refine bthen ?_ B3))
  case rest =>
    obtain ⟨X, rfl, rfl, bc, rX, hX⟩ := hcut
    have RX := hide rX
    obtain ⟨x0, x1, x2, x3, _⟩ := cells4 rX
    have R1 := Below.row bc (unhide R0)
    have HB := hide (bthen (unhide hB) bc)
    cases is with
    | false =>
      clear K G
      obtain ⟨s0, s1, s2, s3⟩ := cells2 R1
      go_wp2_with fail
      refine bodyPost_ret ?_ rfl ⟨rfl, below2 (unhide HB) (Nat.le_refl _)⟩
      exact results_row2 rfl _ _ W.heap.size 42 _ _ _ _ rfl rfl (set2 R1) Try.underlying42 rfl (by kernel_rfl)
    | true =>
      have CT := hide (targetOf_any E.val wc (hval rfl))
      have RR := hide R1
      clear K G hval R1
      go_wp2_with fail
      refine (unhide CT).mono ?_
      rintro e5 w5 ⟨rfl, b5⟩
      have R5 := Below.row b5 (unhide RR)
      obtain ⟨s0, s1, s2, s3⟩ := cells2 R5
      have B5 := hide (bthen (unhide HB) b5)
      have RR5 := hide R5
      clear b5 R5 CT
      go_wp2_with fail
      refine bodyPost_ret ?_ rfl ⟨rfl, below2 (unhide B5) (Nat.le_refl _)⟩
      exact results_row2 rfl _ _ W.heap.size 42 _ _ _ _ rfl rfl (set2 (unhide RR5)) Try.underlying42 rfl (by kernel_rfl)
end Go.Proofs.Ytpddbfdgaeldjaa
