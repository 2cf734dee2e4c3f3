/-
  The contract of Table's Get: a key's entry, unless it is old.
-/
import Derived.Test.YtljhgehlaehgnaaDoorAg11
namespace Go.Proofs.YtljhgehlaehgnaaDoor
open Go.RowKit Go.Sort

/-- an entry, as it is told -/
def Ent.ent (e : Ent) : Value := .agg #[.int .u64 e.key, .int .u64 e.val, .int .i64 e.at_, .bool e.fix]
/-- no entry -/
def noEnt : Value := .agg #[.int .u64 0, .int .u64 0, .int .i64 0, .bool false]
/-- what is told of a key -/
def told (life now : Int) (o : Option Ent) : Option Ent := o.filter fun e => timeB now && !oldE life now e
/-- an entry that is told, or none -/
def entO : Option Ent → Value
  | some e => .tuple #[e.ent, .bool true]
  | none => .tuple #[noEnt, .bool false]
theorem look_key {L : List Ent} {k : Int} {e : Ent} (h : look L k = some e) : e.key = k := by simpa using List.find?_some h
theorem look_mem {L : List Ent} {k : Int} {e : Ent} (h : look L k = some e) : e ∈ L := List.mem_of_find?_eq_some h
set_option maxRecDepth 100000 in
theorem tget_none (B : Nat) (L : List Ent) (v : Value) (g : Nat) (room life key now : Int) (w : World) (T : Tab B w g room life v L) (h : look L key = none) :
    Calls Tryd.prog 23 #[.pointer (some ⟨g, 0, none⟩), .int .u64 key, .int .i64 now] w fun e w' => e = .returned (.tuple #[noEnt, .bool false]) ∧ Below w.heap.size w w' := by
  have b0 := alloc_below w (.cells #[.int .u64 0, .int .u64 0, .int .i64 0, .bool false] 82)
  have T0 := T.below b0
  have C := hide (get_none B L v g 2 key _ T0.cell T0.own T0.len T0.srt h)
  have r0 := hide (heap_alloc_new w (.cells #[.int .u64 0, .int .u64 0, .int .i64 0, .bool false] 82))
  have B0 := hide b0
  clear T T0 h b0
  unfold noEnt
  go_enter Tryd.func23, Tryd.ntmps23
  go_wp2_with fail
  refine (unhide C).mono ?_
  rintro e w1 ⟨rfl, b1⟩
  have b2 := alloc_then (o := .cells #[.int .u64 0, .int .i64 0, .bool false] 86) (bthen (unhide B0) b1)
  have r2 := Below.row (alloc_below w1 (.cells #[.int .u64 0, .int .i64 0, .bool false] 86)) (Below.row b1 (unhide r0))
  have B2 := hide b2
  have R2 := hide r2
  have hf := cells4 r2
  clear b1 b2 B0 r0 C r2
  go_wp2_with fail
  refine bodyPost_ret (v := .tuple #[.agg #[.int .u64 0, .int .u64 0, .int .i64 0, .bool false], .bool false]) ?_ rfl ⟨rfl, below4 (unhide B2) (Nat.le_refl _)⟩
  exact results_row2 rfl _ _ w.heap.size 82 _ _ _ _ rfl rfl (set4 (unhide R2)) Tryd.underlying82 rfl (by kernel_rfl)
set_option maxRecDepth 100000 in
theorem tget_gone (B : Nat) (L : List Ent) (v : Value) (g : Nat) (room life key now : Int) (x : Ent) (w : World) (T : Tab B w g room life v L) (h : look L key = some x) (ht : timeB now = false ∨ oldE life now x = true) :
    Calls Tryd.prog 23 #[.pointer (some ⟨g, 0, none⟩), .int .u64 key, .int .i64 now] w fun e w' => e = .returned (.tuple #[noEnt, .bool false]) ∧ Below w.heap.size w w' := by
  have hgl := T.lt
  have b0 := alloc_below w (.cells #[.int .u64 0, .int .u64 0, .int .i64 0, .bool false] 82)
  have T0 := T.below b0
  have C := hide (get_some B L v g 2 key x _ T0.cell T0.own T0.len T0.srt h)
  have r0 := hide (heap_alloc_new w (.cells #[.int .u64 0, .int .u64 0, .int .i64 0, .bool false] 82))
  have B0 := hide b0
  have hx := hide (T.oks x (look_mem h))
  have HT := hide T
  have I := hide (fun W => isTime_any now W)
  clear T T0 h b0
  unfold noEnt
  unfold Ent.st at C
  go_enter Tryd.func23, Tryd.ntmps23
  go_wp2_with fail
  refine (unhide C).mono ?_
  rintro e w1 ⟨rfl, b1⟩
  have b2 := alloc_then (o := .cells #[.int .u64 x.val, .int .i64 x.at_, .bool x.fix] 86) (bthen (unhide B0) b1)
  have r2 := Below.row (alloc_below w1 (.cells #[.int .u64 x.val, .int .i64 x.at_, .bool x.fix] 86)) (Below.row b1 (unhide r0))
  have O := hide (old_any g life now x (w1.alloc (.cells #[.int .u64 x.val, .int .i64 x.at_, .bool x.fix] 86)) (cells3 (((unhide HT).below b2).row)).2.1 (unhide hx) (unhide HT).life1 (unhide HT).life2)
  unfold Ent.st at O
  have B2 := hide b2
  have R2 := hide r2
  have hf := cells4 r2
  clear b1 b2 B0 r0 C r2 HT hx
  cases htm : timeB now with
  | false =>
    rw [htm] at I
    clear htm ht O
    go_wp2_with fail
    refine (unhide I _).mono ?_
    rintro e w2 ⟨rfl, rfl⟩
    go_wp2_with fail
    refine bodyPost_ret (v := .tuple #[.agg #[.int .u64 0, .int .u64 0, .int .i64 0, .bool false], .bool false]) ?_ rfl ⟨rfl, below4 (unhide B2) (Nat.le_refl _)⟩
    exact results_row2 rfl _ _ w.heap.size 82 _ _ _ _ rfl rfl (set4 (unhide R2)) Tryd.underlying82 rfl (by kernel_rfl)
  | true =>
    rw [htm] at I
    have ho : oldE life now x = true := by simpa [htm] using ht
    rw [ho] at O
    clear htm ht ho hf
    go_wp2_with fail
    refine (unhide I _).mono ?_
    rintro e w2 ⟨rfl, rfl⟩
    go_wp2_with fail
    refine (unhide O).mono ?_
    rintro e w3 ⟨rfl, b3⟩
    have B3 := hide (bthen (unhide B2) b3)
    have r3 := Below.row b3 (unhide R2)
    have R3 := hide r3
    have hf := cells4 r3
    clear b3 r3 R2 B2
    go_wp2_with fail
    refine bodyPost_ret (v := .tuple #[.agg #[.int .u64 0, .int .u64 0, .int .i64 0, .bool false], .bool false]) ?_ rfl ⟨rfl, below4 (unhide B3) (Nat.le_refl _)⟩
    exact results_row2 rfl _ _ w.heap.size 82 _ _ _ _ rfl rfl (set4 (unhide R3)) Tryd.underlying82 rfl (by kernel_rfl)
set_option maxRecDepth 100000 in
theorem tget_some (B : Nat) (L : List Ent) (v : Value) (g : Nat) (room life key now : Int) (x : Ent) (w : World) (T : Tab B w g room life v L) (h : look L key = some x) (ht : timeB now = true) (ho : oldE life now x = false) :
    Calls Tryd.prog 23 #[.pointer (some ⟨g, 0, none⟩), .int .u64 key, .int .i64 now] w fun e w' => e = .returned (.tuple #[x.ent, .bool true]) ∧ Below w.heap.size w w' := by
  have hgl := T.lt
  have b0 := alloc_below w (.cells #[.int .u64 0, .int .u64 0, .int .i64 0, .bool false] 82)
  have T0 := T.below b0
  have C := hide (get_some B L v g 2 key x _ T0.cell T0.own T0.len T0.srt h)
  have r0 := hide (heap_alloc_new w (.cells #[.int .u64 0, .int .u64 0, .int .i64 0, .bool false] 82))
  have B0 := hide b0
  have hx := hide (T.oks x (look_mem h))
  have HT := hide T
  have I := hide (fun W => isTime_any now W)
  rw [ht] at I
  have E := hide (fun W => entry_any key x W)
  have hk := look_key h
  clear T T0 h b0 ht
  unfold Ent.ent
  rw [hk]
  clear hk
  unfold Ent.st at C E
  go_enter Tryd.func23, Tryd.ntmps23
  go_wp2_with fail
  refine (unhide C).mono ?_
  rintro e w1 ⟨rfl, b1⟩
  have b2 := alloc_then (o := .cells #[.int .u64 x.val, .int .i64 x.at_, .bool x.fix] 86) (bthen (unhide B0) b1)
  have r2 := Below.row (alloc_below w1 (.cells #[.int .u64 x.val, .int .i64 x.at_, .bool x.fix] 86)) (Below.row b1 (unhide r0))
  have s2 := hide (heap_alloc_new w1 (.cells #[.int .u64 x.val, .int .i64 x.at_, .bool x.fix] 86))
  have O := hide (old_any g life now x (w1.alloc (.cells #[.int .u64 x.val, .int .i64 x.at_, .bool x.fix] 86)) (cells3 (((unhide HT).below b2).row)).2.1 (unhide hx) (unhide HT).life1 (unhide HT).life2)
  unfold Ent.st at O
  rw [ho] at O
  have B2 := hide b2
  have R2 := hide r2
  clear b1 b2 B0 r0 C r2 HT hx ho
  go_wp2_with fail
  refine (unhide I _).mono ?_
  rintro e w2 ⟨rfl, rfl⟩
  go_wp2_with fail
  refine (unhide O).mono ?_
  rintro e w3 ⟨rfl, b3⟩
  have hs := cells3 (Below.row b3 (unhide s2))
  have B3 := hide (bthen (unhide B2) b3)
  have R3 := hide (Below.row b3 (unhide R2))
  clear b3 R2 B2 s2 O I
  go_wp2_with fail
  refine (unhide E _).mono ?_
  rintro e w4 ⟨rfl, b4⟩
  have B4 := hide (bthen (unhide B3) b4)
  have r4 := Below.row b4 (unhide R3)
  have R4 := hide r4
  have hf := cells4 r4
  clear b4 r4 R3 B3 E hs
  go_wp2_with fail
  refine bodyPost_ret (v := .tuple #[.agg #[.int .u64 key, .int .u64 x.val, .int .i64 x.at_, .bool x.fix], .bool true]) ?_ rfl ⟨rfl, below4 (unhide B4) (Nat.le_refl _)⟩
  exact results_row2 rfl _ _ w.heap.size 82 _ _ _ _ rfl rfl (set4 (unhide R4)) Tryd.underlying82 rfl (by kernel_rfl)
theorem tget_any (B : Nat) (L : List Ent) (v : Value) (g : Nat) (room life key now : Int) (w : World) (T : Tab B w g room life v L) :
    Calls Tryd.prog 23 #[.pointer (some ⟨g, 0, none⟩), .int .u64 key, .int .i64 now] w fun e w' => e = .returned (entO (told life now (look L key))) ∧ Below w.heap.size w w' := by
  cases h : look L key with
  | none => exact tget_none B L v g room life key now w T h
  | some x =>
    cases ht : timeB now with
    | false =>
      rw [show told life now (some x) = none by simp [told, ht]]
      exact tget_gone B L v g room life key now x w T h (.inl ht)
    | true =>
      cases ho : oldE life now x with
      | true =>
        rw [show told life now (some x) = none by simp [told, ho]]
        exact tget_gone B L v g room life key now x w T h (.inr ho)
      | false =>
        rw [show told life now (some x) = some x by simp [told, ht, ho]]
        exact tget_some B L v g room life key now x w T h ht ho
end Go.Proofs.YtljhgehlaehgnaaDoor
