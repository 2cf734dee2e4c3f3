/-
  The contracts of gangwayref10's Get, Drop and Same.
-/
import Derived.Test.YtppfhbcfmekdoaaRef10g
namespace Go.Proofs.Ytppfhbcfmekdoaa
open Go.RowKit Go.Sort

set_option maxRecDepth 100000 in
theorem rget_none (B : Nat) (M : List Ent) (v : Value) (g : Nat) (room life key now : Int) (w : World) (T : RTab B w g room life v M) (h : look M key = none) :
    Calls Try.prog 32 #[.pointer (some ⟨g, 0, none⟩), .int .u64 key, .int .i64 now] w fun e w' => e = .returned (.tuple #[noEnt, .bool false]) ∧ Below w.heap.size w w' := by
  have b0 := alloc_below w (.cells #[.int .u64 0, .int .u64 0, .int .i64 0, .bool false] 41)
  have P := hide (rplace_none B M v g room life key _ (T.below b0) h)
  have r0 := heap_alloc_new w (.cells #[.int .u64 0, .int .u64 0, .int .i64 0, .bool false] 41)
  have R0 := hide r0
  have B0 := hide b0
  have hf := cells4 r0
  clear T h b0 r0
  unfold noEnt
  go_enter Try.func32, Try.ntmps32
  go_wp2_with fail
  refine (unhide P).mono ?_
  rintro e w1 ⟨rfl, rfl⟩
  go_wp2_with fail
  refine bodyPost_ret (v := .tuple #[.agg #[.int .u64 0, .int .u64 0, .int .i64 0, .bool false], .bool false]) ?_ rfl ⟨rfl, unhide B0⟩
  exact results_row2 rfl _ _ w.heap.size 41 _ _ _ _ rfl rfl (unhide R0) Try.underlying41 rfl (by kernel_rfl)
set_option maxHeartbeats 8000000 in
set_option maxRecDepth 100000 in
theorem rget_at (B : Nat) (A D : List Ent) (y : Ent) (v : Value) (g : Nat) (room life key now : Int) (w : World) (T : RTab B w g room life v (A ++ y :: D)) (hk : y.key = key) :
    Calls Try.prog 32 #[.pointer (some ⟨g, 0, none⟩), .int .u64 key, .int .i64 now] w fun e w' => e = .returned (entO (told life now (some y))) ∧ Below w.heap.size w w' := by
  subst hk
  have b0 := alloc_below w (.cells #[.int .u64 0, .int .u64 0, .int .i64 0, .bool false] 41)
  have hA : ∀ x ∈ A, x.key ≠ y.key := fun x hx => by exact (List.pairwise_append.1 T.uniq).2.2 x hx y (by simp)
  have T0 := T.below b0
  have P := hide (rplace_some B A D y v g room life y.key _ T0 rfl hA)
  have r0 := heap_alloc_new w (.cells #[.int .u64 0, .int .u64 0, .int .i64 0, .bool false] 41)
  have R0 := hide r0
  have B0 := hide b0
  have hf := cells4 r0
  rcases T.own.parts with ⟨_, h⟩ | ⟨r, cap, R, rfl, hB, hr, hcap, hm, hR⟩
  · simp at h
  have hc := T0.cells.1
  have hgl0 := T.lt
  have hgl := T0.lt
  have hl := T.len
  have hrl0 := lt_of_row hr
  have hr2 := Below.row b0 hr
  obtain ⟨e0, e1, e2, e3, _⟩ := erow_cells hr2
  have hrl := lt_of_row hr2
  have hlt : A.length < (A ++ y :: D).length := by simp
  have hge : ¬ (A.length : Int) < 0 := by omega
  have hge2 : decide ((A.length : Int) < 0) = false := decide_eq_false hge
  have C := hide (fun W => rtime_any now W)
  have O := hide (rold_any g life now y _ T0.cells.2.2 (T.oks y (by simp)) T.life1 T.life2)
  have KP := hide (fun W (b : Below (w.alloc (.cells #[.int .u64 0, .int .u64 0, .int .i64 0, .bool false] 41)).heap.size (w.alloc (.cells #[.int .u64 0, .int .u64 0, .int .i64 0, .bool false] 41)) W) =>
    (⟨(b.cell (p := ⟨g, 0, none⟩) hgl).trans hc, (b.cell (p := ⟨r, _, none⟩) hrl).trans e0, (b.cell (p := ⟨r, _, none⟩) hrl).trans e1, (b.cell (p := ⟨r, _, none⟩) hrl).trans e2, (b.cell (p := ⟨r, _, none⟩) hrl).trans e3⟩ : _ ∧ _ ∧ _ ∧ _ ∧ _))
  clear T T0 hA hr hr2 r0 hm hR hcap hB
  generalize (A ++ y :: D).length = n at *
  generalize A.length = i at *
  cases htm : timeB now with
  | false =>
    rw [htm] at C
    rw [show told life now (some y) = none by simp [told, htm]]
    unfold entO noEnt
    simp only
    clear O KP htm b0
    go_enter Try.func32, Try.ntmps32
    go_wp2_with fail
    generalize (w.alloc (.cells #[.int .u64 0, .int .u64 0, .int .i64 0, .bool false] 41)) = W0 at *
    refine (unhide P).mono ?_
    rintro e w1 ⟨rfl, rfl⟩
    go_wp2_with fail
    refine (unhide C _).mono ?_
    rintro e w2 ⟨rfl, rfl⟩
    go_wp2_with fail
    refine bodyPost_ret (v := .tuple #[.agg #[.int .u64 0, .int .u64 0, .int .i64 0, .bool false], .bool false]) ?_ rfl ⟨rfl, below4 (unhide B0) (Nat.le_refl _)⟩
    exact results_row2 rfl _ _ w.heap.size 41 _ _ _ _ rfl rfl (set4 (unhide R0)) Try.underlying41 rfl (by kernel_rfl)
  | true =>
    rw [htm] at C
    cases ho : oldE life now y with
    | true =>
      rw [ho] at O
      rw [show told life now (some y) = none by simp [told, ho]]
      unfold entO noEnt
      simp only
      clear htm ho KP b0
      go_enter Try.func32, Try.ntmps32
      go_wp2_with fail
      generalize (w.alloc (.cells #[.int .u64 0, .int .u64 0, .int .i64 0, .bool false] 41)) = W0 at *
      refine (unhide P).mono ?_
      rintro e w1 ⟨rfl, rfl⟩
      go_wp2_with fail
      refine (unhide C _).mono ?_
      rintro e w2 ⟨rfl, rfl⟩
      go_wp2_with fail
      refine (unhide O).mono ?_
      rintro e w3 ⟨rfl, b3⟩
      have B3 := hide (bthen (unhide B0) b3)
      have r3 := Below.row b3 (unhide R0)
      have R3 := hide r3
      have hf3 := cells4 r3
      clear b3 r3 R0 B0 hf
      go_wp2_with fail
      refine bodyPost_ret (v := .tuple #[.agg #[.int .u64 0, .int .u64 0, .int .i64 0, .bool false], .bool false]) ?_ rfl ⟨rfl, below4 (unhide B3) (Nat.le_refl _)⟩
      exact results_row2 rfl _ _ w.heap.size 41 _ _ _ _ rfl rfl (set4 (unhide R3)) Try.underlying41 rfl (by kernel_rfl)
    | false =>
      rw [ho] at O
      rw [show told life now (some y) = some y by simp [told, htm, ho]]
      unfold entO Ent.ent
      simp only
      clear htm ho b0
      go_enter Try.func32, Try.ntmps32
      go_wp2_with fail
      generalize (w.alloc (.cells #[.int .u64 0, .int .u64 0, .int .i64 0, .bool false] 41)) = W0 at *
      refine (unhide P).mono ?_
      rintro e w1 ⟨rfl, rfl⟩
      go_wp2_with fail
      refine (unhide C _).mono ?_
      rintro e w2 ⟨rfl, rfl⟩
      go_wp2_with fail
      refine (unhide O).mono ?_
      rintro e w3 ⟨rfl, b3⟩
      have B3 := hide (bthen (unhide B0) b3)
      have r3 := Below.row b3 (unhide R0)
      have R3 := hide r3
      have hf3 := cells4 r3
      obtain ⟨hc3, k0, k1, k2, k3⟩ := unhide KP w3 b3
      have hgl3 := block_lt_of_cell hc3
      have hrl3 := block_lt_of_cell k0
      clear b3 r3 R0 B0 hf KP
      go_wp2_with fail
      refine bodyPost_ret (v := .tuple #[.agg #[.int .u64 y.key, .int .u64 y.val, .int .i64 y.at_, .bool y.fix], .bool true]) ?_ rfl ⟨rfl, below4 (unhide B3) (Nat.le_refl _)⟩
      exact results_row2 rfl _ _ w.heap.size 41 _ _ _ _ rfl rfl (set4 (unhide R3)) Try.underlying41 rfl (by kernel_rfl)
theorem rget_any (B : Nat) (L M : List Ent) (v : Value) (g : Nat) (room life key now : Int) (w : World) (T : RTab B w g room life v M) (hs : Srt L) (hp : L.Perm M) :
    Calls Try.prog 32 #[.pointer (some ⟨g, 0, none⟩), .int .u64 key, .int .i64 now] w fun e w' => e = .returned (entO (told life now (look L key))) ∧ Below w.heap.size w w' := by
  have hl := perm_look hs hp key
  rw [← hl]
  cases hy : look M key with
  | none => exact rget_none B M v g room life key now w T hy
  | some y =>
    obtain ⟨A, D, rfl, hyk, _, _⟩ := mlook_some T.uniq hy
    exact rget_at B A D y v g room life key now w T hyk
set_option maxRecDepth 100000 in
theorem rdrop_any (B : Nat) (L M : List Ent) (v : Value) (g : Nat) (room life key : Int) (w : World) (T : RTab B w g room life v M) (hs : Srt L) (hp : L.Perm M) :
    Calls Try.prog 33 #[.pointer (some ⟨g, 0, none⟩), .int .u64 key] w fun e w' => ∃ M', e = .returned (.bool (look L key).isSome) ∧ (del L key).Perm M' ∧ RTurned B g room life v M' w w' := by
  have hl := perm_look hs hp key
  cases hy : look L key with
  | none =>
    rw [hy] at hl
    have P := hide (rplace_none B M v g room life key w T hl)
    have FIN := hide (rturned_same T (Below.refl _ _))
    have HP := hide hp
    have HD := hide (del_none hy)
    clear T hs hp hy hl
    go_enter Try.func33, Try.ntmps33
    go_wp2_with fail
    refine (unhide P).mono ?_
    rintro e w1 ⟨rfl, rfl⟩
    go_wp2_with fail
    go_ret
    exact ⟨M, rfl, by rw [unhide HD]; exact unhide HP, unhide FIN⟩
  | some y =>
    rw [hy] at hl
    obtain ⟨A, D, rfl, hyk, hA, _⟩ := mlook_some T.uniq hl
    have P := hide (rplace_some B A D y v g room life key w T hyk hA)
    have W := hide (rwithout_any B A D y v g room life w T)
    have HD := hide (perm_del hs hp hyk)
    have hge2 : decide ((0 : Int) ≤ (A.length : Int)) = true := decide_eq_true (by omega)
    clear T hs hp hy hl hA
    go_enter Try.func33, Try.ntmps33
    go_wp2_with fail
    refine (unhide P).mono ?_
    rintro e w1 ⟨rfl, rfl⟩
    go_wp2_with fail
    refine (unhide W).mono ?_
    rintro e w2 ⟨rfl, t2⟩
    have FIN := hide t2
    clear t2
    go_wp2_with fail
    go_ret
    exact ⟨_, rfl, unhide HD, unhide FIN⟩
theorem differ_entry (a b c : Int) (f : Bool) (W : World) : (binOp .neq 41 (.agg #[.int .u64 a, .int .u64 b, .int .i64 c, .bool f]) (.agg #[.int .u64 a, .int .u64 b, .int .i64 c, .bool f])).run Try.prog W = .ok (.bool false) W := by
  rw [run_neq_struct, run_equalIn_agg _ _ _ _ _ fieldsEntry heldEntry]
  simp [go_sem, Try.underlying41]
set_option maxHeartbeats 1000000 in
set_option maxRecDepth 100000 in
theorem rsame_any (L : List Ent) (ao bo : Option Addr) (n c d : Nat) (w : World) (ha : Rrow w ao n L) (hb : Rrow w bo n L) (hn : n ≤ 4096) :
    Calls Try.prog 15 #[.slice ao n c, .slice bo n d] w fun e w' => e = .returned (.bool true) ∧ Below w.heap.size w w' := by
  have HA := hide ha
  have HB := hide hb
  clear ha hb
  go_enter Try.func15, Try.ntmps15
  go_wp2_with fail
  go_loopw [5] (fun a wr => ∃ k : Nat, a = .int .i64 k ∧ k ≤ n ∧ Below w.heap.size w wr) (fun a _ => n - (intOf a).toNat)
  case atStart => exact ⟨0, rfl, Nat.zero_le _, Below.refl _ _⟩
  case round =>
    obtain ⟨k, rfl, hkl, hbl⟩ := hrel
    by_cases hlt : k < n
    · obtain ⟨r1, rfl, hr1, hp1⟩ := ((unhide HA).below hbl).2 (by omega)
      obtain ⟨r2, rfl, hr2, hp2⟩ := ((unhide HB).below hbl).2 (by omega)
      have hkl2 : k < L.length := by rw [(unhide HA).1]; exact hlt
      have e0 := hp1.at0 k hkl2
      have e1 := hp1.at1 k hkl2
      have e2 := hp1.at2 k hkl2
      have e3 := hp1.at3 k hkl2
      have f0 := hp2.at0 k hkl2
      have f1 := hp2.at1 k hkl2
      have f2 := hp2.at2 k hkl2
      have f3 := hp2.at3 k hkl2
      have HBL := hide hbl
      clear hp1 hp2 hbl
      generalize L[k] = E at *
      have NE := fun W => differ_entry E.key E.val E.at_ E.fix W
      have hki : (k : Int) < (n : Int) := by omega
      go_wp2_with fail
      go_quiet (fail)
      go_wp2_with fail
      go_roundw
      case rel => exact ⟨k + 1, by go_num, by omega, drewN_below (unhide HBL) _⟩
      case measure => simp [intOf]; omega
    · go_wp2_with fail
      go_ret
      exact ⟨rfl, hbl⟩
end Go.Proofs.Ytppfhbcfmekdoaa
