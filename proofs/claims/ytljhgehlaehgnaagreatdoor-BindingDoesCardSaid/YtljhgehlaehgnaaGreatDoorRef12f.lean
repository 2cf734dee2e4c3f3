/-
  The contract of gangwayref12's Note.
-/
import Derived.Test.YtljhgehlaehgnaaGreatDoorRef12e
import Derived.Test.YtljhgehlaehgnaaGreatDoorRef5
namespace Go.Proofs.YtljhgehlaehgnaaGreatDoor
open Go.RowKit Go.Sort

/-- what a message tells of who sent it -/
def hdOf (vid : Int) (a : Ar) (now : Int) : Hd := ⟨vid, a.sip, a.smac, now⟩
theorem hdOf_ent (vid : Int) (a : Ar) (now : Int) : (hdOf vid a now).ent = noteE vid a now := rfl
set_option maxRecDepth 100000 in
theorem hnote_no (g : Nat) (vid now op s i t j c : Int) (tb : Bool) (w : World)
    (K : Hid (∀ W, Calls Tryz.prog 34 #[.agg #[.int .i64 op, .int .u64 s, .int .u32 i, .int .u64 t, .int .u32 j]] W fun e w' => e = .returned (.int .i64 c) ∧ Below W.heap.size W w'))
    (C : Hid (∀ W, Calls Tryz.prog 35 #[.int .i64 now] W fun e w' => e = .returned (.bool tb) ∧ w' = W))
    (h : vid < 1 ∨ (1 ≤ vid ∧ 4094 < vid) ∨ (1 ≤ vid ∧ vid ≤ 4094 ∧ (c != 0) = true) ∨ (1 ≤ vid ∧ vid ≤ 4094 ∧ (c != 0) = false ∧ (i == 0) = true) ∨ (1 ≤ vid ∧ vid ≤ 4094 ∧ (c != 0) = false ∧ (i == 0) = false ∧ tb = false)) :
    Calls Tryz.prog 20 #[.pointer (some ⟨g, 0, none⟩), .int .i64 vid, .agg #[.int .i64 op, .int .u64 s, .int .u32 i, .int .u64 t, .int .u32 j], .int .i64 now] w fun e w' => e = .returned (.bool false) ∧ Below w.heap.size w w' := by
  have b0 := alloc_below w (.cells #[.int .i64 op, .int .u64 s, .int .u32 i, .int .u64 t, .int .u32 j] 35)
  have r0 := heap_alloc_new w (.cells #[.int .i64 op, .int .u64 s, .int .u32 i, .int .u64 t, .int .u32 j] 35)
  obtain ⟨x0, x1, x2, x3, x4, -⟩ := cells5 r0
  have B0 := hide b0
  have R0 := hide r0
  clear b0 r0
  rcases h with h1 | ⟨h1, h2⟩ | ⟨h1, h2, h3⟩ | ⟨h1, h2, h3, h4⟩ | ⟨h1, h2, h3, h4, rfl⟩
  · go_enter Tryz.func20, Tryz.ntmps20
    go_wp2_with fail
    go_ret
    exact ⟨rfl, unhide B0⟩
  · go_enter Tryz.func20, Tryz.ntmps20
    go_wp2_with fail
    go_ret
    exact ⟨rfl, unhide B0⟩
  all_goals
    have n1 : ¬ vid < 1 := by omega
    have n2 : ¬ 4094 < vid := by omega
    clear h1 h2
    go_enter Tryz.func20, Tryz.ntmps20
    go_wp2_with fail
    refine (unhide K _).mono ?_
    rintro e w2 ⟨rfl, b2⟩
    have B2 := hide (bthen (unhide B0) b2)
    obtain ⟨y0, y1, y2, y3, y4, -⟩ := cells5 (Below.row b2 (unhide R0))
    clear b2 x0 x1 x2 x3 x4 K
    go_wp2_with (first | (go_at_call 35; refine (unhide C _).mono ?_; rintro e w3 ⟨rfl, rfl⟩))
    go_ret
    first | exact ⟨rfl, unhide B2⟩
/-- behind a Note that notes -/
def NotedH (room life : Int) (M : List Hd) (x : Hd) (M' : List Hd) : Prop := (∃ A y D, M = A ++ y :: D ∧ y.ent.key = x.ent.key ∧ M' = A ++ x :: D) ∨ ((∀ y ∈ M, y.ent.key ≠ x.ent.key) ∧ ∃ M2, PutH room (keptH life x.at_ M) M2 ∧ M' = M2 ++ [x])
theorem huniq_put {A D : List Hd} {x y : Hd} (h : HUniq (A ++ y :: D)) (hk : y.ent.key = x.ent.key) : HUniq (A ++ x :: D) := by
  unfold HUniq at h ⊢
  rw [List.map_append, List.map_cons] at h ⊢
  exact uniq_put h hk
theorem hoks_put {A D : List Hd} {x y : Hd} (h : HOks (A ++ y :: D)) (hx : x.ok) : HOks (A ++ x :: D) := by
  intro e he
  simp at he
  rcases he with h1 | rfl | h1
  · exact h e (by simp [h1])
  · exact hx
  · exact h e (by simp [h1])
set_option maxHeartbeats 8000000 in
set_option maxRecDepth 100000 in
theorem hnote_yes (B : Nat) (M : List Hd) (v : Value) (g : Nat) (room life vid now op s i t j : Int) (w : World) (T : HTab B w g room life v M) (hx : (Hd.mk vid i s now).ok) (hz : (i == 0) = false)
    (K : Hid (∀ W, Calls Tryz.prog 34 #[.agg #[.int .i64 op, .int .u64 s, .int .u32 i, .int .u64 t, .int .u32 j]] W fun e w' => e = .returned (.int .i64 0) ∧ Below W.heap.size W w'))
    (C : Hid (∀ W, Calls Tryz.prog 35 #[.int .i64 now] W fun e w' => e = .returned (.bool true) ∧ w' = W)) :
    Calls Tryz.prog 20 #[.pointer (some ⟨g, 0, none⟩), .int .i64 vid, .agg #[.int .i64 op, .int .u64 s, .int .u32 i, .int .u64 t, .int .u32 j], .int .i64 now] w fun e w' => e = .returned (.bool true) ∧ ∃ M', NotedH room life M ⟨vid, i, s, now⟩ M' ∧ HTurned B g room life v M' w w' := by
  have b0 := alloc_below w (.cells #[.int .i64 op, .int .u64 s, .int .u32 i, .int .u64 t, .int .u32 j] 35)
  have r0 := heap_alloc_new w (.cells #[.int .i64 op, .int .u64 s, .int .u32 i, .int .u64 t, .int .u32 j] 35)
  obtain ⟨x0, x1, x2, x3, x4, -⟩ := cells5 r0
  have B0 := hide b0
  have R0 := hide r0
  have n1 : ¬ vid < 1 := by have := hx.1; simp only at this; omega
  have n2 : ¬ 4094 < vid := by have := hx.1; simp only at this; omega
  have HX := hide hx
  have HT := hide T
  clear b0 r0 T hx
  go_enter Tryz.func20, Tryz.ntmps20
  go_wp2_with fail
  refine (unhide K _).mono ?_
  rintro e w2 ⟨rfl, b2⟩
  have B2 := hide (bthen (unhide B0) b2)
  have RA := hide (Below.row b2 (unhide R0))
  obtain ⟨y0, y1, y2, y3, y4, -⟩ := cells5 (unhide RA)
  clear b2 x0 x1 x2 x3 x4 K R0 B0
  go_wp2_with fail
  refine (unhide C _).mono ?_
  rintro e w3 ⟨rfl, rfl⟩
  go_wp2_with fail
  have b4 := alloc_below w3 (.cells #[.int .i64 vid, .int .u32 i, .int .u64 s, .int .i64 now] 75)
  have RX := hide (heap_alloc_new w3 (.cells #[.int .i64 vid, .int .u32 i, .int .u64 s, .int .i64 now] 75))
  have R4 := hide (Below.row b4 (unhide RA))
  have B4 := hide (bthen (unhide B2) b4)
  generalize w3.alloc (.cells #[.int .i64 vid, .int .u32 i, .int .u64 s, .int .i64 now] 75) = w4 at *
  generalize w3.heap.size = X at *
  clear b4 B2 RA y0 y1 y2 y3 y4
  have T4 := (unhide HT).below (unhide B4)
  obtain ⟨ao, cap, rfl, hc, hrr⟩ := T4.own.hrow
  have hgl := T4.lt
  have hl := T4.len
  have hcx := hide T4.cells
  have HR := hide hrr
  have TT := hide T4
  have rxl := lt_of_row (unhide RX)
  clear hrr T4
  go_loopw [10] (fun I wr => ∃ k : Nat, I = .int .i64 k ∧ k ≤ M.length ∧ Hid (∀ y ∈ M.take k, y.ent.key ≠ (Hd.mk vid i s now).ent.key) ∧ Below w4.heap.size w4 wr) (fun I _ => M.length - (intOf I).toNat)
  case atStart => exact ⟨0, rfl, Nat.zero_le _, hide (by simp), Below.refl _ _⟩
  case round =>
    obtain ⟨k, rfl, hkl, hno, hb⟩ := hrel
    have hc0 := (hb.cell (p := ⟨g, 0, none⟩) hgl).trans (unhide hcx).1
    obtain ⟨x0, x1, x2, x3, -⟩ := cells4 (Below.row hb (unhide RX))
    obtain ⟨y0, y1, y2, y3, y4, -⟩ := cells5 (Below.row hb (unhide R4))
    by_cases hlt : k < M.length
    · obtain ⟨ra, rfl, hra, hpr⟩ := ((unhide HR).below hb).2 (by omega)
      have e0 := hpr.at0 k hlt
      have e1 := hpr.at1 k hlt
      have hki : (k : Int) < (M.length : Int) := by omega
      have hkc : k < cap := by omega
      have key := hd_key ((unhide TT).oks _ (List.getElem_mem hlt)) (unhide HX)
      have NX : Hid (¬ (M[k].vid = vid ∧ M[k].ip = i) → ∀ y ∈ M.take (k + 1), y.ent.key ≠ (Hd.mk vid i s now).ent.key) := fun h y hy => by
        rw [List.take_succ_eq_append_getElem hlt] at hy
        rcases List.mem_append.1 hy with hy | hy
        · exact unhide hno y hy
        · obtain rfl : y = M[k] := by simpa using hy
          exact fun e => h (key.1 e)
      by_cases hv : M[k].vid = vid
      · by_cases hi : M[k].ip = i
        · have HM := hide (show M = M.take k ++ M[k] :: M.drop (k + 1) by rw [List.getElem_cons_drop, List.take_append_drop])
          have HK := hide (key.2 ⟨hv, hi⟩)
          have ev : (M[k].vid == vid) = true := by simpa using hv
          have ei : (M[k].ip == i) = true := by simpa using hi
          have HB := hide hb
          clear hpr NX key hv hi hno hb
          generalize hE : M[k] = E at *
          clear hE
          generalize E.vid = evid at e0 ev
          generalize E.ip = eip at e1 ei
          go_wp2_with fail
          go_quiet (fail)
          have hb := bthen (unhide HB) (drewN_below (Below.refl wr.heap.size wr) nq)
          clear hc0 x0 x1 x2 x3 y0 y1 y2 y3 y4 e0 e1 HB
          generalize wr.drewN nq = wq at *
          have hc0 := (hb.cell (p := ⟨g, 0, none⟩) hgl).trans (unhide hcx).1
          obtain ⟨x0, x1, x2, x3, -⟩ := cells4 (Below.row hb (unhide RX))
          have hrw : ∃ R, wq.heap[ra]? = some (.cells (hcs M ++ R).toArray 75 (0, 0)) ∧ B ≤ ra ∧ cap ≤ maxLen ∧ M.length * 4 + R.length = cap * 4 := by
            rcases ((unhide TT).below hb).own.parts with ⟨h1, h2⟩ | ⟨r, cap', R, h1, h2, h3, h4, h5, h6⟩
            · simp at h1
            · simp at h1
              obtain ⟨rfl, rfl⟩ := h1
              exact ⟨R, h3, h2, h5, h6⟩
          obtain ⟨R, hr, hBr, hcm, hRl⟩ := hrw
          have hlk : (M.take k).length = k := by rw [List.length_take]; omega
          have hlen : (M.take k ++ (Hd.mk vid i s now) :: M.drop (k + 1)).length = M.length := by simp; omega
          have hr2 := hr
          rw [unhide HM] at hr2
          have CX := hrow_cells (A := M.take k) (D := M.drop (k + 1)) (y := E) hr2
          rw [hlk] at CX
          obtain ⟨z0, z1, z2, z3, f0, f1, f2, f3⟩ := CX
          have FIN := hide (show ∃ M', NotedH room life M ⟨vid, i, s, now⟩ M' ∧ HTurned B g room life (.slice (some ⟨ra, 0, none⟩) M.length cap) M' w (((((wq.setCell ⟨ra, k * 4, none⟩ (.int .i64 vid)).setCell ⟨ra, k * 4 + 1, none⟩ (.int .u32 i)).setCell ⟨ra, k * 4 + 2, none⟩ (.int .u64 s)).setCell ⟨ra, k * 4 + 3, none⟩ (.int .i64 now)).drew) from ⟨M.take k ++ (Hd.mk vid i s now) :: M.drop (k + 1), .inl ⟨_, _, _, unhide HM, unhide HK, rfl⟩, by
            have hu := (unhide HT).uniq
            rw [unhide HM] at hu
            have ho := (unhide HT).oks
            rw [unhide HM] at ho
            have hp := hrow_put (x := ⟨vid, i, s, now⟩) hr2
            rw [hlk] at hp
            refine (hturned_row (L' := M.take k ++ (Hd.mk vid i s now) :: M.drop (k + 1)) (unhide HT) (bthen (unhide B4) hb) (put4_grown wq ra (k * 4) (.int .i64 vid) (.int .u32 i) (.int .u64 s) (.int .i64 now)) ?_ (huniq_put hu (unhide HK)) (hoks_put ho (unhide HX)) (by rw [hlen]; exact (unhide HT).fit)).then (Below.drew (Below.refl _ _))
            have ht := htells_of (L := M.take k ++ (Hd.mk vid i s now) :: M.drop (k + 1)) hBr hp (by rw [hlen]; exact hc) hcm (by rw [hlen]; exact hRl)
            rw [hlen] at ht
            exact ht⟩)
          clear hr hr2 hlen hRl hlk hb HM HK
          go_wp2_with fail
          go_region
          all_goals
            go_wp2_with fail
            go_ret
            exact ⟨rfl, unhide FIN⟩
        · have ev : (M[k].vid == vid) = true := by simpa using hv
          have ei : (M[k].ip == i) = false := by simpa using hi
          have N2 := hide (unhide NX (fun h => hi h.2))
          have HB := hide hb
          clear hpr NX key hv hi hno hb
          generalize M[k].vid = evid at e0 ev
          generalize M[k].ip = eip at e1 ei
          go_wp2_with fail
          go_quiet (fail)
          go_wp2_with fail
          go_roundw
          case rel => exact ⟨k + 1, by go_num, by omega, N2, bthen (unhide HB) (drewN_below (Below.refl wr.heap.size wr) _)⟩
          case measure => simp [intOf]; omega
      · have ev : (M[k].vid == vid) = false := by simpa using hv
        have N2 := hide (unhide NX (fun h => hv h.1))
        have HB := hide hb
        clear hpr NX key hv hno hb
        generalize M[k].vid = evid at e0 ev
        generalize M[k].ip = eip at e1
        go_wp2_with fail
        go_quiet (fail)
        go_wp2_with fail
        go_roundw
        case rel => exact ⟨k + 1, by go_num, by omega, N2, bthen (unhide HB) (drewN_below (Below.refl wr.heap.size wr) _)⟩
        case measure => simp [intOf]; omega
    · obtain rfl : k = M.length := by omega
      have NK : ∀ y ∈ M, y.ent.key ≠ (Hd.mk vid i s now).ent.key := fun y hy => unhide hno y (by rw [List.take_of_length_le (Nat.le_refl _)]; exact hy)
      have CP := hide (hput_any B M (.slice ao M.length cap) g room life ⟨vid, i, s, now⟩ wr ((unhide TT).below hb) (unhide HX) NK)
      have NK2 := hide NK
      have HB := hide (bthen (unhide B4) hb)
      clear NK hno hb
      go_wp2_with fail
      refine (unhide CP).mono ?_
      rintro e w5 ⟨rfl, M2, hp, v5, t5, b5, n5⟩
      have FIN := hide (show ∃ M', NotedH room life M ⟨vid, i, s, now⟩ M' ∧ HTurned B g room life (.slice ao M.length cap) M' w w5 from ⟨_, .inr ⟨unhide NK2, M2, hp, rfl⟩, HTurned.seq ((But2.of (g := g) (r := (Value.slice ao M.length cap).ownBlock) (unhide HB))) (Nb.refl _ _) ⟨v5, t5, b5, n5⟩⟩)
      clear hp t5 b5 n5
      go_wp2_with fail
      go_ret
      exact ⟨rfl, unhide FIN⟩
end Go.Proofs.YtljhgehlaehgnaaGreatDoor
