/-
  AgesDoes: whatever is put, fixed, asked, taken out, and becomes old, in any order, each answer, and all entries, are as the document says; what is told is its owner's. No condition.
-/
import Derived.Test.YtppfhbcfmekdoaaPair10
import Derived.Test.YtppfhbcfmekdoaaRef10i
namespace Go.Proofs.Ytppfhbcfmekdoaa.agesDoes
open Go.ChangeShapes Go.WideShapes Go.ChangeAt Go.RowKit Go.Deep Go.Sort

theorem twin_keep {B p g : Nat} {W1 W2 : World} {room life : Int} {v' : Value} {L : List Ent} {r : Option Nat} (T : Tab B W1 p room life v' L) (b : But2 g r W1 W2) (hpg : p ≠ g) (hpr : some p ≠ r) (hvg : v'.ownBlock ≠ some g) (hvr : v'.ownBlock = none ∨ v'.ownBlock ≠ r) : Tab B W2 p room life v' L :=
  ⟨b.row hpg hpr T.row, own_row T.own b hvg hvr, T.low, T.apart, T.srt, T.oks, T.fit, T.room1, T.room2, T.life1, T.life2⟩
/-- a copy, behind two calls on what it was copied from -/
theorem copy_kept {B p g : Nat} {W W1 W2 W3 : World} {room life : Int} {v : Value} {L L1 L2 : List Ent} (T : Tab B W g room life v L) (t : Twin B room life L W W1 p) (h1 : Turned B g room life v L1 W1 W2) (h2 : ∀ v1, Tab B W2 g room life v1 L1 → Turned B g room life v1 L2 W2 W3) :
    (∃ v', Tab B W3 p room life v' L) ∧ But2 g v.ownBlock W1 W3 := by
  obtain ⟨v', T', b, hp, hv⟩ := t
  obtain ⟨v1, T1, b1, n1⟩ := h1
  obtain ⟨v2, T2, b2, n2⟩ := h2 v1 T1
  have hg := T.lt
  have hvl := T.vlt
  have hp1 := T'.lt
  have hvl' := T'.vlt
  have k1 : Tab B W2 p room life v' L := by
    refine twin_keep T' b1 (by omega) (fun e => ?_) (fun e => ?_) ?_
    · have := (hvl p e.symm).2; omega
    · have := hv g e; omega
    · cases ho : v'.ownBlock with
      | none => exact .inl rfl
      | some k => exact .inr fun e => by have h1 := hv k ho; have h2 := (hvl k e.symm).2; omega
  refine ⟨⟨v', twin_keep k1 b2 (by omega) (fun e => ?_) (fun e => ?_) ?_⟩, b1.trans n1 b2⟩
  · rcases n1 with n1 | n1
    · rw [n1] at e; have := (hvl p e.symm).2; omega
    · have := n1 p e.symm; omega
  · have := hv g e; omega
  · cases ho : v'.ownBlock with
    | none => exact .inl rfl
    | some k =>
      refine .inr fun e => ?_
      have h1 := hv k ho
      have h2 := (hvl' k ho).2
      rcases n1 with n1 | n1
      · rw [n1] at e; have h3 := (hvl k e.symm).2; omega
      · have := n1 k e.symm; omega
theorem copied_pair {w W W1 W2 W3 : World} {p g g2 : Nat} {room life : Int} {v : Value} {L L1 L2 M : List Ent} (hW : Below w.heap.size w W) (T : Tab w.heap.size W g room life v L) (hr : HasR w g2 room life M W) (t : Twin w.heap.size room life L W W1 p) (h1 : Turned w.heap.size g room life v L1 W1 W2) (h2 : ∀ v1, Tab w.heap.size W2 g room life v1 L1 → Turned w.heap.size g room life v1 L2 W2 W3) :
    Has w p room life L W3 ∧ HasR w g2 room life M W3 := by
  obtain ⟨⟨v', T'⟩, b⟩ := copy_kept T t h1 h2
  obtain ⟨_, _, b1, _⟩ := t
  have T1 := T.below b1
  have hB : Below w.heap.size w W3 := (bthen hW b1).trans (b.below T.low (fun k hk => (T.vlt k hk).1) (Nat.le_trans T.base b1.size))
  refine ⟨⟨hB, v', T'⟩, (hr.below b1).stays (fun k c ty fr n1 n2 hk => b.row ?_ ?_ hk) hB⟩
  · rintro rfl
    have := T1.row
    rw [hk] at this
    simp at this
    exact n2 this.2.1
  · intro e
    obtain ⟨d, hd⟩ := T1.ownRow e.symm
    rw [hk] at hd
    simp at hd
    exact n1 hd.2.1
set_option maxHeartbeats 8000000 in
set_option maxRecDepth 100000 in
theorem walk (a b : Int) (ao : Option Addr) (n cap : Nat) (S : Nat → Int × Int × Int × Int) (w : World) (h : OpsIn w ao n cap S) :
    Calls Try.prog 3 #[.agg #[.int .i64 a, .int .i64 b], .slice ao n cap] w fun e w' => e = .returned (.bool true) ∧ Below w.heap.size w w' := by
  obtain ⟨hnc, _, hao⟩ := h
  obtain ⟨ro, hro⟩ : ∃ ro, roomOf a = ro := ⟨_, rfl⟩
  obtain ⟨li, hli⟩ : ∃ li, lifeOf b = li := ⟨_, rfl⟩
  have hr8 : ro ≤ 8 := by rw [← hro]; unfold roomOf; omega
  have b0 := alloc_below w (.cells #[.int .i64 a, .int .i64 b] 23)
  have CB := hide (begun_any a b w _ b0)
  rw [hro, hli] at CB
  have CF := hide (fun W => fixed_any W)
  have HA := hide hao
  clear b0 hao hro hli
  go_enter Try.func3, Try.ntmps3
  go_wp2_with fail
  refine (unhide CB).mono ?_
  rintro e w1 ⟨g0, g2, rfl, h1, k1, b1⟩
  have H1 := hide h1
  have K1 := hide k1
  clear h1 k1 b1 CB
  go_wp2_with fail
  go_loopg [5, 7, 8, 9, 10] 60 (fun gg t c _ _ _ wr => ∃ (i g : Nat) (L M : List Ent), c = .int .i64 i ∧ i ≤ n ∧ i ≤ 60 ∧ 60 - i ≤ gg ∧ t = .pointer (some ⟨g, 0, none⟩) ∧ Hid (Has w g ro li L wr ∧ HasR w g2 ro li M wr ∧ L.Perm M))
  case atStart => exact ⟨0, g0, [], [], rfl, Nat.zero_le _, Nat.zero_le _, Nat.le_refl _, rfl, hide ⟨unhide H1, unhide K1, List.Perm.refl _⟩⟩
  case round =>
    obtain ⟨i, g, L, M, rfl, hin, hi60, hgg, rfl, HI⟩ := hrel
    generalize wr = wo at *
    clear H1 K1
    by_cases hlt : i < n
    · by_cases hl6 : i < 60
      · obtain ⟨hh, hk2, hp⟩ := unhide HI
        obtain ⟨sb, so, rfl, hsb, hS⟩ := (unhide HA).resolve_left (by omega)
        have hc := hS i hlt
        obtain ⟨⟨kd, key, vv, now⟩, hq⟩ : ∃ q, S i = q := ⟨_, rfl⟩
        rw [hq] at hc
        simp only at hc
        have CW := hide (fun W (hw : Below w.heap.size w W) => (⟨(hw.cell (p := ⟨sb, _, none⟩) hsb).trans hc.1, (hw.cell (p := ⟨sb, _, none⟩) hsb).trans hc.2.1, (hw.cell (p := ⟨sb, _, none⟩) hsb).trans hc.2.2.1, (hw.cell (p := ⟨sb, _, none⟩) hsb).trans hc.2.2.2.1⟩ : _ ∧ _ ∧ _ ∧ _))
        have HK := hide hc.2.2.2.2.1
        have HV := hide hc.2.2.2.2.2
        have c0 := (unhide CW wo hh.1).1
        have hic : i < cap := by omega
        have hicI : (i : Int) < (n : Int) := by omega
        have HH := hide hh
        have HK2 := hide hk2
        have HPM := hide hp
        clear hc hq hh hk2 hp hS HI
        by_cases e6 : kd = 6
        · subst e6
          obtain ⟨hB0, v0, T0⟩ := unhide HH
          have CC := hide (copy_any w.heap.size L v0 g ro li wo T0)
          have TT := hide T0
          have HB0 := hide hB0
          clear T0 hB0
          go_wp2_with fail
          refine (unhide CC).mono ?_
          rintro e w2 ⟨p, rfl, tw⟩
          have TW := hide tw
          have bw : Below wo.heap.size wo w2 := by obtain ⟨_, _, x, _⟩ := tw; exact x
          have CP := hide (put_any w.heap.size L v0 g ro li 777 1 5 w2 ((unhide TT).below bw) (by omega) (by omega))
          clear tw bw CC c0
          go_wp2_with fail
          refine (unhide CP).mono ?_
          rintro e w3 ⟨rfl, t3⟩
          have T3 := hide t3
          obtain ⟨v3, x3, _, _⟩ := t3
          have CD := hide (fun v1 (h : Tab w.heap.size w3 g ro li v1 _) => tdrop_any w.heap.size (putP ro li L ⟨777, 1, 5, false⟩).2 v1 g ro li 0 w3 h)
          have CD3 := hide (unhide CD v3 x3)
          have X3 := hide x3
          clear x3 CP
          go_wp2_with fail
          refine (unhide CD3).mono ?_
          rintro e w4 ⟨rfl, t4⟩
          have PR := copied_pair (unhide HB0) (unhide TT) (unhide HK2) (unhide TW) (unhide T3) (fun v1 h1 => by
            have e1 : v1 = v3 := by
              have a1 := h1.cell
              rw [(unhide X3).cell] at a1
              exact (Option.some.inj a1).symm
            subst e1; exact t4)
          have H4 := hide PR.1
          have K4 := hide PR.2
          clear PR t4 CD CD3 X3 T3 TW TT HB0 HH HK2
          obtain ⟨c0', c1, c2, c3⟩ := unhide CW w4 (unhide H4).1
          have C1 := hide (same_any w w4 p g2 ro li 6 key vv now L M (unhide H4) (unhide K4) (unhide HPM) (unhide HK) (unhide HV))
          clear CW HK HV H4 K4 HPM
          go_wp2_with fail
          refine (unhide C1).mono ?_
          rintro e w5 ⟨rfl, L2, M2, h5, k5, p5, _⟩
          have H5 := hide h5
          have K5 := hide k5
          have P5 := hide p5
          have CE := hide (has_entries h5)
          have hfit := h5.fit
          obtain ⟨l, hl⟩ : ∃ l, L2.length = l := ⟨_, rfl⟩
          have HL := hide hl
          have hl8 : l ≤ 8 := by omega
          rw [hl] at CE
          clear h5 k5 p5 C1 c0' c1 c2 c3 hfit hl
          go_wp2_with fail
          refine (unhide CE).mono ?_
          rintro e w6 ⟨rfl, t6, b6⟩
          have T6 := hide t6
          have B6 := hide b6
          have CR : Hid (Calls Try.prog 16 #[.pointer (some ⟨g2, 0, none⟩)] w6 fun e w' => ∃ r c, e = .returned (.slice (some ⟨r, 0, none⟩) l c) ∧ Tells w6.heap.size w' (.slice (some ⟨r, 0, none⟩) l c) L2 ∧ Below w6.heap.size w6 w') := by
            obtain ⟨_, v, T⟩ := (unhide K5).below b6
            have h := rentries_any _ L2 M2 v g2 ro li w6 T (unhide H5).srt (unhide P5)
            rw [unhide HL] at h
            exact h
          clear t6 b6 CE
          go_wp2_with fail
          refine (unhide CR).mono ?_
          rintro e w7 ⟨r7, c7, rfl, t7, b7⟩
          have R1 : Hid (Rrow w7 (some ⟨w5.heap.size, 0, none⟩) l L2) := by
            have t := owns_below (unhide T6) b7
            obtain ⟨ao', c', e, _, r⟩ := Tells.rrow (L := L2) (by rw [← unhide HL] at t; exact t)
            simp at e
            obtain ⟨rfl, _⟩ := e
            rw [unhide HL] at r
            exact r
          have R2 : Hid (Rrow w7 (some ⟨r7, 0, none⟩) l L2) := by
            obtain ⟨ao', c', e, _, r⟩ := Tells.rrow (L := L2) (by rw [← unhide HL] at t7; exact t7)
            simp at e
            obtain ⟨rfl, _⟩ := e
            rw [unhide HL] at r
            exact r
          have CS := hide (fun c d => rsame_any L2 (some ⟨w5.heap.size, 0, none⟩) (some ⟨r7, 0, none⟩) l c d w7 (unhide R1) (unhide R2) (by omega))
          have B7 := hide (bthen (unhide B6) b7)
          have T7 := hide (owns_below (unhide T6) b7)
          clear t7 b7 T6 B6 CR R1 R2
          go_wp2_with fail
          refine (unhide CS _ _).mono ?_
          rintro e w8 ⟨rfl, b8⟩
          have B8 := hide (bthen (unhide B7) b8)
          have X8 : Hid (∃ cur, w8.heap[w5.heap.size]? = some (.cells cur 41 (0, 0)) ∧ l * 4 ≤ cur.size) := by
            have t := owns_below (unhide T7) b8
            obtain ⟨_, ⟨e, _⟩ | ⟨k, cap', cur, e, _, x1, x2, _, x4, _⟩⟩ := t
            · cases e
            · simp at e
              obtain ⟨rfl, _⟩ := e
              exact ⟨cur, x1, by rw [x4]; exact Nat.mul_le_mul_right 4 (by rw [← unhide HL]; exact x2)⟩
          clear b8 T7 B7 CS
          go_wp2_with fail
          go_loopw [10] (fun x wr2 => ∃ (j : Nat), x = .int .i64 j ∧ j ≤ l ∧ Below w5.heap.size w5 wr2 ∧ ∃ cur, wr2.heap[w5.heap.size]? = some (.cells cur 41 (0, 0)) ∧ l * 4 ≤ cur.size) (fun x _ => l - (intOf x).toNat)
          case atStart => exact ⟨0, rfl, Nat.zero_le _, unhide B8, unhide X8⟩
          case round =>
            obtain ⟨j, rfl, hjl, hb, cur, hrow, hcs⟩ := hrel
            by_cases hj : j < l
            · have hjs : j * 4 + 1 < cur.size := by omega
              have cc : wr.cell? ⟨w5.heap.size, j * 4 + 1, none⟩ = some cur[j * 4 + 1] := by
                rw [cell_of_row wr w5.heap.size (j * 4 + 1) _ _ _ hrow, Array.getElem?_eq_getElem hjs]
              have fz : wr.frozen? ⟨w5.heap.size, j * 4 + 1, none⟩ = false := frozen_of_row wr w5.heap.size (j * 4 + 1) _ _ hrow
              have hs := hide (heap_setCell_same wr w5.heap.size (j * 4 + 1) _ _ (.int .u64 999) hrow)
              have HB := hide (hb.setCell (p := ⟨w5.heap.size, j * 4 + 1, none⟩) (Nat.le_refl _) (.int .u64 999))
              have hji : (j : Int) < (l : Int) := by omega
              clear hb B8 X8 hrow
              go_wp2_with fail
              go_roundw
              case rel => exact ⟨j + 1, by go_num, by omega, unhide HB, _, unhide hs, by simpa using hcs⟩
              case measure => simp [intOf]; omega
            · have FI := hide (show Has w p ro li L2 wr ∧ HasR w g2 ro li M2 wr ∧ L2.Perm M2 from ⟨(unhide H5).below hb, (unhide K5).below hb, unhide P5⟩)
              clear hb B8 X8 hrow
              go_wp2_with fail
              go_roundg (60 - (i + 1))
              case measure => omega
              case rel => exact ⟨i + 1, p, L2, M2, by go_num, by omega, by omega, by omega, rfl, FI⟩
        · have d6 : decide (kd = 6) = false := decide_eq_false e6
          obtain ⟨c0', c1, c2, c3⟩ := unhide CW wo (unhide HH).1
          have C1 := hide (same_any w wo g g2 ro li kd key vv now L M (unhide HH) (unhide HK2) (unhide HPM) (unhide HK) (unhide HV))
          clear CW HK HV HH HK2 HPM
          go_wp2_with fail
          refine (unhide C1).mono ?_
          rintro e w5 ⟨rfl, L2, M2, h5, k5, p5, _⟩
          have H5 := hide h5
          have K5 := hide k5
          have P5 := hide p5
          have CE := hide (has_entries h5)
          have hfit := h5.fit
          obtain ⟨l, hl⟩ : ∃ l, L2.length = l := ⟨_, rfl⟩
          have HL := hide hl
          have hl8 : l ≤ 8 := by omega
          rw [hl] at CE
          clear h5 k5 p5 C1 c0' c1 c2 c3 hfit hl
          go_wp2_with fail
          refine (unhide CE).mono ?_
          rintro e w6 ⟨rfl, t6, b6⟩
          have T6 := hide t6
          have B6 := hide b6
          have CR : Hid (Calls Try.prog 16 #[.pointer (some ⟨g2, 0, none⟩)] w6 fun e w' => ∃ r c, e = .returned (.slice (some ⟨r, 0, none⟩) l c) ∧ Tells w6.heap.size w' (.slice (some ⟨r, 0, none⟩) l c) L2 ∧ Below w6.heap.size w6 w') := by
            obtain ⟨_, v, T⟩ := (unhide K5).below b6
            have h := rentries_any _ L2 M2 v g2 ro li w6 T (unhide H5).srt (unhide P5)
            rw [unhide HL] at h
            exact h
          clear t6 b6 CE
          go_wp2_with fail
          refine (unhide CR).mono ?_
          rintro e w7 ⟨r7, c7, rfl, t7, b7⟩
          have R1 : Hid (Rrow w7 (some ⟨w5.heap.size, 0, none⟩) l L2) := by
            have t := owns_below (unhide T6) b7
            obtain ⟨ao', c', e, _, r⟩ := Tells.rrow (L := L2) (by rw [← unhide HL] at t; exact t)
            simp at e
            obtain ⟨rfl, _⟩ := e
            rw [unhide HL] at r
            exact r
          have R2 : Hid (Rrow w7 (some ⟨r7, 0, none⟩) l L2) := by
            obtain ⟨ao', c', e, _, r⟩ := Tells.rrow (L := L2) (by rw [← unhide HL] at t7; exact t7)
            simp at e
            obtain ⟨rfl, _⟩ := e
            rw [unhide HL] at r
            exact r
          have CS := hide (fun c d => rsame_any L2 (some ⟨w5.heap.size, 0, none⟩) (some ⟨r7, 0, none⟩) l c d w7 (unhide R1) (unhide R2) (by omega))
          have B7 := hide (bthen (unhide B6) b7)
          have T7 := hide (owns_below (unhide T6) b7)
          clear t7 b7 T6 B6 CR R1 R2
          go_wp2_with fail
          refine (unhide CS _ _).mono ?_
          rintro e w8 ⟨rfl, b8⟩
          have B8 := hide (bthen (unhide B7) b8)
          have X8 : Hid (∃ cur, w8.heap[w5.heap.size]? = some (.cells cur 41 (0, 0)) ∧ l * 4 ≤ cur.size) := by
            have t := owns_below (unhide T7) b8
            obtain ⟨_, ⟨e, _⟩ | ⟨k, cap', cur, e, _, x1, x2, _, x4, _⟩⟩ := t
            · cases e
            · simp at e
              obtain ⟨rfl, _⟩ := e
              exact ⟨cur, x1, by rw [x4]; exact Nat.mul_le_mul_right 4 (by rw [← unhide HL]; exact x2)⟩
          clear b8 T7 B7 CS
          go_wp2_with fail
          go_loopw [10] (fun x wr2 => ∃ (j : Nat), x = .int .i64 j ∧ j ≤ l ∧ Below w5.heap.size w5 wr2 ∧ ∃ cur, wr2.heap[w5.heap.size]? = some (.cells cur 41 (0, 0)) ∧ l * 4 ≤ cur.size) (fun x _ => l - (intOf x).toNat)
          case atStart => exact ⟨0, rfl, Nat.zero_le _, unhide B8, unhide X8⟩
          case round =>
            obtain ⟨j, rfl, hjl, hb, cur, hrow, hcs⟩ := hrel
            by_cases hj : j < l
            · have hjs : j * 4 + 1 < cur.size := by omega
              have cc : wr.cell? ⟨w5.heap.size, j * 4 + 1, none⟩ = some cur[j * 4 + 1] := by
                rw [cell_of_row wr w5.heap.size (j * 4 + 1) _ _ _ hrow, Array.getElem?_eq_getElem hjs]
              have fz : wr.frozen? ⟨w5.heap.size, j * 4 + 1, none⟩ = false := frozen_of_row wr w5.heap.size (j * 4 + 1) _ _ hrow
              have hs := hide (heap_setCell_same wr w5.heap.size (j * 4 + 1) _ _ (.int .u64 999) hrow)
              have HB := hide (hb.setCell (p := ⟨w5.heap.size, j * 4 + 1, none⟩) (Nat.le_refl _) (.int .u64 999))
              have hji : (j : Int) < (l : Int) := by omega
              clear hb B8 X8 hrow
              go_wp2_with fail
              go_roundw
              case rel => exact ⟨j + 1, by go_num, by omega, unhide HB, _, unhide hs, by simpa using hcs⟩
              case measure => simp [intOf]; omega
            · have FI := hide (show Has w g ro li L2 wr ∧ HasR w g2 ro li M2 wr ∧ L2.Perm M2 from ⟨(unhide H5).below hb, (unhide K5).below hb, unhide P5⟩)
              clear hb B8 X8 hrow
              go_wp2_with fail
              go_roundg (60 - (i + 1))
              case measure => omega
              case rel => exact ⟨i + 1, g, L2, M2, by go_num, by omega, by omega, by omega, rfl, FI⟩
      · have hd4 : decide ((i : Int) < 60) = false := decide_eq_false (by omega)
        have H1 := hide (unhide HI).1
        clear HI HA
        go_wp2_with fail
        refine (unhide CF _).mono ?_
        rintro e w2 ⟨rfl, b2⟩
        have H2 := hide b2
        clear b2 CF
        go_wp2_with fail
        go_ret
        exact ⟨rfl, bthen (unhide H1).1 (unhide H2)⟩
    · have hd4 : decide ((i : Int) < (n : Int)) = false := decide_eq_false (by omega)
      have H1 := hide (unhide HI).1
      clear HI HA
      go_wp2_with fail
      refine (unhide CF _).mono ?_
      rintro e w2 ⟨rfl, b2⟩
      have H2 := hide b2
      clear b2 CF
      go_wp2_with fail
      go_ret
      exact ⟨rfl, bthen (unhide H1).1 (unhide H2)⟩
set_option maxRecDepth 100000 in
theorem lifted (os : Os) (started : os.Started) (H : Type) (enc : TypeId × Value → H) :
    ReturnsInHanded {} Try.checked os 3 .any (Rows.agesDoesSpec.pre6 enc Try.prog Try.f3 Rows.agesDoesRow.domain false) (Rows.agesDoesSpec.post enc Try.prog Try.f3 false true false false) := by
  refine returnsInHanded_of_change (C := Try.checked) own started (by kernel_rfl) Try.func3
    (ChangeSpec.witness6 (enc := enc) (C := Try.checked) false ⟨#[], #[.agg #[.int .i64 0, .int .i64 0], .slice none 0 0], []⟩ 8 (by kernel_rfl) (by kernel_rfl) (by kernel_rfl) (by kernel_rfl)) ?_
  intro W base args ds gs before hval0 hW _ _
  have hval : ∀ (j : Nat) t v, Try.f3.params[j]? = some t → args[j]? = some v → Value.okWide Try.prog W .any base t v := hval0
  have hW' := hW
  obtain ⟨p, q, hA0, hV, rfl, hfz, hnd⟩ := hW
  have hA : DataW.TrodAll enc Try.prog W 0 (fun _ => true) true Try.f3.params.toList args.toList ds p := hA0
  rw [Try.params3] at hA hval
  obtain ⟨v0, v1, d0, d1, p0, p1, rfl, rfl, rfl, h0, h1⟩ := trodAll_two hA
  obtain ⟨a0, c0, rfl, rfl, rfl, w0, x0⟩ := open_size (hval 0 23 v0 rfl rfl) h0
  have y1 : ∀ x ∈ p1, x.block < W.heap.size := fun x hx => hW'.lt x (by simp [hx])
  obtain ⟨ao1, n1, cap1, S1, rfl, hs1⟩ := open_ops (hval 1 24 v1 rfl rfl) h1 y1
  obtain ⟨rfl, rfl⟩ := trodVars_none hV
  have e1 : Rows.agesDoesSpec.fn H ([sizeD a0 c0, d1] ++ []) = { results := [.lit (.bool true)], args := [sizeD a0 c0, d1] } := by simp [Rows.agesDoesSpec]
  refine (walk a0 c0 ao1 n1 cap1 S1 W hs1).mono fun e W' ⟨he, hb⟩ => ?_
  subst he
  refine ⟨_, rfl, _, _, _, [], [] ++ p1, [], hW', ?_, ?_, ?_, hb.frame _, fun h => by cases h⟩
  · rw [e1]; exact trodAll_mk1 (shut_bool Try.underlying4 true)
  · rw [e1]; exact trodAll_mk2 (shut_size a0 c0 w0 x0) (stay h1 y1 hb)
  · rw [e1]; rfl
theorem said : Rows.AgesDoesSaid :=
  OpenClaim.holds_of_wide 3 Try.f3 rfl rfl rfl rfl rfl rfl rfl ⟨rfl, rfl, rfl, rfl, rfl⟩ rfl rfl rfl rfl rfl (by kernel_rfl) Try.func3 (by kernel_rfl)
    (of_decide_eq_true (by kernel_rfl)) (by unfold Func.isWrapper; rw [if_neg (of_decide_eq_false (by kernel_rfl))]; exact ⟨rfl, rfl⟩)
    (fun os started H enc _ => lifted os started H enc)
end Go.Proofs.Ytppfhbcfmekdoaa.agesDoes
namespace Go.Proofs.Ytppfhbcfmekdoaa
theorem agesDoes_holds : Rows.AgesDoesSaid := agesDoes.said
end Go.Proofs.Ytppfhbcfmekdoaa
