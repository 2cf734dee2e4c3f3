/-
  The walk of BindingDoes: whatever is noted, asked, answered, and becomes old, in any order, each answer, and all entries, are as the document says. No condition.
-/
import Derived.Test.YtljhgehlaehgnaaGreatDoorSame12
import Derived.Test.YtljhgehlaehgnaaGreatDoorRow12
namespace Go.Proofs.YtljhgehlaehgnaaGreatDoor.bindingDoes
open Go.ChangeShapes Go.WideShapes Go.ChangeAt Go.RowKit Go.Deep Go.Sort

theorem hasH_new {w W : World} {room life : Int} (b : Below w.heap.size w W) (h : newOk room life) : HasH w W.heap.size room life [] (W.alloc (.cells #[.slice none 0 0, .int .i64 room, .int .i64 life] 57)) := by
  obtain ⟨h1, h2, h3, h4⟩ := h
  exact ⟨alloc_then b, .slice none 0 0, heap_alloc_new _ _, World.ownsRow_nil _ _ _ _, b.size, by simp [Value.ownBlock], List.Pairwise.nil, fun _ h => (by cases h), by simp; omega, h1, h2, h3, h4⟩
set_option maxHeartbeats 8000000 in
set_option maxRecDepth 100000 in
theorem walk (ra rb : Int) (ao : Option Addr) (n cap : Nat) (S : Nat → Bop) (w : World) (h : OpsIn w ao n cap S) :
    Calls Tryz.prog 3 #[.agg #[.int .i64 ra, .int .i64 rb], .slice ao n cap] w fun e w' => e = .returned (.bool true) ∧ Below w.heap.size w w' := by
  obtain ⟨hnc, _, hao⟩ := h
  have ha := i64_and7 ra
  have hb := i64_and31 rb
  obtain ⟨qa, hqa⟩ : ∃ q, ra % 8 = q := ⟨_, rfl⟩
  obtain ⟨qb, hqb⟩ : ∃ q, rb % 32 = q := ⟨_, rfl⟩
  have qa0 : 0 ≤ qa := by omega
  have qa8 : qa < 8 := by omega
  have qb0 : 0 ≤ qb := by omega
  have qb32 : qb < 32 := by omega
  rw [hqa] at ha
  rw [hqb] at hb
  clear hqa hqb
  obtain ⟨ro, hro⟩ : ∃ ro, 1 + qa = ro := ⟨_, rfl⟩
  obtain ⟨li, hli⟩ : ∃ li, 1 + qb = li := ⟨_, rfl⟩
  have hr8 : ro ≤ 8 := by omega
  have hok : newOk ro li := ⟨by omega, by omega, by omega, by omega⟩
  have wa : IntKind.i64.wrap (1 + qa) = ro := by rw [IntKind.wrap_i64]; omega
  have wb : IntKind.i64.wrap (1 + qb) = li := by rw [IntKind.wrap_i64]; omega
  have b0 := alloc_below w (.cells #[.int .i64 ra, .int .i64 rb] 23)
  obtain ⟨s0, s1, -⟩ := cells2 (heap_alloc_new w (.cells #[.int .i64 ra, .int .i64 rb] 23))
  have B0 := hide b0
  have CB := hide (fun W (b : Below w.heap.size w W) => bnew_ok (w := w) (W := W) ro li b hok)
  have CH := hide (fun W => hnew_ok ro li W hok)
  have HN := hide (fun W (b : Below w.heap.size w W) => hasH_new (w := w) (W := W) b hok)
  have CF := hide (fun W => fixed_any W)
  have CT := hide (fun W => ltells_any W)
  have HA := hide hao
  clear b0 hao hro hli hok
  go_enter Tryz.func3, Tryz.ntmps3
  go_wp2_with fail
  go_quiet (fail)
  go_wp2_with fail
  refine (unhide CB _ (drewN_below (unhide B0) _)).mono ?_
  rintro e w1 ⟨g0, p0, rfl, h1, b1⟩
  have H1 := hide h1
  clear h1 b1 CB B0 s0 s1
  go_wp2_with fail
  refine (unhide CH _).mono ?_
  rintro e w2 ⟨rfl, rfl⟩
  have P1 := hide (show Pair w g0 p0 w1.heap.size ro li [] [] _ from ⟨(unhide H1).below (alloc_below w1 (.cells #[.slice none 0 0, .int .i64 ro, .int .i64 li] 57)), unhide HN w1 (unhide H1).has.1, List.Perm.refl _, fun _ h => (by cases h)⟩)
  clear H1 HN CH
  generalize w1.alloc (.cells #[.slice none 0 0, .int .i64 ro, .int .i64 li] 57) = w2 at *
  generalize w1.heap.size = k at *
  go_wp2_with fail
  go_loopg [7, 11, 12] 60 (fun gg t c _ wr => ∃ (i g p : Nat) (L : List Ent) (M : List Hd), c = .int .i64 i ∧ i ≤ n ∧ i ≤ 60 ∧ 60 - i ≤ gg ∧ t = .pointer (some ⟨g, 0, none⟩) ∧ Hid (Pair w g p k ro li L M wr))
  case atStart => exact ⟨0, g0, p0, [], [], rfl, Nat.zero_le _, Nat.zero_le _, Nat.le_refl _, rfl, P1⟩
  case round =>
    obtain ⟨i, g, p, L, M, rfl, hin, hi60, hgg, rfl, HP⟩ := hrel
    generalize wr = wo at *
    clear P1
    by_cases hlt : i < n
    · by_cases hl6 : i < 60
      · obtain ⟨sb, so, rfl, hsb, hS⟩ := (unhide HA).resolve_left (by omega)
        obtain ⟨hc, hokS⟩ := hS i hlt
        obtain ⟨⟨kd, v, a, ip, now⟩, hq⟩ : ∃ q, S i = q := ⟨_, rfl⟩
        rw [hq] at hc hokS
        have CW := hide (fun W (hw : Below w.heap.size w W) => (⟨(hw.cell (p := ⟨sb, _, none⟩) hsb).trans (hc 0 (.int .i64 kd) rfl), (hw.cell (p := ⟨sb, _, none⟩) hsb).trans (hc 1 (.int .i64 v) rfl), (hw.cell (p := ⟨sb, _, none⟩) hsb).trans (hc 2 (.int .i64 a.op) rfl), (hw.cell (p := ⟨sb, _, none⟩) hsb).trans (hc 3 (.int .u64 (a.smac : Int)) rfl), (hw.cell (p := ⟨sb, _, none⟩) hsb).trans (hc 4 (.int .u32 (a.sip : Int)) rfl), (hw.cell (p := ⟨sb, _, none⟩) hsb).trans (hc 5 (.int .u64 (a.tmac : Int)) rfl), (hw.cell (p := ⟨sb, _, none⟩) hsb).trans (hc 6 (.int .u32 (a.tip : Int)) rfl), (hw.cell (p := ⟨sb, _, none⟩) hsb).trans (hc 7 (.int .u32 (ip : Int)) rfl), (hw.cell (p := ⟨sb, _, none⟩) hsb).trans (hc 8 (.int .i64 now) rfl)⟩ : W.cell? ⟨sb, so + i * 9, none⟩ = some (.int .i64 kd) ∧ W.cell? ⟨sb, so + i * 9 + 1, none⟩ = some (.int .i64 v) ∧ W.cell? ⟨sb, so + i * 9 + 2, none⟩ = some (.int .i64 a.op) ∧ W.cell? ⟨sb, so + i * 9 + 3, none⟩ = some (.int .u64 (a.smac : Int)) ∧ W.cell? ⟨sb, so + i * 9 + 4, none⟩ = some (.int .u32 (a.sip : Int)) ∧ W.cell? ⟨sb, so + i * 9 + 5, none⟩ = some (.int .u64 (a.tmac : Int)) ∧ W.cell? ⟨sb, so + i * 9 + 6, none⟩ = some (.int .u32 (a.tip : Int)) ∧ W.cell? ⟨sb, so + i * 9 + 7, none⟩ = some (.int .u32 (ip : Int)) ∧ W.cell? ⟨sb, so + i * 9 + 8, none⟩ = some (.int .i64 now)))
        have HF : Hid a.fits := hokS.1
        have HI : Hid (ip < 4294967296) := hokS.2.1
        have c0 := (unhide CW wo (unhide HP).bnd.has.1).1
        have hic : i < cap := by omega
        have hicI : (i : Int) < (n : Int) := by omega
        clear hc hq hS hokS
        by_cases e4 : kd = 4
        · have d4 : decide (kd = 4) = true := decide_eq_true e4
          have d4' : (kd == 4) = true := by simpa using e4
          have CC := hide (bcopy_any (unhide HP).bnd)
          have NFL := hide (unhide HP).bnd.nf
          clear e4
          go_wp2_with fail
          refine (unhide CC).mono ?_
          rintro e wc ⟨g2, p2, rfl, hcp⟩
          have HC := hide hcp
          clear hcp CC
          go_wp2_with fail
          refine (unhide CT _).mono ?_
          rintro e wt ⟨rfl, bt⟩
          have HC2 := hide ((unhide HC).below bt)
          have CN := hide (was_noted (unhide HC2) (unhide NFL))
          have HK := hide (((unhide HP).has.below (unhide HC).grew).below bt)
          clear HC bt
          go_wp2_with fail
          refine (unhide CN).mono ?_
          rintro e w4 ⟨⟨bo, rfl⟩, h4, s4⟩
          have P4 := hide (show Pair w g2 p2 k ro li L M w4 from ⟨h4, (unhide HK).stays s4 h4.has.1, (unhide HP).perm, (unhide HP).own⟩)
          clear h4 s4 CN HK HC2 NFL HP
          have C1 := hide (same_any kd v now a ip (unhide P4) (unhide HF) (unhide HI))
          obtain ⟨c0', c1, c2, c3, c4, c5, c6, c7, c8⟩ := unhide CW w4 (unhide P4).bnd.has.1
          clear CW HF HI P4 c0
          go_wp2_with fail
          refine (unhide C1).mono ?_
          rintro e w5 ⟨rfl, L2, M2, p5⟩
          have P5 := hide p5
          have CE := hide (has_entries p5.bnd.has)
          have hfit := p5.bnd.fit
          obtain ⟨g0, -⟩ := cells2 p5.bnd.row
          obtain ⟨l, hl⟩ : ∃ l, L2.length = l := ⟨_, rfl⟩
          have HL := hide hl
          have hl8 : l ≤ 8 := by omega
          rw [hl] at CE
          clear p5 C1 c0' c1 c2 c3 c4 c5 c6 c7 c8 hfit hl
          go_wp2_with fail
          refine (unhide CE).mono ?_
          rintro e w6 ⟨rfl, t6, b6⟩
          have T6 := hide t6
          have B6 := hide b6
          have CR : Hid (Calls Tryz.prog 11 #[.pointer (some ⟨k, 0, none⟩)] w6 fun e w' => ∃ r c, e = .returned (.slice (some ⟨r, 0, none⟩) l c) ∧ Tells w6.heap.size w' (.slice (some ⟨r, 0, none⟩) l c) L2 ∧ Below w6.heap.size w6 w') := by
            obtain ⟨_, v, T⟩ := (unhide P5).has.below b6
            have h := hentries_any _ L2 M2 v k ro li w6 T (unhide P5).bnd.srt (unhide P5).perm
            rw [unhide HL] at h
            exact h
          clear t6 b6 CE g0
          go_wp2_with fail
          refine (unhide CR).mono ?_
          rintro e w7 ⟨r7, c7, rfl, t7, b7⟩
          have R1 : Hid (Rrow w7 (some ⟨w5.heap.size, 0, none⟩) l L2) := by
            have t := owns_below (unhide T6) b7
            obtain ⟨ao', c', e, _, r⟩ := Tells.rrow (L := L2) (by rw [← unhide HL] at t; exact t)
            simp at e
            obtain ⟨rfl, _⟩ := e
            rw [unhide HL] at r
            exact r
          have R2 : Hid (Rrow w7 (some ⟨r7, 0, none⟩) l L2) := by
            obtain ⟨ao', c', e, _, r⟩ := Tells.rrow (L := L2) (by rw [← unhide HL] at t7; exact t7)
            simp at e
            obtain ⟨rfl, _⟩ := e
            rw [unhide HL] at r
            exact r
          have CS := hide (fun c d => rsame_any L2 (some ⟨w5.heap.size, 0, none⟩) (some ⟨r7, 0, none⟩) l c d w7 (unhide R1) (unhide R2) (by omega))
          have B7 := hide (bthen (unhide B6) b7)
          clear t7 b7 T6 B6 CR R1 R2
          go_wp2_with fail
          refine (unhide CS _ _).mono ?_
          rintro e w8 ⟨rfl, b8⟩
          have FI := hide ((unhide P5).below (bthen (unhide B7) b8))
          clear b8 B7 CS P5
          go_wp2_with fail
          go_roundg (60 - (i + 1))
          case measure => omega
          case rel => exact ⟨i + 1, g2, p2, L2, M2, by go_num, by omega, by omega, by omega, rfl, FI⟩
        · have d4 : decide (kd = 4) = false := decide_eq_false e4
          have d4' : (kd == 4) = false := by simpa using e4
          clear e4
          have C1 := hide (same_any kd v now a ip (unhide HP) (unhide HF) (unhide HI))
          obtain ⟨c0', c1, c2, c3, c4, c5, c6, c7, c8⟩ := unhide CW wo (unhide HP).bnd.has.1
          clear CW HF HI HP c0
          go_wp2_with fail
          refine (unhide C1).mono ?_
          rintro e w5 ⟨rfl, L2, M2, p5⟩
          have P5 := hide p5
          have CE := hide (has_entries p5.bnd.has)
          have hfit := p5.bnd.fit
          obtain ⟨g0, -⟩ := cells2 p5.bnd.row
          obtain ⟨l, hl⟩ : ∃ l, L2.length = l := ⟨_, rfl⟩
          have HL := hide hl
          have hl8 : l ≤ 8 := by omega
          rw [hl] at CE
          clear p5 C1 c0' c1 c2 c3 c4 c5 c6 c7 c8 hfit hl
          go_wp2_with fail
          refine (unhide CE).mono ?_
          rintro e w6 ⟨rfl, t6, b6⟩
          have T6 := hide t6
          have B6 := hide b6
          have CR : Hid (Calls Tryz.prog 11 #[.pointer (some ⟨k, 0, none⟩)] w6 fun e w' => ∃ r c, e = .returned (.slice (some ⟨r, 0, none⟩) l c) ∧ Tells w6.heap.size w' (.slice (some ⟨r, 0, none⟩) l c) L2 ∧ Below w6.heap.size w6 w') := by
            obtain ⟨_, v, T⟩ := (unhide P5).has.below b6
            have h := hentries_any _ L2 M2 v k ro li w6 T (unhide P5).bnd.srt (unhide P5).perm
            rw [unhide HL] at h
            exact h
          clear t6 b6 CE g0
          go_wp2_with fail
          refine (unhide CR).mono ?_
          rintro e w7 ⟨r7, c7, rfl, t7, b7⟩
          have R1 : Hid (Rrow w7 (some ⟨w5.heap.size, 0, none⟩) l L2) := by
            have t := owns_below (unhide T6) b7
            obtain ⟨ao', c', e, _, r⟩ := Tells.rrow (L := L2) (by rw [← unhide HL] at t; exact t)
            simp at e
            obtain ⟨rfl, _⟩ := e
            rw [unhide HL] at r
            exact r
          have R2 : Hid (Rrow w7 (some ⟨r7, 0, none⟩) l L2) := by
            obtain ⟨ao', c', e, _, r⟩ := Tells.rrow (L := L2) (by rw [← unhide HL] at t7; exact t7)
            simp at e
            obtain ⟨rfl, _⟩ := e
            rw [unhide HL] at r
            exact r
          have CS := hide (fun c d => rsame_any L2 (some ⟨w5.heap.size, 0, none⟩) (some ⟨r7, 0, none⟩) l c d w7 (unhide R1) (unhide R2) (by omega))
          have B7 := hide (bthen (unhide B6) b7)
          clear t7 b7 T6 B6 CR R1 R2
          go_wp2_with fail
          refine (unhide CS _ _).mono ?_
          rintro e w8 ⟨rfl, b8⟩
          have FI := hide ((unhide P5).below (bthen (unhide B7) b8))
          clear b8 B7 CS P5
          go_wp2_with fail
          go_roundg (60 - (i + 1))
          case measure => omega
          case rel => exact ⟨i + 1, g, p, L2, M2, by go_num, by omega, by omega, by omega, rfl, FI⟩
      · have hb2 := hide (unhide HP).bnd.has.1
        clear HP
        go_wp2_with fail
        refine (unhide CF _).mono ?_
        rintro e w9 ⟨rfl, b9⟩
        have B9 := hide (bthen (unhide hb2) b9)
        clear b9
        go_wp2_with fail
        go_ret
        exact ⟨rfl, unhide B9⟩
    · have hb2 := hide (unhide HP).bnd.has.1
      clear HP
      go_wp2_with fail
      refine (unhide CF _).mono ?_
      rintro e w9 ⟨rfl, b9⟩
      have B9 := hide (bthen (unhide hb2) b9)
      clear b9
      go_wp2_with fail
      go_ret
      exact ⟨rfl, unhide B9⟩
end Go.Proofs.YtljhgehlaehgnaaGreatDoor.bindingDoes
