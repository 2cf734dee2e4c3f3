/-
  The contract of gangwayref10's spare: room for one more; the entry that was put longest ago goes, of several the one with the least key; none where all are fixed.
-/
import Derived.Test.YtppfhbcfmekdoaaRef10d
namespace Go.Proofs.Ytppfhbcfmekdoaa
open Go.RowKit Go.Sort

/-- the least one of the first k, or none -/
def SAt (M : List Ent) (k : Nat) (z : Int) : Prop := (z = -1 ∧ ∀ x ∈ M.take k, x.fix = true) ∨ ∃ f, ∃ h : f < M.length, z = (f : Int) ∧ Least (M.take k) M[f]
theorem sat_step {M : List Ent} {k : Nat} {z : Int} (h : k < M.length) (hs : SAt M k z) :
    (M[k].fix = true → SAt M (k + 1) z) ∧ (M[k].fix = false → z = -1 → SAt M (k + 1) (k : Int)) ∧
    (∀ f (hf : f < M.length), z = (f : Int) → M[k].fix = false → ((M[k].at_ < M[f].at_ ∨ (M[k].at_ = M[f].at_ ∧ M[k].key < M[f].key)) → SAt M (k + 1) (k : Int)) ∧ (¬ (M[k].at_ < M[f].at_ ∨ (M[k].at_ = M[f].at_ ∧ M[k].key < M[f].key)) → SAt M (k + 1) z)) := by
  unfold SAt at hs ⊢
  rw [List.take_succ_eq_append_getElem h]
  generalize M.take k = N at hs ⊢
  refine ⟨fun hf => ?_, fun hf hz => ?_, fun f hfl hz hf => ⟨fun hl => ?_, fun hl => ?_⟩⟩
  · rcases hs with ⟨h1, h2⟩ | ⟨f, h1, h2, h3, h4, h5⟩
    · refine .inl ⟨h1, fun x hx => ?_⟩
      rcases List.mem_append.1 hx with hx | hx
      · exact h2 x hx
      · obtain rfl : x = M[k] := by simpa using hx
        exact hf
    · refine .inr ⟨f, h1, h2, by simp [h3], h4, fun x hx hxf => ?_⟩
      rcases List.mem_append.1 hx with hx | hx
      · exact h5 x hx hxf
      · obtain rfl : x = M[k] := by simpa using hx
        rw [hf] at hxf; cases hxf
  · rcases hs with ⟨h1, h2⟩ | ⟨f, h1, h2, _⟩
    · refine .inr ⟨k, h, rfl, by simp, hf, fun x hx hxf => ?_⟩
      rcases List.mem_append.1 hx with hx | hx
      · rw [h2 x hx] at hxf; cases hxf
      · obtain rfl : x = M[k] := by simpa using hx
        exact .inr ⟨rfl, Int.le_refl _⟩
    · omega
  · rcases hs with ⟨h1, h2⟩ | ⟨f', h1, h2, h3, h4, h5⟩
    · omega
    · obtain rfl : f' = f := by omega
      refine .inr ⟨k, h, rfl, by simp, hf, fun x hx hxf => ?_⟩
      rcases List.mem_append.1 hx with hx | hx
      · have := h5 x hx hxf
        omega
      · obtain rfl : x = M[k] := by simpa using hx
        exact .inr ⟨rfl, Int.le_refl _⟩
  · rcases hs with ⟨h1, h2⟩ | ⟨f', h1, h2, h3, h4, h5⟩
    · omega
    · obtain rfl : f' = f := by omega
      refine .inr ⟨f', h1, h2, by simp [h3], h4, fun x hx hxf => ?_⟩
      rcases List.mem_append.1 hx with hx | hx
      · exact h5 x hx hxf
      · obtain rfl : x = M[k] := by simpa using hx
        omega
/-- what spare leaves -/
def Spared (room : Int) (M : List Ent) (b : Bool) (M' : List Ent) : Prop :=
  (b = true ∧ M' = M ∧ (M.length : Int) < room) ∨ (b = false ∧ M' = M ∧ ¬ (M.length : Int) < room ∧ ∀ x ∈ M, x.fix = true) ∨ (b = true ∧ ¬ (M.length : Int) < room ∧ ∃ A c D, M = A ++ c :: D ∧ M' = A ++ D ∧ Least M c)
set_option maxRecDepth 100000 in
theorem rspare_yes (B : Nat) (M : List Ent) (v : Value) (g : Nat) (room life : Int) (w : World) (T : RTab B w g room life v M) (h : (M.length : Int) < room) :
    Calls Try.prog 49 #[.pointer (some ⟨g, 0, none⟩)] w fun e w' => e = .returned (.bool true) ∧ RTurned B g room life v M w w' := by
  have HT := hide T
  obtain ⟨ao, cap, rfl, hc, hrr⟩ := T.own.rrow
  have hf := T.cells
  have hgl := T.lt
  clear T hrr
  have hd : decide ((M.length : Int) < room) = true := decide_eq_true h
  go_enter Try.func49, Try.ntmps49
  go_wp2_with fail
  go_quiet (fail)
  go_wp2_with fail
  go_ret
  exact ⟨rfl, rturned_same (unhide HT) (drewN_below (Below.refl _ _) _)⟩
set_option maxHeartbeats 2000000 in
set_option maxRecDepth 100000 in
theorem rspare_full (B : Nat) (M : List Ent) (v : Value) (g : Nat) (room life : Int) (w : World) (T : RTab B w g room life v M) (h : ¬ (M.length : Int) < room) :
    Calls Try.prog 49 #[.pointer (some ⟨g, 0, none⟩)] w fun e w' => ∃ b M', e = .returned (.bool b) ∧ Spared room M b M' ∧ RTurned B g room life v M' w w' := by
  have hd : decide ((M.length : Int) < room) = false := decide_eq_false h
  have HT := hide T
  obtain ⟨ao, cap, rfl, hc, hrr⟩ := T.own.rrow
  have hf := T.cells
  have hgl := T.lt
  have hl := T.len
  have HH := hide h
  have HR := hide hrr
  have HF := hide hf
  have WO := hide (fun W (b : Below w.heap.size w W) A x D (e : M = A ++ x :: D) => rwithout_any B A D x (.slice ao M.length cap) g room life W (by rw [← e]; exact T.below b))
  clear T hrr
  go_enter Try.func49, Try.ntmps49
  go_wp2_with fail
  go_quiet (fail)
  have hB0 := hide (drewN_below (Below.refl w.heap.size w) nq)
  generalize w.drewN nq = w1 at *
  clear hf hd h
  go_wp2_with fail
  go_loopw [3, 4, 5] (fun f a _ wr => ∃ (k : Nat) (z : Int), a = .int .i64 k ∧ k ≤ M.length ∧ f = .int .i64 z ∧ Hid (SAt M k z) ∧ Below w.heap.size w wr) (fun _ a _ _ => M.length - (intOf a).toNat)
  case atStart => exact ⟨0, -1, rfl, Nat.zero_le _, rfl, hide (.inl ⟨rfl, by simp⟩), unhide hB0⟩
  case round =>
    obtain ⟨k, z, rfl, hkl, rfl, hsat, hb⟩ := hrel
    have hc0 := (hb.cell (p := ⟨g, 0, none⟩) hgl).trans (unhide HF).1
    have HB := hide hb
    clear hB0
    by_cases hlt : k < M.length
    · obtain ⟨ra, rfl, hra, hpr⟩ := ((unhide HR).below hb).2 (by omega)
      have e0 := hpr.at0 k hlt
      have e1 := hpr.at1 k hlt
      have e2 := hpr.at2 k hlt
      have e3 := hpr.at3 k hlt
      have HS := hide (sat_step hlt (unhide hsat))
      have HP := hide hpr
      have hgl2 := block_lt_of_cell hc0
      clear hpr hb
      generalize M[k] = E at e0 e1 e2 e3 HS
      obtain ⟨ek, ev, ea, ef⟩ := E
      simp only at e0 e1 e2 e3
      cases ef with
      | true =>
        have HS1 := hide ((unhide HS).1 rfl)
        have HA := hide (alloc_then (o := .cells #[.int .u64 ek, .int .u64 ev, .int .i64 ea, .bool true] 41) (unhide HB))
        clear HS HP
        go_wp2_with fail
        go_roundw
        case rel => exact ⟨k + 1, z, by go_num, by omega, rfl, HS1, unhide HA⟩
        case measure => simp [intOf]; omega
      | false =>
        have b1 := alloc_below wr (.cells #[.int .u64 ek, .int .u64 ev, .int .i64 ea, .bool false] 41)
        have HA := hide (bthen (unhide HB) b1)
        have x0 := cells4 (heap_alloc_new wr (.cells #[.int .u64 ek, .int .u64 ev, .int .i64 ea, .bool false] 41))
        have y0 := (b1.cell (p := ⟨g, 0, none⟩) hgl2).trans hc0
        rcases unhide hsat with ⟨hz, _⟩ | ⟨f, hf, hz, _⟩
        · subst hz
          have HS1 := hide ((unhide HS).2.1 rfl rfl)
          clear HS HP b1
          go_wp2_with fail
          go_quiet (fail)
          go_wp2_with fail
          go_roundw
          case rel => exact ⟨k + 1, _, by go_num, by omega, rfl, HS1, drewN_below (unhide HA) _⟩
          case measure => simp [intOf]; omega
        · subst hz
          have f0 := (b1.cell (p := ⟨ra, _, none⟩) hra).trans ((unhide HP).at0 f hf)
          have f2 := (b1.cell (p := ⟨ra, _, none⟩) hra).trans ((unhide HP).at2 f hf)
          have HS1 := hide ((unhide HS).2.2 f hf rfl rfl)
          clear HS HP b1
          generalize M[f] = F at f0 f2 HS1
          obtain ⟨fk, fv, fa, ff⟩ := F
          simp only at f0 f2
          have hfi : (f : Int) < (M.length : Int) := by omega
          have hfn : ¬ (f : Int) < 0 := by omega
          have hfd : decide ((f : Int) < 0) = false := decide_eq_false hfn
          by_cases h1 : ea < fa
          · have d1 : decide (ea < fa) = true := decide_eq_true h1
            have HS2 := hide ((unhide HS1).1 (.inl h1))
            clear HS1
            go_wp2_with fail
            go_quiet (fail)
            go_wp2_with fail
            go_roundw
            case rel => exact ⟨k + 1, _, by go_num, by omega, rfl, HS2, drewN_below (unhide HA) _⟩
            case measure => simp [intOf]; omega
          · have d1 : decide (ea < fa) = false := decide_eq_false h1
            by_cases h2 : ea = fa
            · have d2 : decide (ea = fa) = true := decide_eq_true h2
              by_cases h3 : ek < fk
              · have d3 : decide (ek < fk) = true := decide_eq_true h3
                have HS2 := hide ((unhide HS1).1 (.inr ⟨h2, h3⟩))
                clear HS1
                subst h2
                go_wp2_with fail
                go_quiet (fail)
                go_wp2_with fail
                go_roundw
                case rel => exact ⟨k + 1, _, by go_num, by omega, rfl, HS2, drewN_below (unhide HA) _⟩
                case measure => simp [intOf]; omega
              · have d3 : decide (ek < fk) = false := decide_eq_false h3
                have HS2 := hide ((unhide HS1).2 (fun h => h.elim h1 (fun h => h3 h.2)))
                clear HS1
                subst h2
                go_wp2_with fail
                go_quiet (fail)
                go_wp2_with fail
                go_roundw
                case rel => exact ⟨k + 1, _, by go_num, by omega, rfl, HS2, drewN_below (unhide HA) _⟩
                case measure => simp [intOf]; omega
            · have d2 : decide (ea = fa) = false := decide_eq_false h2
              have HS2 := hide ((unhide HS1).2 (fun h => h.elim h1 (fun h => h2 h.1)))
              clear HS1
              go_wp2_with fail
              go_quiet (fail)
              go_wp2_with fail
              go_roundw
              case rel => exact ⟨k + 1, _, by go_num, by omega, rfl, HS2, drewN_below (unhide HA) _⟩
              case measure => simp [intOf]; omega
    · obtain rfl : k = M.length := by omega
      rcases unhide hsat with ⟨hz, hall⟩ | ⟨f, hf, hz, hle⟩
      · subst hz
        have hall' : ∀ x ∈ M, x.fix = true := by rw [List.take_of_length_le (Nat.le_refl _)] at hall; exact hall
        have FIN := hide (show Spared room M false M from .inr (.inl ⟨rfl, rfl, Int.not_lt.2 (unhide HH), hall'⟩))
        clear hall hall' hb
        go_wp2_with fail
        go_ret
        exact ⟨false, M, rfl, unhide FIN, rturned_same (unhide HT) (unhide HB)⟩
      · subst hz
        have hM : M = M.take f ++ M[f] :: M.drop (f + 1) := by rw [List.getElem_cons_drop, List.take_append_drop]
        have hle' : Least M M[f] := by rw [List.take_of_length_le (Nat.le_refl _)] at hle; exact hle
        have FIN := hide (show Spared room M true (M.take f ++ M.drop (f + 1)) from .inr (.inr ⟨rfl, Int.not_lt.2 (unhide HH), _, _, _, hM, rfl, hle'⟩))
        have CW := hide (unhide WO wr hb _ _ _ hM)
        rw [show (M.take f).length = f by rw [List.length_take]; omega] at CW
        have hfn : (0 : Int) ≤ (f : Int) := by omega
        have hfd : decide ((0 : Int) ≤ (f : Int)) = true := decide_eq_true hfn
        clear hM hle hle' hb
        go_wp2_with fail
        refine (unhide CW).mono ?_
        rintro e w3 ⟨rfl, t3⟩
        have FT := hide (show RTurned B g room life (.slice ao M.length cap) (M.take f ++ M.drop (f + 1)) w w3 from (rturned_same (unhide HT) (unhide HB)).trans fun v1 T1 => by
          have e : v1 = .slice ao M.length cap := by
            have h1 := T1.cells.1
            rw [hc0] at h1
            exact (Option.some.inj h1).symm
          subst e; exact t3)
        clear t3
        go_wp2_with fail
        go_ret
        exact ⟨true, _, rfl, unhide FIN, unhide FT⟩
theorem rspare_any (B : Nat) (M : List Ent) (v : Value) (g : Nat) (room life : Int) (w : World) (T : RTab B w g room life v M) :
    Calls Try.prog 49 #[.pointer (some ⟨g, 0, none⟩)] w fun e w' => ∃ b M', e = .returned (.bool b) ∧ Spared room M b M' ∧ RTurned B g room life v M' w w' := by
  by_cases h : (M.length : Int) < room
  · exact (rspare_yes B M v g room life w T h).mono fun e w' ⟨h1, h2⟩ => ⟨true, M, h1, .inl ⟨rfl, rfl, h⟩, h2⟩
  · exact rspare_full B M v g room life w T h
end Go.Proofs.Ytppfhbcfmekdoaa
