/-
  The contract of gangwayref12's Find.
-/
import Derived.Test.YtljhgehlaehgnaaGreatDoorRef12c
namespace Go.Proofs.YtljhgehlaehgnaaGreatDoor
open Go.RowKit Go.Sort

/-- does what was heard answer -/
def ansH (life now vid ip : Int) (h : Hd) : Bool := (h.vid == vid) && ((h.ip == ip) && (timeB now && decide (now < h.at_ + life)))
/-- the answer of what was heard -/
def macH : Option Hd → Value
  | some h => .tuple #[.int .u64 h.mac, .bool true]
  | none => .tuple #[.int .u64 0, .bool false]
theorem ans_cases (life now vid ip : Int) (h : Hd) : ((h.vid == vid) = false ∧ ansH life now vid ip h = false) ∨ ((h.vid == vid) = true ∧ (h.ip == ip) = false ∧ ansH life now vid ip h = false) ∨ ((h.vid == vid) = true ∧ (h.ip == ip) = true ∧ timeB now = false ∧ ansH life now vid ip h = false) ∨
    ((h.vid == vid) = true ∧ (h.ip == ip) = true ∧ timeB now = true ∧ decide (now < h.at_ + life) = false ∧ ansH life now vid ip h = false) ∨ ((h.vid == vid) = true ∧ (h.ip == ip) = true ∧ timeB now = true ∧ decide (now < h.at_ + life) = true ∧ ansH life now vid ip h = true) := by
  unfold ansH
  cases h.vid == vid <;> cases h.ip == ip <;> cases timeB now <;> cases decide (now < h.at_ + life) <;> simp
set_option maxHeartbeats 4000000 in
set_option maxRecDepth 100000 in
theorem hfind_any (B : Nat) (M : List Hd) (v : Value) (g : Nat) (room life vid ip now : Int) (w : World) (T : HTab B w g room life v M) :
    Calls Tryz.prog 22 #[.pointer (some ⟨g, 0, none⟩), .int .i64 vid, .int .u32 ip, .int .i64 now] w fun e w' => e = .returned (macH (M.find? (ansH life now vid ip))) ∧ Below w.heap.size w w' := by
  obtain ⟨R, hR⟩ : ∃ R, macH (M.find? (ansH life now vid ip)) = R := ⟨_, rfl⟩
  rw [hR]
  have HRR := hide hR
  clear hR
  have CT := hide (fun W => htime_any now W)
  have LI := hide (And.intro T.life1 T.life2)
  obtain ⟨ao, cap, rfl, hc, hrr⟩ := T.own.hrow
  have hgl := T.lt
  have hl := T.len
  have HR := hide hrr
  have hcx := hide T.cells
  have HOK := hide T.oks
  clear T hrr
  go_enter Tryz.func22, Tryz.ntmps22
  go_wp2_with fail
  go_loopw [10, 11] (fun a _ wr => ∃ k : Nat, a = .int .i64 k ∧ k ≤ M.length ∧ Hid (∀ x ∈ M.take k, ansH life now vid ip x = false) ∧ Below w.heap.size w wr) (fun a _ _ => M.length - (intOf a).toNat)
  case atStart => exact ⟨0, rfl, Nat.zero_le _, hide (by simp), Below.refl _ _⟩
  case round =>
    obtain ⟨k, rfl, hkl, hno, hb⟩ := hrel
    have hc0 := (hb.cell (p := ⟨g, 0, none⟩) hgl).trans (unhide hcx).1
    by_cases hlt : k < M.length
    · obtain ⟨ra, rfl, hra, hpr⟩ := ((unhide HR).below hb).2 (by omega)
      have e0 := hpr.at0 k hlt
      have e1 := hpr.at1 k hlt
      have e2 := hpr.at2 k hlt
      have e3 := hpr.at3 k hlt
      have HE := hide (unhide HOK _ (List.getElem_mem hlt))
      have NX : Hid (ansH life now vid ip M[k] = false → ∀ x ∈ M.take (k + 1), ansH life now vid ip x = false) := fun h x hx => by
        rw [List.take_succ_eq_append_getElem hlt] at hx
        rcases List.mem_append.1 hx with hx | hx
        · exact unhide hno x hx
        · obtain rfl : x = M[k] := by simpa using hx
          exact h
      have FD : Hid (ansH life now vid ip M[k] = true → M.find? (ansH life now vid ip) = some M[k]) := fun h => by
        have hM : M = M.take k ++ M[k] :: M.drop (k + 1) := by rw [List.getElem_cons_drop, List.take_append_drop]
        refine List.find?_eq_some_iff_append.2 ⟨h, M.take k, M.drop (k + 1), hM, fun x hx => ?_⟩
        rw [unhide hno x hx]
        rfl
      clear hpr
      generalize M[k] = E at e0 e1 e2 e3 HE NX FD
      obtain ⟨ev, ei, em, at_⟩ := E
      simp only at e0 e1 e2 e3
      have b1 := alloc_below wr (.cells #[.int .i64 ev, .int .u32 ei, .int .u64 em, .int .i64 at_] 75)
      have HA := hide (bthen hb b1)
      have x0 := cells4 (heap_alloc_new wr (.cells #[.int .i64 ev, .int .u32 ei, .int .u64 em, .int .i64 at_] 75))
      have hc2 := (b1.cell (p := ⟨g, 2, none⟩) (Nat.lt_of_lt_of_le hgl hb.size)).trans ((hb.cell (p := ⟨g, 2, none⟩) hgl).trans (unhide hcx).2.2)
      have hat : 0 ≤ at_ ∧ at_ ≤ 1099511627776 := (unhide HE).2.2.2
      have hlf := unhide LI
      have hw : IntKind.i64.wrap (at_ + life) = at_ + life := by rw [IntKind.wrap_i64]; omega
      have hcs := ans_cases life now vid ip ⟨ev, ei, em, at_⟩
      simp only at hcs
      have C : ∀ W, Calls Tryz.prog 35 #[.int .i64 now] W fun e w' => e = .returned (.bool (timeB now)) ∧ w' = W := unhide CT
      clear hb b1
      rcases hcs with ⟨h1, hf⟩ | ⟨h1, h2, hf⟩ | ⟨h1, h2, h3, hf⟩ | ⟨h1, h2, h3, h4, hf⟩ | ⟨h1, h2, h3, h4, hf⟩
      · have N2 := hide (unhide NX hf)
        clear NX FD hf C hw hat hlf
        go_wp2_with fail
        go_quiet (fail)
        go_wp2_with fail
        go_roundw
        case rel => exact ⟨k + 1, by go_num, by omega, N2, drewN_below (unhide HA) _⟩
        case measure => simp [intOf]; omega
      · have N2 := hide (unhide NX hf)
        clear NX FD hf C hw hat hlf
        go_wp2_with fail
        go_quiet (fail)
        go_wp2_with fail
        go_roundw
        case rel => exact ⟨k + 1, by go_num, by omega, N2, drewN_below (unhide HA) _⟩
        case measure => simp [intOf]; omega
      · have N2 := hide (unhide NX hf)
        rw [h3] at C
        clear NX FD hf hw hat hlf
        go_wp2_with fail
        go_quiet ((go_at_call 35; exact Calls.quiet_of_same (C _)))
        go_wp2_with fail
        go_roundw
        case rel => exact ⟨k + 1, by go_num, by omega, N2, drewN_below (unhide HA) _⟩
        case measure => simp [intOf]; omega
      · have N2 := hide (unhide NX hf)
        rw [h3] at C
        clear NX FD hf
        go_wp2_with fail
        go_quiet ((go_at_call 35; exact Calls.quiet_of_same (C _)))
        go_wp2_with fail
        go_roundw
        case rel => exact ⟨k + 1, by go_num, by omega, N2, drewN_below (unhide HA) _⟩
        case measure => simp [intOf]; omega
      · have F2 := hide (unhide FD hf)
        rw [h3] at C
        obtain rfl : R = .tuple #[.int .u64 em, .bool true] := by rw [← unhide HRR, unhide F2]; rfl
        clear NX FD hf F2 HRR
        go_wp2_with fail
        go_quiet ((go_at_call 35; exact Calls.quiet_of_same (C _)))
        go_wp2_with fail
        go_ret2
        exact ⟨rfl, drewN_below (unhide HA) _⟩
    · obtain rfl : k = M.length := by omega
      have hn : M.find? (ansH life now vid ip) = none := by
        refine List.find?_eq_none.2 fun x hx => ?_
        have h := unhide hno x (by rw [List.take_of_length_le (Nat.le_refl _)]; exact hx)
        rw [h]
        simp
      have HB := hide hb
      obtain rfl : R = .tuple #[.int .u64 0, .bool false] := by rw [← unhide HRR, hn]; rfl
      clear hn hb hno HRR
      go_wp2_with fail
      go_ret2
      exact ⟨rfl, unhide HB⟩
end Go.Proofs.YtljhgehlaehgnaaGreatDoor
