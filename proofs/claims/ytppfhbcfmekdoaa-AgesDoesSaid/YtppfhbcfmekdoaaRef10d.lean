/-
  The contracts of gangwayref10's Clear and Expire: a list of all that stay.
-/
import Derived.Test.YtppfhbcfmekdoaaRef10c
namespace Go.Proofs.Ytppfhbcfmekdoaa
open Go.RowKit Go.Sort

theorem mkept_take (p : Ent → Bool) {M : List Ent} {k : Nat} (h : k < M.length) : kept p (M.take (k + 1)) = if p M[k] then kept p (M.take k) else kept p (M.take k) ++ [M[k]] := by
  rw [List.take_succ_eq_append_getElem h]
  unfold kept
  rw [List.filter_append]
  cases hp : p M[k] <;> simp [hp]
theorem uniq_kept {p : Ent → Bool} {M : List Ent} (h : Uniq M) : Uniq (kept p M) := List.Pairwise.filter _ h
theorem len_kept (p : Ent → Bool) (M : List Ent) : (kept p M).length ≤ M.length := List.length_filter_le _ _
set_option maxHeartbeats 1000000 in
set_option maxRecDepth 100000 in
theorem rclear_any (B : Nat) (M : List Ent) (v : Value) (g : Nat) (room life val d : Int) (w : World) (T : RTab B w g room life v M) (hd : d = (M.length : Int) - ((kept (hasVal val) M).length : Int)) :
    Calls Try.prog 34 #[.pointer (some ⟨g, 0, none⟩), .int .u64 val] w fun e w' => e = .returned (.int .i64 d) ∧ RTurned B g room life v (kept (hasVal val) M) w w' := by
  obtain ⟨p, hp⟩ : ∃ p, p = hasVal val := ⟨_, rfl⟩
  have hP := hide hp
  rw [← hp] at hd ⊢
  clear hp
  have fin := hide (fun W V (h : Acc w W V (kept p M)) => rturned_new T h.2 h.1 (uniq_kept T.uniq) (kept_oks T.oks) (by have := T.fit; have := len_kept p M; omega))
  obtain ⟨ao, cap, rfl, hc, hrr⟩ := T.own.rrow
  have hgl := T.lt
  have hl := T.len
  have HR := hide hrr
  have hcx := hide T.cells.1
  have hfz := hide (fun W (b : Below w.heap.size w W) => (cells3 (Below.row b T.row)).2.2.2.1)
  have A0 := hide (acc_new (Below.refl w.heap.size w))
  have KT := hide (fun k h => mkept_take p (M := M) (k := k) h)
  have HD := hide hd
  have HOK := hide T.oks
  clear T hrr hd
  go_enter Try.func34, Try.ntmps34
  go_wp2_with fail
  go_loopw [5, 6] (fun V a wr => ∃ (k r c m : Nat), a = .int .i64 k ∧ k ≤ M.length ∧ V = .slice (some ⟨r, 0, none⟩) m c ∧ Hid ((kept p (M.take k)).length = m ∧ Acc w wr (.slice (some ⟨r, 0, none⟩) m c) (kept p (M.take k)))) (fun _ a _ => M.length - (intOf a).toNat)
  case atStart => exact ⟨0, _, 0, 0, rfl, Nat.zero_le _, rfl, hide ⟨by simp [kept], by simpa [kept] using unhide A0⟩⟩
  case round =>
    obtain ⟨k, r, c, m, rfl, hkl, rfl, hacc⟩ := hrel
    have hb := (unhide hacc).2.2
    have hc0 := (hb.cell (p := ⟨g, 0, none⟩) hgl).trans (unhide hcx)
    by_cases hlt : k < M.length
    · obtain ⟨ra, rfl, hra, hpr⟩ := ((unhide HR).below hb).2 (by omega)
      have e0 := hpr.at0 k hlt
      have e1 := hpr.at1 k hlt
      have e2 := hpr.at2 k hlt
      have e3 := hpr.at3 k hlt
      have HT := hide (unhide KT k hlt)
      have HE := hide (unhide HOK _ (List.getElem_mem hlt))
      have hm : m ≤ 4096 := by
        have h1 := (unhide hacc).1
        have h2 := len_kept p (M.take k)
        have h3 : (M.take k).length = k := by rw [List.length_take]; omega
        omega
      have HB := hide hb
      clear hpr hb A0
      generalize M[k] = E at e0 e1 e2 e3 HT HE
      by_cases hpE : p E = true
      · have HT2 := hide ((unhide HT).trans (if_pos hpE))
        have hf : E.fix = false ∧ E.val = val := by
          rw [unhide hP] at hpE; simpa [hasVal] using hpE
        have e3' := e3
        rw [hf.1] at e3'
        have e1' := e1
        rw [hf.2] at e1'
        clear HT hpE e0 e1 e2 e3
        go_wp2_with fail
        go_roundw
        case rel => exact ⟨k + 1, r, c, m, by go_num, by omega, rfl, by rw [unhide HT2]; exact hacc⟩
        case measure => simp [intOf]; omega
      · have HT2 := hide ((unhide HT).trans (if_neg hpE))
        obtain ⟨F, hF⟩ : ∃ F, E.fix = F := ⟨_, rfl⟩
        cases F with
        | true =>
          have e3' := e3
          rw [hF] at e3'
          clear HT hpE
          rw [hF] at e3
          have HF := hide hF
          clear hF
          obtain ⟨k0, v0, a0, f0⟩ := E
          obtain rfl : f0 = true := unhide HF
          simp only at e0 e1 e2 e3
          clear HF e3'
          go_wp2_with (at_builtin; refine wp_app rfl (.tmp 38) (.tmp 46) rfl w wr _ m _ ⟨k0, v0, a0, true⟩ (unhide hacc).1 rfl (unhide hacc).2 rfl hm ?_; intro r3 c3 W3 H3)
          go_roundw
          case rel => exact ⟨k + 1, r3, c3, m + 1, by go_num, by omega, rfl, by rw [unhide HT2]; exact hide ⟨by rw [List.length_append, (unhide hacc).1]; rfl, unhide H3⟩⟩
          case measure => simp [intOf]; omega
        | false =>
          have hv : ¬ E.val = val := fun e => hpE (by rw [unhide hP]; simp [hasVal, hF, e])
          have hd : decide (E.val = val) = false := decide_eq_false hv
          clear HT hpE
          have HF := hide hF
          clear hF
          obtain ⟨k0, v0, a0, f0⟩ := E
          obtain rfl : f0 = false := unhide HF
          simp only at e0 e1 e2 e3 hv hd
          clear HF
          go_wp2_with (at_builtin; refine wp_app rfl (.tmp 38) (.tmp 46) rfl w wr _ m _ ⟨k0, v0, a0, false⟩ (unhide hacc).1 rfl (unhide hacc).2 rfl hm ?_; intro r3 c3 W3 H3)
          go_roundw
          case rel => exact ⟨k + 1, r3, c3, m + 1, by go_num, by omega, rfl, by rw [unhide HT2]; exact hide ⟨by rw [List.length_append, (unhide hacc).1]; rfl, unhide H3⟩⟩
          case measure => simp [intOf]; omega
    · obtain rfl : k = M.length := by omega
      have hf0 := unhide hfz wr hb
      have hk : kept p (M.take M.length) = kept p M := by rw [List.take_of_length_le (Nat.le_refl _)]
      have F := hide (unhide fin wr _ (by have h := (unhide hacc).2; rw [hk] at h; exact h))
      have hm : (kept p M).length = m := by have h := (unhide hacc).1; rw [hk] at h; exact h
      have hdm : d = (M.length : Int) - (m : Int) := by rw [unhide HD, hm]
      have hkm := len_kept p M
      have hw : IntKind.i64.wrap ((M.length : Int) - (m : Int)) = d := by rw [IntKind.wrap_i64]; omega
      clear A0 hb
      go_wp2_with fail
      go_ret
      exact ⟨by rw [hdm]; rfl, unhide F⟩
set_option maxHeartbeats 1000000 in
set_option maxRecDepth 100000 in
theorem rexpire_at (B : Nat) (M : List Ent) (v : Value) (g : Nat) (room life now d : Int) (w : World) (T : RTab B w g room life v M) (hd : d = (M.length : Int) - ((kept (fun e => timeB now && oldE life now e) M).length : Int)) :
    Calls Try.prog 35 #[.pointer (some ⟨g, 0, none⟩), .int .i64 now] w fun e w' => e = .returned (.int .i64 d) ∧ RTurned B g room life v (kept (fun e => timeB now && oldE life now e) M) w w' := by
  obtain ⟨p, hp⟩ : ∃ p, p = fun e => timeB now && oldE life now e := ⟨_, rfl⟩
  have hP := hide hp
  rw [← hp] at hd ⊢
  clear hp
  have fin := hide (fun W V (h : Acc w W V (kept p M)) => rturned_new T h.2 h.1 (uniq_kept T.uniq) (kept_oks T.oks) (by have := T.fit; have := len_kept p M; omega))
  have CT := hide (fun W => rtime_any now W)
  have CO := hide (fun (e : Ent) W (b : Below w.heap.size w W) (h : e.ok) => rold_any g life now e W ((b.cell (p := ⟨g, 2, none⟩) T.lt).trans T.cells.2.2) h T.life1 T.life2)
  obtain ⟨ao, cap, rfl, hc, hrr⟩ := T.own.rrow
  have hgl := T.lt
  have hl := T.len
  have HR := hide hrr
  have hcx := hide T.cells.1
  have hfz := hide (fun W (b : Below w.heap.size w W) => (cells3 (Below.row b T.row)).2.2.2.1)
  have A0 := hide (acc_new (Below.refl w.heap.size w))
  have KT := hide (fun k h => mkept_take p (M := M) (k := k) h)
  have HD := hide hd
  have HOK := hide T.oks
  clear T hrr hd
  go_enter Try.func35, Try.ntmps35
  go_wp2_with fail
  go_loopw [5, 6] (fun V a wr => ∃ (k r c m : Nat), a = .int .i64 k ∧ k ≤ M.length ∧ V = .slice (some ⟨r, 0, none⟩) m c ∧ Hid ((kept p (M.take k)).length = m ∧ Acc w wr (.slice (some ⟨r, 0, none⟩) m c) (kept p (M.take k)))) (fun _ a _ => M.length - (intOf a).toNat)
  case atStart => exact ⟨0, _, 0, 0, rfl, Nat.zero_le _, rfl, hide ⟨by simp [kept], by simpa [kept] using unhide A0⟩⟩
  case round =>
    obtain ⟨k, r, c, m, rfl, hkl, rfl, hacc⟩ := hrel
    have hb := (unhide hacc).2.2
    have hc0 := (hb.cell (p := ⟨g, 0, none⟩) hgl).trans (unhide hcx)
    by_cases hlt : k < M.length
    · obtain ⟨ra, rfl, hra, hpr⟩ := ((unhide HR).below hb).2 (by omega)
      have e0 := hpr.at0 k hlt
      have e1 := hpr.at1 k hlt
      have e2 := hpr.at2 k hlt
      have e3 := hpr.at3 k hlt
      have HT := hide (unhide KT k hlt)
      have HE := hide (unhide HOK _ (List.getElem_mem hlt))
      have hm : m ≤ 4096 := by
        have h1 := (unhide hacc).1
        have h2 := len_kept p (M.take k)
        have h3 : (M.take k).length = k := by rw [List.length_take]; omega
        omega
      have HB := hide hb
      clear hpr hb A0
      generalize M[k] = E at e0 e1 e2 e3 HT HE
      have TI := unhide CT wr
      cases ht : timeB now with
      | false =>
        rw [ht] at TI
        have hpE : p E = false := by rw [unhide hP]; simp [ht]
        have HT2 := hide ((unhide HT).trans (if_neg (by rw [hpE]; simp)))
        have TI2 := hide TI
        clear HT ht TI
        go_wp2_with (first | (go_at_call 47; refine (unhide TI2).mono ?_; rintro e w2 ⟨rfl, rfl⟩) | (at_builtin; refine wp_app rfl (.tmp 34) (.tmp 42) rfl w _ _ m _ E (unhide hacc).1 rfl (unhide hacc).2 rfl hm ?_; intro r3 c3 W3 H3))
        go_roundw
        case rel => exact ⟨k + 1, r3, c3, m + 1, by go_num, by omega, rfl, by rw [unhide HT2]; exact hide ⟨by rw [List.length_append, (unhide hacc).1]; rfl, unhide H3⟩⟩
        case measure => simp [intOf]; omega
      | true =>
        rw [ht] at TI
        have OL := unhide CO E wr (unhide HB) (unhide HE)
        have hpO : p E = oldE life now E := by rw [unhide hP]; simp [ht]
        have TI2 := hide TI
        clear ht TI
        cases ho : oldE life now E with
        | true =>
          rw [ho] at OL
          have HT2 := hide ((unhide HT).trans (if_pos (hpO.trans ho)))
          have OL2 := hide OL
          clear HT OL hpO ho
          go_wp2_with (first | (go_at_call 47; refine (unhide TI2).mono ?_; rintro e w2 ⟨rfl, rfl⟩) | (go_at_call 50; refine (unhide OL2).mono ?_; rintro e w3 ⟨rfl, b3⟩; have B3 := hide b3; clear b3))
          go_roundw
          case rel => exact ⟨k + 1, r, c, m, by go_num, by omega, rfl, by rw [unhide HT2]; exact hide ⟨(unhide hacc).1, (unhide hacc).2.below (unhide B3)⟩⟩
          case measure => simp [intOf]; omega
        | false =>
          rw [ho] at OL
          have HT2 := hide ((unhide HT).trans (if_neg (by rw [hpO, ho]; simp)))
          have OL2 := hide OL
          have RB := hide (fun W (b : Below wr.heap.size wr W) => ((unhide HR).below (bthen (unhide HB) b)).2 (by omega))
          have CB := hide (fun W (b : Below wr.heap.size wr W) => (b.cell (p := ⟨g, 0, none⟩) (block_lt_of_cell hc0)).trans hc0)
          have EB := hide (fun W (b : Below wr.heap.size wr W) => (⟨(b.cell (p := ⟨ra, _, none⟩) hra).trans e0, (b.cell (p := ⟨ra, _, none⟩) hra).trans e1, (b.cell (p := ⟨ra, _, none⟩) hra).trans e2, (b.cell (p := ⟨ra, _, none⟩) hra).trans e3⟩ : _ ∧ _ ∧ _ ∧ _))
          clear HT OL hpO ho
          go_wp2_with (first | (go_at_call 47; refine (unhide TI2).mono ?_; rintro e w2 ⟨rfl, rfl⟩) | (go_at_call 50; refine (unhide OL2).mono ?_; rintro e w3 ⟨rfl, b3⟩; have B3 := hide b3; have c03 := unhide CB w3 b3; obtain ⟨e03, e13, e23, e33⟩ := unhide EB w3 b3; have hra3 := block_lt_of_cell e03; have hac3 := hide ((unhide hacc).2.below b3); clear b3) | (at_builtin; refine wp_app rfl (.tmp 34) (.tmp 42) rfl w _ _ m _ E (unhide hacc).1 rfl (unhide hac3) rfl hm ?_; intro r3 c3 W3 H3))
          go_roundw
          case rel => exact ⟨k + 1, r3, c3, m + 1, by go_num, by omega, rfl, by rw [unhide HT2]; exact hide ⟨by rw [List.length_append, (unhide hacc).1]; rfl, unhide H3⟩⟩
          case measure => simp [intOf]; omega
    · obtain rfl : k = M.length := by omega
      have hf0 := unhide hfz wr hb
      have hk : kept p (M.take M.length) = kept p M := by rw [List.take_of_length_le (Nat.le_refl _)]
      have F := hide (unhide fin wr _ (by have h := (unhide hacc).2; rw [hk] at h; exact h))
      have hm : (kept p M).length = m := by have h := (unhide hacc).1; rw [hk] at h; exact h
      have hdm : d = (M.length : Int) - (m : Int) := by rw [unhide HD, hm]
      have hkm := len_kept p M
      have hw : IntKind.i64.wrap ((M.length : Int) - (m : Int)) = d := by rw [IntKind.wrap_i64]; omega
      clear A0 hb
      go_wp2_with fail
      go_ret
      exact ⟨by rw [hdm]; rfl, unhide F⟩
theorem kept_time (life now : Int) (M : List Ent) : kept (fun e => timeB now && oldE life now e) M = expP life now M := by
  unfold expP
  cases timeB now with
  | true => simp
  | false => simp [kept]
theorem rexpire_any (B : Nat) (M : List Ent) (v : Value) (g : Nat) (room life now : Int) (w : World) (T : RTab B w g room life v M) :
    Calls Try.prog 35 #[.pointer (some ⟨g, 0, none⟩), .int .i64 now] w fun e w' => e = .returned (.int .i64 ((M.length : Int) - ((expP life now M).length : Int))) ∧ RTurned B g room life v (expP life now M) w w' := by
  rw [← kept_time]
  exact rexpire_at B M v g room life now _ w T rfl
end Go.Proofs.Ytppfhbcfmekdoaa
