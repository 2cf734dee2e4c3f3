/-
  The contract of gangwayref10's Entries: all entries, by rising keys, each put in its place in a list made anew.
-/
import Derived.Test.YtppfhbcfmekdoaaRef10g
namespace Go.Proofs.Ytppfhbcfmekdoaa
open Go.RowKit Go.Sort

/-- a step of the inner loop: an entry laid ahead of the first one with a greater key -/
def stepI (e : Ent) (p : List Ent × Bool) (x : Ent) : List Ent × Bool := if !p.2 && decide (e.key < x.key) then (p.1 ++ [e] ++ [x], true) else (p.1 ++ [x], p.2)
/-- an entry put in -/
def insI (e : Ent) (S : List Ent) : List Ent := let p := S.foldl (stepI e) ([], false); if p.2 then p.1 else p.1 ++ [e]
theorem fold_low (e : Ent) : ∀ (A N : List Ent), (∀ y ∈ A, y.key < e.key) → A.foldl (stepI e) (N, false) = (N ++ A, false)
  | [], N, _ => by simp
  | a :: A, N, h => by
    have ha := h a (by simp)
    have hs : stepI e (N, false) a = (N ++ [a], false) := by
      unfold stepI
      rw [if_neg]
      simp; omega
    rw [List.foldl_cons, hs, fold_low e A _ (fun y hy => h y (by simp [hy]))]
    simp
theorem fold_high (e : Ent) : ∀ (A N : List Ent), A.foldl (stepI e) (N, true) = (N ++ A, true)
  | [], N => by simp
  | a :: A, N => by
    rw [List.foldl_cons, show stepI e (N, true) a = (N ++ [a], true) by simp [stepI], fold_high e A]
    simp
theorem insI_ins {S : List Ent} {e : Ent} (hs : Srt S) (hn : look S e.key = none) : insI e S = ins e S := by
  obtain ⟨A, B, rfl, hA, hB⟩ := look_none hs hn
  rw [ins_new hA hB]
  unfold insI
  rw [List.foldl_append, fold_low e A [] hA]
  cases B with
  | nil => simp
  | cons b B =>
    have hb := hB b (by simp)
    rw [List.foldl_cons, show stepI e ([] ++ A, false) b = (A ++ [e] ++ [b], true) by simp [stepI, hb], fold_high]
    simp
/-- all entries, put in one by one -/
def insAll (M : List Ent) : List Ent := M.foldl (fun S e => insI e S) []
theorem insAll_fold : ∀ (M S : List Ent), Srt S → Uniq (S ++ M) → Srt (M.foldl (fun S e => insI e S) S) ∧ (M.foldl (fun S e => insI e S) S).Perm (S ++ M)
  | [], S, hs, _ => by simpa using hs
  | e :: M, S, hs, hu => by
    have hn : look S e.key = none := look_none_iff.2 fun y hy => (List.pairwise_append.1 hu).2.2 y hy e (by simp)
    rw [List.foldl_cons, insI_ins hs hn]
    have hp : (ins e S).Perm (S ++ [e]) := perm_ins_new hs (List.Perm.refl _) hn
    have hq : (ins e S ++ M).Perm (S ++ e :: M) := by
      have := hp.append_right M
      simpa using this
    obtain ⟨h1, h2⟩ := insAll_fold M (ins e S) (hs.ins e) (uniq_perm hu hq.symm)
    exact ⟨h1, h2.trans hq⟩
theorem insAll_eq {L M : List Ent} (hs : Srt L) (hp : L.Perm M) : insAll M = L := by
  obtain ⟨h1, h2⟩ := insAll_fold M [] List.Pairwise.nil (by simpa using uniq_perm (uniq_srt hs) hp)
  have h3 : Srt (insAll M) := h1
  have h4 : (insAll M).Perm M := h2
  refine List.Perm.eq_of_pairwise (le := fun (a b : Ent) => a.key < b.key) ?_ h3 hs (h4.trans hp.symm)
  intro a b _ _ h h'
  exact absurd h (by omega)
theorem insAll_take (M : List Ent) (k : Nat) (h : k < M.length) : insAll (M.take (k + 1)) = insI M[k] (insAll (M.take k)) := by
  unfold insAll
  rw [List.take_succ_eq_append_getElem h, List.foldl_append]; rfl
theorem fold_take (e : Ent) (N : List Ent) (q : Nat) (h : q < N.length) : (N.take (q + 1)).foldl (stepI e) ([], false) = stepI e ((N.take q).foldl (stepI e) ([], false)) N[q] := by
  rw [List.take_succ_eq_append_getElem h, List.foldl_append]; rfl
theorem fold_len (e : Ent) : ∀ (N : List Ent) (p : List Ent × Bool), (N.foldl (stepI e) p).1.length ≤ p.1.length + N.length + 1 ∧ ((N.foldl (stepI e) p).2 = false → (N.foldl (stepI e) p).1.length ≤ p.1.length + N.length) ∧ (p.2 = true → (N.foldl (stepI e) p).1.length ≤ p.1.length + N.length)
  | [], p => by simp
  | x :: N, p => by
    rw [List.foldl_cons]
    obtain ⟨h1, h2, h3⟩ := fold_len e N (stepI e p x)
    obtain ⟨X, b⟩ := p
    cases b with
    | true =>
      rw [show stepI e (X, true) x = (X ++ [x], true) by simp [stepI]] at h1 h2 h3 ⊢
      have h3 := h3 rfl
      simp at h1 h2 h3 ⊢
      omega
    | false =>
      by_cases hx : e.key < x.key
      · rw [show stepI e (X, false) x = (X ++ [e] ++ [x], true) by simp [stepI, hx]] at h1 h2 h3 ⊢
        have h3 := h3 rfl
        rw [fold_high] at h1 h2 h3 ⊢
        simp at h1 h2 h3 ⊢
        omega
      · rw [show stepI e (X, false) x = (X ++ [x], false) by simp [stepI, hx]] at h1 h2 h3 ⊢
        simp at h1 h2 h3 ⊢
        refine ⟨by omega, fun h => ?_⟩
        have := h2 h
        omega
theorem acc_up {w wr W : World} {V : Value} {N : List Ent} (b : Below w.heap.size w wr) (h : Acc wr W V N) : Acc w W V N := ⟨tells_mono h.1 b.size, bthen b h.2⟩
set_option maxHeartbeats 8000000 in
set_option maxRecDepth 100000 in
theorem rentries_any (B : Nat) (L M : List Ent) (v : Value) (g : Nat) (room life : Int) (w : World) (T : RTab B w g room life v M) (hs : Srt L) (hp : L.Perm M) :
    Calls Try.prog 16 #[.pointer (some ⟨g, 0, none⟩)] w fun e w' => ∃ r c, e = .returned (.slice (some ⟨r, 0, none⟩) L.length c) ∧ Tells w.heap.size w' (.slice (some ⟨r, 0, none⟩) L.length c) L ∧ Below w.heap.size w w' := by
  have EQ := hide (insAll_eq hs hp)
  have LL := hide hp.length_eq
  obtain ⟨ao, cap, rfl, hc, hrr⟩ := T.own.rrow
  have hgl := T.lt
  have hl := T.len
  have HR := hide hrr
  have hcx := hide T.cells.1
  have A0 := hide (acc_new (Below.refl w.heap.size w))
  have LN := hide (fun k (hk : k ≤ M.length) => (show (insAll (M.take k)).length = k from by
    have hu : Uniq (M.take k) := T.uniq.sublist (List.take_sublist k M)
    have := (insAll_fold (M.take k) [] List.Pairwise.nil (by simpa using hu)).2.length_eq
    unfold insAll
    simp at this
    omega))
  clear T hrr hs hp
  go_enter Try.func16, Try.ntmps16
  go_wp2_with fail
  go_loopw [3, 4, 5, 6, 7] (fun V a _ _ _ wr => ∃ (k r c : Nat), a = .int .i64 k ∧ k ≤ M.length ∧ V = .slice (some ⟨r, 0, none⟩) k c ∧ Hid (Acc w wr (.slice (some ⟨r, 0, none⟩) k c) (insAll (M.take k)))) (fun _ a _ _ _ _ => M.length - (intOf a).toNat)
  case atStart => exact ⟨0, _, 0, rfl, Nat.zero_le _, rfl, by simpa [insAll] using A0⟩
  case round =>
    generalize wr = wo at *
    obtain ⟨k, r, c, rfl, hkl, rfl, hacc⟩ := hrel
    have hb := (unhide hacc).2
    have hc0 := (hb.cell (p := ⟨g, 0, none⟩) hgl).trans (unhide hcx)
    by_cases hlt : k < M.length
    · obtain ⟨ra, rfl, hra, hpr⟩ := ((unhide HR).below hb).2 (by omega)
      have e0 := hpr.at0 k hlt
      have e1 := hpr.at1 k hlt
      have e2 := hpr.at2 k hlt
      have e3 := hpr.at3 k hlt
      have HT := hide (insAll_take M k hlt)
      have HN := hide (unhide LN k (by omega))
      have HN2 := hide (unhide LN (k + 1) (by omega))
      have HB := hide hb
      have hgl2 := block_lt_of_cell hc0
      clear hpr hb A0
      generalize M[k] = E at e0 e1 e2 e3 HT
      generalize insAll (M.take k) = N at hacc HT HN
      rw [unhide HT] at HN2
      obtain ⟨ek, ev, ea, ef⟩ := E
      simp only at e0 e1 e2 e3
      have EX := hide (fun W (b : Below wo.heap.size wo W) => (⟨(b.cell (p := ⟨g, 0, none⟩) hgl2).trans hc0, (b.cell (p := ⟨ra, _, none⟩) hra).trans e0, (b.cell (p := ⟨ra, _, none⟩) hra).trans e1, (b.cell (p := ⟨ra, _, none⟩) hra).trans e2, (b.cell (p := ⟨ra, _, none⟩) hra).trans e3⟩ : _ ∧ _ ∧ _ ∧ _ ∧ _))
      have hpn : Hid (Prow wo r N ∧ r < wo.heap.size) := by
        have ht := (unhide hacc).1
        rcases ht.parts with ⟨hx, _⟩ | ⟨r', cap', R', hx, _, hr', _⟩
        · cases hx
        · obtain ⟨rfl, _⟩ : r = r' ∧ True := by simp at hx; exact ⟨hx.1, trivial⟩
          exact ⟨erow_of hr', lt_of_row hr'⟩
      have AN := hide (acc_new (Below.refl wo.heap.size wo))
      clear e0 e1 e2 e3
      go_wp2_with fail
      go_loopw [5, 6, 7] (fun V p a wr => ∃ (q rn cn mn : Nat) (X : List Ent) (b : Bool), a = .int .i64 q ∧ q ≤ k ∧ V = .slice (some ⟨rn, 0, none⟩) mn cn ∧ p = .bool b ∧ Hid ((N.take q).foldl (stepI ⟨ek, ev, ea, ef⟩) ([], false) = (X, b) ∧ X.length = mn ∧ Acc wo wr (.slice (some ⟨rn, 0, none⟩) mn cn) X)) (fun _ _ a _ => k - (intOf a).toNat)
      case atStart => exact ⟨0, _, 0, 0, [], false, rfl, Nat.zero_le _, rfl, rfl, hide ⟨by simp, rfl, unhide AN⟩⟩
      case round =>
        obtain ⟨q, rn, cn, mn, X, b, rfl, hqk, rfl, rfl, hin⟩ := hrel
        have hb2 := (unhide hin).2.2.2
        obtain ⟨g0, x0, x1, x2, x3⟩ := unhide EX wr hb2
        have hgl3 := block_lt_of_cell g0
        have hra3 := block_lt_of_cell x0
        by_cases hq : q < k
        · have hqn : q < N.length := by rw [unhide HN]; exact hq
          have hml : mn ≤ q + 1 := by
            have h1 := (fold_len ⟨ek, ev, ea, ef⟩ (N.take q) ([], false)).1
            rw [(unhide hin).1] at h1
            have h2 := (unhide hin).2.1
            have h3 : (N.take q).length = q := by rw [List.length_take]; omega
            simp at h1
            omega
          have HF := hide (fold_take ⟨ek, ev, ea, ef⟩ N q hqn)
          have y0 := (hb2.cell (p := ⟨r, _, none⟩) (unhide hpn).2).trans ((unhide hpn).1.at0 q hqn)
          have y1 := (hb2.cell (p := ⟨r, _, none⟩) (unhide hpn).2).trans ((unhide hpn).1.at1 q hqn)
          have y2 := (hb2.cell (p := ⟨r, _, none⟩) (unhide hpn).2).trans ((unhide hpn).1.at2 q hqn)
          have y3 := (hb2.cell (p := ⟨r, _, none⟩) (unhide hpn).2).trans ((unhide hpn).1.at3 q hqn)
          have hrl3 := block_lt_of_cell y0
          have YW := hide (fun W (b : Below wo.heap.size wo W) => (⟨(b.cell (p := ⟨r, _, none⟩) (unhide hpn).2).trans ((unhide hpn).1.at0 q hqn), (b.cell (p := ⟨r, _, none⟩) (unhide hpn).2).trans ((unhide hpn).1.at1 q hqn), (b.cell (p := ⟨r, _, none⟩) (unhide hpn).2).trans ((unhide hpn).1.at2 q hqn), (b.cell (p := ⟨r, _, none⟩) (unhide hpn).2).trans ((unhide hpn).1.at3 q hqn)⟩ : _ ∧ _ ∧ _ ∧ _))
          clear AN HT HN2 hb2
          generalize N[q] = Y at y0 y1 y2 y3 HF YW
          obtain ⟨yk, yv, ya, yf⟩ := Y
          simp only at y0 y1 y2 y3 YW
          rw [(unhide hin).1] at HF
          have hki : (k : Int) < (M.length : Int) := by omega
          have hqi : (q : Int) < (k : Int) := by omega
          cases b with
          | true =>
            have HF2 := hide ((unhide HF).trans (show stepI ⟨ek, ev, ea, ef⟩ (X, true) ⟨yk, yv, ya, yf⟩ = (X ++ [⟨yk, yv, ya, yf⟩], true) by simp [stepI]))
            clear HF
            go_wp2_with fail
            go_quiet (fail)
            go_wp2_with (at_builtin; refine wp_app rfl (.tmp 53) (.tmp 58) rfl wo (wr.drewN nq) _ mn X ⟨yk, yv, ya, yf⟩ (unhide hin).2.1 rfl ((unhide hin).2.2.below (drewN_below (Below.refl _ _) _)) rfl (by omega) ?_; intro r4 c4 W4 H4)
            go_roundw
            case rel => exact ⟨q + 1, r4, c4, mn + 1, _, true, by go_num, by omega, rfl, rfl, hide ⟨unhide HF2, by rw [List.length_append, (unhide hin).2.1]; rfl, unhide H4⟩⟩
            case measure => simp [intOf]; omega
          | false =>
            by_cases hlt3 : ek < yk
            · have hd3 : decide (ek < yk) = true := decide_eq_true hlt3
              have HF2 := hide ((unhide HF).trans (show stepI ⟨ek, ev, ea, ef⟩ (X, false) ⟨yk, yv, ya, yf⟩ = (X ++ [⟨ek, ev, ea, ef⟩] ++ [⟨yk, yv, ya, yf⟩], true) by simp [stepI, hlt3]))
              clear HF
              go_wp2_with fail
              go_quiet (fail)
              go_wp2_with (first | (at_builtin; refine wp_app rfl (.tmp 43) (.tmp 51) rfl wo (wr.drewN nq) _ mn X ⟨ek, ev, ea, ef⟩ (unhide hin).2.1 rfl ((unhide hin).2.2.below (drewN_below (Below.refl _ _) _)) rfl (by omega) ?_; intro r4 c4 W4 H4; obtain ⟨z0, z1, z2, z3⟩ := unhide YW W4 (unhide H4).2; have zr := block_lt_of_cell z0) | (at_builtin; refine wp_app rfl (.tmp 53) (.tmp 58) rfl wo W4 (.slice (some ⟨r4, 0, none⟩) (mn + 1) c4) (mn + 1) (X ++ [⟨ek, ev, ea, ef⟩]) ⟨yk, yv, ya, yf⟩ (by rw [List.length_append, (unhide hin).2.1]; rfl) rfl (unhide H4) rfl (by omega) ?_; intro r5 c5 W5 H5))
              go_roundw
              case rel => exact ⟨q + 1, r5, c5, mn + 1 + 1, _, true, by go_num, by omega, rfl, rfl, hide ⟨unhide HF2, by rw [List.length_append, List.length_append, (unhide hin).2.1]; rfl, unhide H5⟩⟩
              case measure => simp [intOf]; omega
            · have hd3 : decide (ek < yk) = false := decide_eq_false hlt3
              have HF2 := hide ((unhide HF).trans (show stepI ⟨ek, ev, ea, ef⟩ (X, false) ⟨yk, yv, ya, yf⟩ = (X ++ [⟨yk, yv, ya, yf⟩], false) by simp [stepI, hlt3]))
              clear HF
              go_wp2_with fail
              go_quiet (fail)
              go_wp2_with (at_builtin; refine wp_app rfl (.tmp 53) (.tmp 58) rfl wo (wr.drewN nq) _ mn X ⟨yk, yv, ya, yf⟩ (unhide hin).2.1 rfl ((unhide hin).2.2.below (drewN_below (Below.refl _ _) _)) rfl (by omega) ?_; intro r4 c4 W4 H4)
              go_roundw
              case rel => exact ⟨q + 1, r4, c4, mn + 1, _, false, by go_num, by omega, rfl, rfl, hide ⟨unhide HF2, by rw [List.length_append, (unhide hin).2.1]; rfl, unhide H4⟩⟩
              case measure => simp [intOf]; omega
        · obtain rfl : q = k := by omega
          have hfx := (unhide hin).1
          rw [List.take_of_length_le (by rw [unhide HN]; exact Nat.le_refl _)] at hfx
          have hml : mn ≤ q + 1 := by
            have h1 := (fold_len ⟨ek, ev, ea, ef⟩ N ([], false)).1
            rw [hfx] at h1
            have h2 := (unhide hin).2.1
            have h3 := unhide HN
            simp at h1
            omega
          cases b with
          | true =>
            have hI : insI ⟨ek, ev, ea, ef⟩ N = X := by unfold insI; rw [hfx]; rfl
            have HN3 := unhide HN2
            rw [hI] at HN3
            obtain rfl : mn = q + 1 := by rw [← (unhide hin).2.1, HN3]
            have AX := hide (acc_up (unhide HB) (unhide hin).2.2)
            have HI := hide ((unhide HT).trans hI)
            clear HN3 hI hfx hb2 HT HN2
            go_wp2_with fail
            go_roundw
            case rel => exact ⟨q + 1, rn, cn, by go_num, by omega, rfl, by rw [unhide HI]; exact AX⟩
            case measure => simp [intOf]; omega
          | false =>
            have hI : insI ⟨ek, ev, ea, ef⟩ N = X ++ [⟨ek, ev, ea, ef⟩] := by unfold insI; rw [hfx]; rfl
            have HN3 := unhide HN2
            rw [hI, List.length_append, (unhide hin).2.1] at HN3
            obtain rfl : mn = q := by simpa using HN3
            have HI := hide ((unhide HT).trans hI)
            clear HN3 hI hfx hb2 HT HN2
            go_wp2_with (at_builtin; refine wp_app rfl (.tmp 62) (.tmp 70) rfl wo wr _ mn X ⟨ek, ev, ea, ef⟩ (unhide hin).2.1 rfl (unhide hin).2.2 rfl (by omega) ?_; intro r4 c4 W4 H4)
            go_roundw
            case rel => exact ⟨mn + 1, r4, c4, by go_num, by omega, rfl, by rw [unhide HI]; exact hide (acc_up (unhide HB) (unhide H4))⟩
            case measure => simp [intOf]; omega
    · obtain rfl : k = M.length := by omega
      have hk : insAll (M.take M.length) = L := by rw [List.take_of_length_le (Nat.le_refl _)]; exact unhide EQ
      rw [hk] at hacc
      have HL := hide (unhide LL)
      have FIN : Hid (Tells w.heap.size wo (.slice (some ⟨r, 0, none⟩) L.length c) L ∧ Below w.heap.size w wo) := by
        have h := unhide hacc
        refine ⟨?_, h.2⟩
        rw [unhide LL]; exact h.1
      clear A0 hb hk hacc
      go_wp2_with fail
      go_ret
      exact ⟨r, c, by rw [unhide LL]; rfl, (unhide FIN).1, (unhide FIN).2⟩
end Go.Proofs.Ytppfhbcfmekdoaa
