/-
  The contract of gangwayref12's Entries: all, by VLANs, then by addresses.
-/
import Derived.Test.YtljhgehlaehgnaaGreatDoorRef12c
namespace Go.Proofs.YtljhgehlaehgnaaGreatDoor
open Go.RowKit Go.Sort

set_option maxHeartbeats 8000000 in
set_option maxRecDepth 100000 in
theorem hentries_any (B : Nat) (L : List Ent) (M : List Hd) (v : Value) (g : Nat) (room life : Int) (w : World) (T : HTab B w g room life v M) (hs : Srt L) (hp : L.Perm (M.map Hd.ent)) :
    Calls Tryz.prog 11 #[.pointer (some ⟨g, 0, none⟩)] w fun e w' => ∃ r c, e = .returned (.slice (some ⟨r, 0, none⟩) L.length c) ∧ Tells w.heap.size w' (.slice (some ⟨r, 0, none⟩) L.length c) L ∧ Below w.heap.size w w' := by
  have hlen : (M.map Hd.ent).length = M.length := List.length_map ..
  have EQ := hide (insAll_eq hs hp)
  have LL := hide (hp.length_eq.trans hlen)
  obtain ⟨ao, cap, rfl, hc, hrr⟩ := T.own.hrow
  have hgl := T.lt
  have hl := T.len
  have HR := hide hrr
  have hcx := hide T.cells.1
  have A0 := hide (acc_new (Below.refl w.heap.size w))
  have HOK := hide T.oks
  have LN := hide (fun k (hk : k ≤ M.length) => (show (insAll ((M.map Hd.ent).take k)).length = k from by
    have hu : Uniq ((M.map Hd.ent).take k) := List.Pairwise.sublist (List.take_sublist k _) T.uniq
    have := (insAll_fold ((M.map Hd.ent).take k) [] List.Pairwise.nil (by simpa using hu)).2.length_eq
    unfold insAll
    simp at this
    omega))
  have TK := hide (fun k (hk : k < M.length) => (show insAll ((M.map Hd.ent).take (k + 1)) = insI M[k].ent (insAll ((M.map Hd.ent).take k)) from by
    rw [insAll_take (M.map Hd.ent) k (by rw [hlen]; exact hk), List.getElem_map]))
  have TF : Hid ((M.map Hd.ent).take M.length = M.map Hd.ent) := List.take_of_length_le (by rw [hlen]; exact Nat.le_refl _)
  clear T hrr hs hp hlen
  generalize M.map Hd.ent = MN at *
  go_enter Tryz.func11, Tryz.ntmps11
  go_wp2_with fail
  go_loopw [3, 4, 5, 6, 7, 8, 9] (fun V a _ _ _ _ _ wr => ∃ (k r c : Nat), a = .int .i64 k ∧ k ≤ M.length ∧ V = .slice (some ⟨r, 0, none⟩) k c ∧ Hid (Acc w wr (.slice (some ⟨r, 0, none⟩) k c) (insAll (MN.take k)))) (fun _ a _ _ _ _ _ _ => M.length - (intOf a).toNat)
  case atStart => exact ⟨0, _, 0, rfl, Nat.zero_le _, rfl, by simpa [insAll] using A0⟩
  case round =>
    generalize wr = wo at *
    obtain ⟨k, r, c, rfl, hkl, rfl, hacc⟩ := hrel
    have hb := (unhide hacc).2
    have hc0 := (hb.cell (p := ⟨g, 0, none⟩) hgl).trans (unhide hcx)
    by_cases hlt : k < M.length
    · obtain ⟨ra, rfl, hra, hpr⟩ := ((unhide HR).below hb).2 (by omega)
      have e0 := hpr.at0 k hlt
      have e1 := hpr.at1 k hlt
      have e2 := hpr.at2 k hlt
      have e3 := hpr.at3 k hlt
      have HT := hide (unhide TK k hlt)
      have HN := hide (unhide LN k (by omega))
      have HN2 := hide (unhide LN (k + 1) (by omega))
      have HE := unhide HOK _ (List.getElem_mem hlt)
      have HB := hide hb
      clear hpr hb A0
      generalize M[k] = E at e0 e1 e2 e3 HT HE
      generalize insAll (MN.take k) = N at hacc HT HN
      rw [unhide HT] at HN2
      obtain ⟨hv, hi, ha⟩ : (1 ≤ E.vid ∧ E.vid ≤ 4094) ∧ (0 ≤ E.ip ∧ E.ip < 4294967296) ∧ True := ⟨HE.1, HE.2.1, trivial⟩
      obtain ⟨vid, ip, mac, ea⟩ := E
      simp only at e0 e1 e2 e3 hv hi
      obtain ⟨ek, hek⟩ : ∃ ek, vid * 4294967296 + ip = ek := ⟨_, rfl⟩
      have hent : (Hd.mk vid ip mac ea).ent = ⟨ek, mac, ea, false⟩ := by rw [← hek]; rfl
      rw [hent] at HT HN2
      have m1 : vid % 18446744073709551616 = vid := by omega
      have m2 : vid * 4294967296 % 18446744073709551616 = vid * 4294967296 := by omega
      have m3 : ip % 18446744073709551616 = ip := by omega
      have m4 : IntKind.u64.wrap (vid * 4294967296 + ip) = ek := by rw [IntKind.wrap_u64]; omega
      have b1 := alloc_below wo (.cells #[.int .i64 vid, .int .u32 ip, .int .u64 mac, .int .i64 ea] 75)
      have HXB := hide (alloc_then (o := .cells #[.int .u64 ek, .int .u64 mac, .int .i64 ea, .bool false] 73) b1)
      have z0 := cells4 (heap_alloc_new wo (.cells #[.int .i64 vid, .int .u32 ip, .int .u64 mac, .int .i64 ea] 75))
      have RE := hide (heap_alloc2_new wo (.cells #[.int .i64 vid, .int .u32 ip, .int .u64 mac, .int .i64 ea] 75) (.cells #[.int .u64 ek, .int .u64 mac, .int .i64 ea, .bool false] 73))
      have AN : Hid (Acc ((wo.alloc (.cells #[.int .i64 vid, .int .u32 ip, .int .u64 mac, .int .i64 ea] 75)).alloc (.cells #[.int .u64 ek, .int .u64 mac, .int .i64 ea, .bool false] 73)) (((wo.alloc (.cells #[.int .i64 vid, .int .u32 ip, .int .u64 mac, .int .i64 ea] 75)).alloc (.cells #[.int .u64 ek, .int .u64 mac, .int .i64 ea, .bool false] 73)).alloc (.cells #[] 73)) (.slice (some ⟨wo.heap.size + 1 + 1, 0, none⟩) 0 0) []) := by
        have h := acc_new (Below.refl ((wo.alloc (.cells #[.int .i64 vid, .int .u32 ip, .int .u64 mac, .int .i64 ea] 75)).alloc (.cells #[.int .u64 ek, .int .u64 mac, .int .i64 ea, .bool false] 73)).heap.size ((wo.alloc (.cells #[.int .i64 vid, .int .u32 ip, .int .u64 mac, .int .i64 ea] 75)).alloc (.cells #[.int .u64 ek, .int .u64 mac, .int .i64 ea, .bool false] 73)))
        have hsz : ((wo.alloc (.cells #[.int .i64 vid, .int .u32 ip, .int .u64 mac, .int .i64 ea] 75)).alloc (.cells #[.int .u64 ek, .int .u64 mac, .int .i64 ea, .bool false] 73)).heap.size = wo.heap.size + 1 + 1 := by simp
        rw [hsz] at h
        exact h
      have hpn : Hid (Prow wo r N ∧ r < wo.heap.size) := by
        have ht := (unhide hacc).1
        rcases ht.parts with ⟨hx, _⟩ | ⟨r', cap', R', hx, _, hr', _⟩
        · cases hx
        · obtain ⟨rfl, _⟩ : r = r' ∧ True := by simp at hx; exact ⟨hx.1, trivial⟩
          exact ⟨erow_of hr', lt_of_row hr'⟩
      clear b1 hent HE hek hv hi ha
      go_wp2_with fail
      generalize (wo.alloc (.cells #[.int .i64 vid, .int .u32 ip, .int .u64 mac, .int .i64 ea] 75)).alloc (.cells #[.int .u64 ek, .int .u64 mac, .int .i64 ea, .bool false] 73) = w2 at *
      have HB2 := hide (bthen (unhide HB) (unhide HXB))
      have EX := hide (fun W (b : Below w2.heap.size w2 W) => cells4 (Below.row b (unhide RE)))
      clear z0 e0 e1 e2 e3 hc0 RE
      generalize wo.heap.size + 1 = X2 at *
      go_loopw [7, 8, 9] (fun V p a wr => ∃ (q rn cn mn : Nat) (X : List Ent) (b : Bool), a = .int .i64 q ∧ q ≤ k ∧ V = .slice (some ⟨rn, 0, none⟩) mn cn ∧ p = .bool b ∧ Hid ((N.take q).foldl (stepI ⟨ek, mac, ea, false⟩) ([], false) = (X, b) ∧ X.length = mn ∧ Acc w2 wr (.slice (some ⟨rn, 0, none⟩) mn cn) X)) (fun _ _ a _ => k - (intOf a).toNat)
      case atStart => exact ⟨0, _, 0, 0, [], false, rfl, Nat.zero_le _, rfl, rfl, hide ⟨by simp, rfl, unhide AN⟩⟩
      case round =>
        obtain ⟨q, rn, cn, mn, X, b, rfl, hqk, rfl, rfl, hin⟩ := hrel
        have hb2 := (unhide hin).2.2.2
        obtain ⟨x0, x1, x2, x3, -⟩ := unhide EX wr hb2
        have hra3 := block_lt_of_cell x0
        by_cases hq : q < k
        · have hqn : q < N.length := by rw [unhide HN]; exact hq
          have hml : mn ≤ q + 1 := by
            have h1 := (fold_len ⟨ek, mac, ea, false⟩ (N.take q) ([], false)).1
            rw [(unhide hin).1] at h1
            have h2 := (unhide hin).2.1
            have h3 : (N.take q).length = q := by rw [List.length_take]; omega
            simp at h1
            omega
          have HF := hide (fold_take ⟨ek, mac, ea, false⟩ N q hqn)
          have hbw := bthen (unhide HXB) hb2
          have y0 := (hbw.cell (p := ⟨r, _, none⟩) (unhide hpn).2).trans ((unhide hpn).1.at0 q hqn)
          have y1 := (hbw.cell (p := ⟨r, _, none⟩) (unhide hpn).2).trans ((unhide hpn).1.at1 q hqn)
          have y2 := (hbw.cell (p := ⟨r, _, none⟩) (unhide hpn).2).trans ((unhide hpn).1.at2 q hqn)
          have y3 := (hbw.cell (p := ⟨r, _, none⟩) (unhide hpn).2).trans ((unhide hpn).1.at3 q hqn)
          have hrl3 := block_lt_of_cell y0
          have YW := hide (fun W (b0 : Below w2.heap.size w2 W) => (fun b : Below wo.heap.size wo W => (⟨(b.cell (p := ⟨r, _, none⟩) (unhide hpn).2).trans ((unhide hpn).1.at0 q hqn), (b.cell (p := ⟨r, _, none⟩) (unhide hpn).2).trans ((unhide hpn).1.at1 q hqn), (b.cell (p := ⟨r, _, none⟩) (unhide hpn).2).trans ((unhide hpn).1.at2 q hqn), (b.cell (p := ⟨r, _, none⟩) (unhide hpn).2).trans ((unhide hpn).1.at3 q hqn)⟩ : _ ∧ _ ∧ _ ∧ _)) (bthen (unhide HXB) b0))
          clear AN HT HN2 hb2 hbw
          generalize N[q] = Y at y0 y1 y2 y3 HF YW
          obtain ⟨yk, yv, ya, yf⟩ := Y
          simp only at y0 y1 y2 y3 YW
          rw [(unhide hin).1] at HF
          have hki : (k : Int) < (M.length : Int) := by omega
          have hqi : (q : Int) < (k : Int) := by omega
          cases b with
          | true =>
            have HF2 := hide ((unhide HF).trans (show stepI ⟨ek, mac, ea, false⟩ (X, true) ⟨yk, yv, ya, yf⟩ = (X ++ [⟨yk, yv, ya, yf⟩], true) by simp [stepI]))
            clear HF
            go_wp2_with fail
            go_quiet (fail)
            go_wp2_with (at_builtin; refine wp_app rfl (.tmp 63) (.tmp 68) rfl w2 (wr.drewN nq) _ mn X ⟨yk, yv, ya, yf⟩ (unhide hin).2.1 rfl ((unhide hin).2.2.below (drewN_below (Below.refl _ _) _)) rfl (by omega) ?_; intro r4 c4 W4 H4)
            go_roundw
            case rel => exact ⟨q + 1, r4, c4, mn + 1, _, true, by go_num, by omega, rfl, rfl, hide ⟨unhide HF2, by rw [List.length_append, (unhide hin).2.1]; rfl, unhide H4⟩⟩
            case measure => simp [intOf]; omega
          | false =>
            by_cases hlt3 : ek < yk
            · have hd3 : decide (ek < yk) = true := decide_eq_true hlt3
              have HF2 := hide ((unhide HF).trans (show stepI ⟨ek, mac, ea, false⟩ (X, false) ⟨yk, yv, ya, yf⟩ = (X ++ [⟨ek, mac, ea, false⟩] ++ [⟨yk, yv, ya, yf⟩], true) by simp [stepI, hlt3]))
              clear HF
              go_wp2_with fail
              go_quiet (fail)
              go_wp2_with (first | (at_builtin; refine wp_app rfl (.tmp 59) (.tmp 61) rfl w2 (wr.drewN nq) _ mn X ⟨ek, mac, ea, false⟩ (unhide hin).2.1 rfl ((unhide hin).2.2.below (drewN_below (Below.refl _ _) _)) rfl (by omega) ?_; intro r4 c4 W4 H4; obtain ⟨z0, z1, z2, z3⟩ := unhide YW W4 (unhide H4).2; have zr := block_lt_of_cell z0) | (at_builtin; refine wp_app rfl (.tmp 63) (.tmp 68) rfl w2 W4 (.slice (some ⟨r4, 0, none⟩) (mn + 1) c4) (mn + 1) (X ++ [⟨ek, mac, ea, false⟩]) ⟨yk, yv, ya, yf⟩ (by rw [List.length_append, (unhide hin).2.1]; rfl) rfl (unhide H4) rfl (by omega) ?_; intro r5 c5 W5 H5))
              go_roundw
              case rel => exact ⟨q + 1, r5, c5, mn + 1 + 1, _, true, by go_num, by omega, rfl, rfl, hide ⟨unhide HF2, by rw [List.length_append, List.length_append, (unhide hin).2.1]; rfl, unhide H5⟩⟩
              case measure => simp [intOf]; omega
            · have hd3 : decide (ek < yk) = false := decide_eq_false hlt3
              have HF2 := hide ((unhide HF).trans (show stepI ⟨ek, mac, ea, false⟩ (X, false) ⟨yk, yv, ya, yf⟩ = (X ++ [⟨yk, yv, ya, yf⟩], false) by simp [stepI, hlt3]))
              clear HF
              go_wp2_with fail
              go_quiet (fail)
              go_wp2_with (at_builtin; refine wp_app rfl (.tmp 63) (.tmp 68) rfl w2 (wr.drewN nq) _ mn X ⟨yk, yv, ya, yf⟩ (unhide hin).2.1 rfl ((unhide hin).2.2.below (drewN_below (Below.refl _ _) _)) rfl (by omega) ?_; intro r4 c4 W4 H4)
              go_roundw
              case rel => exact ⟨q + 1, r4, c4, mn + 1, _, false, by go_num, by omega, rfl, rfl, hide ⟨unhide HF2, by rw [List.length_append, (unhide hin).2.1]; rfl, unhide H4⟩⟩
              case measure => simp [intOf]; omega
        · obtain rfl : q = k := by omega
          have hfx := (unhide hin).1
          rw [List.take_of_length_le (by rw [unhide HN]; exact Nat.le_refl _)] at hfx
          have hml : mn ≤ q + 1 := by
            have h1 := (fold_len ⟨ek, mac, ea, false⟩ N ([], false)).1
            rw [hfx] at h1
            have h2 := (unhide hin).2.1
            have h3 := unhide HN
            simp at h1
            omega
          cases b with
          | true =>
            have hI : insI ⟨ek, mac, ea, false⟩ N = X := by unfold insI; rw [hfx]; rfl
            have HN3 := unhide HN2
            rw [hI] at HN3
            obtain rfl : mn = q + 1 := by rw [← (unhide hin).2.1, HN3]
            have AX := hide (acc_up (unhide HB2) (unhide hin).2.2)
            have HI := hide ((unhide HT).trans hI)
            clear HN3 hI hfx hb2 HT HN2
            go_wp2_with fail
            go_roundw
            case rel => exact ⟨q + 1, rn, cn, by go_num, by omega, rfl, by rw [unhide HI]; exact AX⟩
            case measure => simp [intOf]; omega
          | false =>
            have hI : insI ⟨ek, mac, ea, false⟩ N = X ++ [⟨ek, mac, ea, false⟩] := by unfold insI; rw [hfx]; rfl
            have HN3 := unhide HN2
            rw [hI, List.length_append, (unhide hin).2.1] at HN3
            obtain rfl : mn = q := by simpa using HN3
            have HI := hide ((unhide HT).trans hI)
            clear HN3 hI hfx hb2 HT HN2
            go_wp2_with (at_builtin; refine wp_app rfl (.tmp 72) (.tmp 74) rfl w2 wr _ mn X ⟨ek, mac, ea, false⟩ (unhide hin).2.1 rfl (unhide hin).2.2 rfl (by omega) ?_; intro r4 c4 W4 H4)
            go_roundw
            case rel => exact ⟨mn + 1, r4, c4, by go_num, by omega, rfl, by rw [unhide HI]; exact hide (acc_up (unhide HB2) (unhide H4))⟩
            case measure => simp [intOf]; omega
    · obtain rfl : k = M.length := by omega
      have hk : insAll (MN.take M.length) = L := by rw [unhide TF]; exact unhide EQ
      rw [hk] at hacc
      have HL := hide (unhide LL)
      have FIN : Hid (Tells w.heap.size wo (.slice (some ⟨r, 0, none⟩) L.length c) L ∧ Below w.heap.size w wo) := by
        have h := unhide hacc
        refine ⟨?_, h.2⟩
        rw [unhide LL]; exact h.1
      clear A0 hb hk hacc
      go_wp2_with fail
      go_ret
      exact ⟨r, c, by rw [unhide LL]; rfl, (unhide FIN).1, (unhide FIN).2⟩
end Go.Proofs.YtljhgehlaehgnaaGreatDoor
