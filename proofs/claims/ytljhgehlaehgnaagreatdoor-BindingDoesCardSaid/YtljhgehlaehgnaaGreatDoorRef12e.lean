/-
  The contract of gangwayref12's put: one more; the oldest one goes, if there is no room.
-/
import Derived.Test.YtljhgehlaehgnaaGreatDoorRef12c
namespace Go.Proofs.YtljhgehlaehgnaaGreatDoor
open Go.RowKit Go.Sort

/-- room made for one more -/
def PutH (room : Int) (M1 M2 : List Hd) : Prop := ((M1.length : Int) < room ∧ M2 = M1) ∨ (¬ (M1.length : Int) < room ∧ ∃ A c D, M1 = A ++ c :: D ∧ M2 = A ++ D ∧ Least (M1.map Hd.ent) c.ent)
theorem erase_take {α : Type} (M : List α) (f k : Nat) (h : k < M.length) : (M.take (k + 1)).eraseIdx f = if k = f then (M.take k).eraseIdx f else (M.take k).eraseIdx f ++ [M[k]] := by
  rw [List.take_succ_eq_append_getElem h]
  have hl : (M.take k).length = k := by rw [List.length_take]; omega
  split
  · next e =>
    subst e
    rw [List.eraseIdx_append_of_length_le (by omega), hl, Nat.sub_self, List.eraseIdx_of_length_le (l := List.take k M) (by omega)]
    simp
  · next e =>
    rcases Nat.lt_or_ge k f with hk | hk
    · rw [List.eraseIdx_append_of_length_le (by omega), hl, List.eraseIdx_of_length_le (l := List.take k M) (by omega), List.eraseIdx_of_length_le (by simp; omega)]
    · rw [List.eraseIdx_append_of_lt_length (by omega)]
/-- the first k, less one if there is no room -/
def outH (full : Bool) (f : Nat) (M : List Hd) (k : Nat) : List Hd := if full then (M.take k).eraseIdx f else M.take k
theorem outH_start (full : Bool) (f : Nat) (M : List Hd) : outH full f M 0 = [] := by cases full <;> simp [outH]
theorem outH_step {full : Bool} {f k : Nat} {M : List Hd} (h : k < M.length) : outH full f M (k + 1) = if full = true ∧ k = f then outH full f M k else outH full f M k ++ [M[k]] := by
  cases full with
  | false => simp [outH]
  | true =>
    simp only [outH, if_true, true_and]
    exact erase_take M f k h
theorem outH_len (full : Bool) (f k : Nat) (M : List Hd) : (outH full f M k).length ≤ k := by
  cases full with
  | false => simp [outH]; omega
  | true =>
    have h := List.length_eraseIdx_le (l := M.take k) (i := f)
    have h2 : (M.take k).length ≤ k := by rw [List.length_take]; omega
    simp only [outH, if_true]
    omega
theorem outH_put {room : Int} {M : List Hd} {f : Nat} (hk : HOks M) (h1 : 1 ≤ room) (hf : M.length = 0 ∨ f < M.length) (ha : FAt M M.length f) : PutH room M (outH (decide (room ≤ (M.length : Int))) f M M.length) := by
  unfold PutH outH
  rw [List.take_of_length_le (Nat.le_refl _)]
  by_cases hr : room ≤ (M.length : Int)
  · rw [decide_eq_true hr, if_pos rfl]
    have hf2 : f < M.length := by omega
    have hM : M = M.take f ++ M[f] :: M.drop (f + 1) := by rw [List.getElem_cons_drop, List.take_append_drop]
    refine .inr ⟨by omega, M.take f, M[f], M.drop (f + 1), hM, List.eraseIdx_eq_take_drop_succ M f, fat_least hk hf2 ha⟩
  · rw [decide_eq_false hr, if_neg (by simp)]
    exact .inl ⟨by omega, rfl⟩
theorem PutH.facts {room : Int} {M1 M2 : List Hd} {x : Hd} (h : PutH room M1 M2) (hu : HUniq M1) (hk : HOks M1) (hf : (M1.length : Int) ≤ room) (hx : x.ok) (hn : ∀ y ∈ M1, y.ent.key ≠ x.ent.key) :
    HUniq (M2 ++ [x]) ∧ HOks (M2 ++ [x]) ∧ ((M2 ++ [x]).length : Int) ≤ room := by
  have hs : M2.Sublist M1 ∧ (M2.length : Int) < room := by
    rcases h with ⟨h1, rfl⟩ | ⟨h1, A, c, D, rfl, rfl, _⟩
    · exact ⟨List.Sublist.refl _, h1⟩
    · refine ⟨by simp, ?_⟩
      simp at hf ⊢
      omega
  refine ⟨?_, ?_, by simp; omega⟩
  · unfold HUniq Uniq at hu ⊢
    rw [List.map_append]
    refine List.pairwise_append.2 ⟨hu.sublist (hs.1.map _), by simp, fun a ha b hb => ?_⟩
    obtain ⟨y, hy, rfl⟩ := List.mem_map.1 ha
    obtain rfl : b = x.ent := by simpa using hb
    exact hn y (hs.1.subset hy)
  · intro e he
    rcases List.mem_append.1 he with he | he
    · exact hk e (hs.1.subset he)
    · obtain rfl : e = x := by simpa using he
      exact hx
theorem HTurned.seq {B g : Nat} {w w1 w2 : World} {room life : Int} {v v1 : Value} {L2 : List Hd} (b1 : But2 g v.ownBlock w w1) (n1 : Nb w v.ownBlock v1.ownBlock) (h2 : HTurned B g room life v1 L2 w1 w2) : HTurned B g room life v L2 w w2 := by
  obtain ⟨v2, t2, b2, n2⟩ := h2
  exact ⟨v2, t2, b1.trans n1 b2, n1.trans b1.size n2⟩
set_option maxHeartbeats 8000000 in
set_option maxRecDepth 100000 in
theorem hput_any (B : Nat) (M : List Hd) (v : Value) (g : Nat) (room life : Int) (x : Hd) (w : World) (T : HTab B w g room life v M) (hx : x.ok) (hn : ∀ y ∈ M, y.ent.key ≠ x.ent.key) :
    Calls Tryz.prog 36 #[.pointer (some ⟨g, 0, none⟩), .agg #[.int .i64 x.vid, .int .u32 x.ip, .int .u64 x.mac, .int .i64 x.at_]] w fun e w' => e = .returned (.tuple #[]) ∧ ∃ M2, PutH room (keptH life x.at_ M) M2 ∧ HTurned B g room life v (M2 ++ [x]) w w' := by
  have b0 := alloc_below w (.cells #[.int .i64 x.vid, .int .u32 x.ip, .int .u64 x.mac, .int .i64 x.at_] 75)
  have r0 := heap_alloc_new w (.cells #[.int .i64 x.vid, .int .u32 x.ip, .int .u64 x.mac, .int .i64 x.at_] 75)
  have x0 := cells4 r0
  have CE := hide (hexpire_any B M v g room life x.at_ _ (T.below b0))
  have R0 := hide r0
  have B0 := hide b0
  have HX := hide hx
  have NK : Hid (∀ y ∈ keptH life x.at_ M, y.ent.key ≠ x.ent.key) := fun y hy => hn y (List.mem_filter.1 hy).1
  have VL := hide T.vlt
  have GL := hide T.lt
  have BS := hide T.base
  clear T hx hn b0 r0
  generalize keptH life x.at_ M = M1 at *
  go_enter Tryz.func36, Tryz.ntmps36
  go_wp2_with fail
  refine (unhide CE).mono ?_
  rintro e w2 ⟨rfl, v2, T2, b2, n2⟩
  have gX : w.heap.size ≠ g := by have := unhide GL; omega
  have vX : some w.heap.size ≠ v.ownBlock := fun e => by have := (unhide VL _ e.symm).2; omega
  have R2 := hide (b2.row gX vX (unhide R0))
  have SEQ := hide (fun L2 W (h2 : HTurned B g room life v2 L2 w2 W) => HTurned.seq ((But2.of (g := g) (r := v.ownBlock) (unhide B0)).trans (Nb.refl _ _) b2) ((show Nb w v.ownBlock v2.ownBlock from n2.imp_right fun h k e => Nat.le_trans (unhide B0).size (h k e))) h2)
  have fin : Hid (∀ W V f, Hid (HAcc w2 W V (outH (decide (room ≤ (M1.length : Int))) f M1 M1.length ++ [x])) → FAt M1 M1.length f → (M1.length = 0 ∨ f < M1.length) → ∃ M2, PutH room M1 M2 ∧ HTurned B g room life v (M2 ++ [x]) w (W.setCell ⟨g, 0, none⟩ V)) := fun W V f ha hf h1 => by
    have hp := outH_put (room := room) T2.oks T2.room1 h1 hf
    obtain ⟨f1, f2, f3⟩ := hp.facts T2.uniq T2.oks T2.fit (unhide HX) (unhide NK)
    exact ⟨_, hp, unhide SEQ _ _ (hturned_new T2 (unhide ha).2 (unhide ha).1 f1 f2 f3)⟩
  obtain ⟨ao, cap, rfl, hc, hrr⟩ := T2.own.hrow
  have hgl := T2.lt
  have hl := T2.len
  have hcx := hide T2.cells
  have hfz := hide (fun W (b : Below w2.heap.size w2 W) => (cells3 (Below.row b T2.row)).2.2.2.1)
  have HR := hide hrr
  clear T2 b2 n2 CE R0 NK VL GL BS SEQ hrr x0
  go_wp2_with fail
  go_loopw [4, 5] (fun F I wr => ∃ (k f : Nat), I = .int .i64 k ∧ F = .int .i64 f ∧ k ≤ M1.length ∧ (M1.length = 0 ∨ f < M1.length) ∧ Hid (FAt M1 k f) ∧ Below w2.heap.size w2 wr) (fun _ I _ => M1.length - (intOf I).toNat)
  case atStart => exact ⟨0, 0, rfl, rfl, Nat.zero_le _, by omega, hide (fat_start M1), Below.refl _ _⟩
  case round =>
    obtain ⟨k, f, rfl, rfl, hkl, hfl, hfa, hb⟩ := hrel
    have hc0 := (hb.cell (p := ⟨g, 0, none⟩) hgl).trans (unhide hcx).1
    by_cases hlt : k < M1.length
    · obtain ⟨ra, rfl, hra, hpr⟩ := ((unhide HR).below hb).2 (by omega)
      have hf2 : f < M1.length := by omega
      have ST := hide (fat_step hlt hf2 (unhide hfa))
      have g0 := fun d os => cell_regrown hc0 d os
      have k0 := fun d os => cell_regrown (hpr.at0 k hlt) d os
      have k1 := fun d os => cell_regrown (hpr.at1 k hlt) d os
      have k2 := fun d os => cell_regrown (hpr.at2 k hlt) d os
      have k3 := fun d os => cell_regrown (hpr.at3 k hlt) d os
      have l0 := fun d os => cell_regrown (hpr.at0 f hf2) d os
      have l1 := fun d os => cell_regrown (hpr.at1 f hf2) d os
      have l2 := fun d os => cell_regrown (hpr.at2 f hf2) d os
      have l3 := fun d os => cell_regrown (hpr.at3 f hf2) d os
      have CL : ∀ d os, Calls Tryz.prog 50 #[.agg #[.int .i64 (M1[k]).vid, .int .u32 (M1[k]).ip, .int .u64 (M1[k]).mac, .int .i64 (M1[k]).at_], .agg #[.int .i64 (M1[f]).vid, .int .u32 (M1[f]).ip, .int .u64 (M1[f]).mac, .int .i64 (M1[f]).at_]] (grow (redrawn wr d) os) fun e w'' => e = .returned (.bool (lessH M1[k] M1[f])) ∧ ∃ p : Regrown, w'' = grow (redrawn wr p.d) p.os := fun d os => Calls.regrown_of (hless_any M1[k] M1[f] _)
      have HB := hide hb
      have hki : (k : Int) < (M1.length : Int) := by omega
      have hfi : (f : Int) < (M1.length : Int) := by omega
      have hkc : k < cap := by omega
      have hfc : f < cap := by omega
      clear hpr hb
      generalize M1[k] = E at *
      generalize M1[f] = G at *
      go_wp2_with fail
      refine wp_region_quiet_below (by kernel_rfl) (by kernel_rfl) ?_
      repeat (go_big_quiet_step (first | (go_at_call 50; exact CL _ _)))
      refine wpQuiet_nil ?_
      rintro _ ⟨⟨dq, osq⟩, rfl⟩
      cases hls : lessH E G with
      | true =>
        have N2 := hide ((unhide ST).1 hls)
        go_wp2_with fail
        go_roundw
        case rel => exact ⟨k + 1, k, by go_num, rfl, by omega, by omega, N2, below_then w2 wr (unhide HB) dq osq⟩
        case measure => simp [intOf]; omega
      | false =>
        have N2 := hide ((unhide ST).2 hls)
        go_wp2_with fail
        go_roundw
        case rel => exact ⟨k + 1, f, by go_num, rfl, by omega, by omega, N2, below_then w2 wr (unhide HB) dq osq⟩
        case measure => simp [intOf]; omega
    · obtain rfl : k = M1.length := by omega
      have hc1 := (hb.cell (p := ⟨g, 1, none⟩) hgl).trans (unhide hcx).2.1
      have hgr : g < wr.heap.size := Nat.lt_of_lt_of_le hgl hb.size
      have FA := hide hfa
      have HB := hide hb
      generalize wr = w3 at *
      clear hfa hb
      go_wp2_with fail
      go_cut [6, 7] (fun l u wx => ∃ r : Nat, l = .slice (some ⟨r, 0, none⟩) 0 0 ∧ u = .bool (decide (room ≤ (M1.length : Int))) ∧ HAcc w2 wx (.slice (some ⟨r, 0, none⟩) 0 0) [])
      case first =>
        go_region
        all_goals
          go_wp2_with fail
          go_meet
          exact ⟨_, rfl, rfl, (hacc_new (unhide HB)).below (Below.drew (Below.refl _ _))⟩
      case rest =>
        obtain ⟨r0, rfl, rfl, hac0⟩ := hcut
        have A0 := hide hac0
        obtain ⟨full, hfull⟩ : ∃ full, decide (room ≤ (M1.length : Int)) = full := ⟨_, rfl⟩
        rw [hfull] at fin ⊢
        clear hac0 hc0 hc1 hgr HB hfull
        go_wp2_with fail
        go_loopw [6, 8] (fun V I wr => ∃ (k r c m : Nat), I = .int .i64 k ∧ k ≤ M1.length ∧ V = .slice (some ⟨r, 0, none⟩) m c ∧ Hid ((outH full f M1 k).length = m ∧ HAcc w2 wr (.slice (some ⟨r, 0, none⟩) m c) (outH full f M1 k))) (fun _ I _ => M1.length - (intOf I).toNat)
        case atStart => exact ⟨0, r0, 0, 0, rfl, Nat.zero_le _, rfl, hide ⟨by rw [outH_start]; rfl, by rw [outH_start]; exact unhide A0⟩⟩
        case round =>
          obtain ⟨k, r, c, m, rfl, hkl2, rfl, hacc⟩ := hrel
          have hb := (unhide hacc).2.2
          have hc0 := (hb.cell (p := ⟨g, 0, none⟩) hgl).trans (unhide hcx).1
          have hm : m ≤ 4096 := by
            have h1 := (unhide hacc).1
            have h2 := outH_len full f k M1
            omega
          clear A0
          by_cases hlt : k < M1.length
          · obtain ⟨ra, rfl, hra, hpr⟩ := ((unhide HR).below hb).2 (by omega)
            have e0 := hpr.at0 k hlt
            have e1 := hpr.at1 k hlt
            have e2 := hpr.at2 k hlt
            have e3 := hpr.at3 k hlt
            have ST := hide (outH_step (full := full) (f := f) hlt)
            clear hpr hb
            generalize M1[k] = E at e0 e1 e2 e3 ST
            by_cases hs : full = true ∧ k = f
            · obtain ⟨rfl, rfl⟩ := hs
              have S2 := hide ((unhide ST).trans (if_pos ⟨rfl, rfl⟩))
              clear ST
              go_wp2_with fail
              go_roundw
              case rel => exact ⟨k + 1, r, c, m, by go_num, by omega, rfl, by rw [unhide S2]; exact hacc⟩
              case measure => simp [intOf]; omega
            · have S2 := hide ((unhide ST).trans (if_neg hs))
              have hne : full = true → ((k : Int) != (f : Int)) = true := fun h => by rw [bne_iff_ne]; intro e; exact hs ⟨h, by omega⟩
              clear ST hs
              cases full with
              | false =>
                clear hne
                go_wp2_with (at_builtin; refine hp_app rfl (.tmp 65) (.tmp 73) rfl w2 wr _ m _ E (unhide hacc).1 rfl (unhide hacc).2 rfl hm ?_; intro r3 c3 W3 H3)
                go_roundw
                case rel => exact ⟨k + 1, r3, c3, m + 1, by go_num, by omega, rfl, by rw [unhide S2]; exact hide ⟨by rw [List.length_append, (unhide hacc).1]; rfl, unhide H3⟩⟩
                case measure => simp [intOf]; omega
              | true =>
                have hne2 := hne rfl
                clear hne
                go_wp2_with (at_builtin; refine hp_app rfl (.tmp 65) (.tmp 73) rfl w2 wr _ m _ E (unhide hacc).1 rfl (unhide hacc).2 rfl hm ?_; intro r3 c3 W3 H3)
                go_roundw
                case rel => exact ⟨k + 1, r3, c3, m + 1, by go_num, by omega, rfl, by rw [unhide S2]; exact hide ⟨by rw [List.length_append, (unhide hacc).1]; rfl, unhide H3⟩⟩
                case measure => simp [intOf]; omega
          · obtain rfl : k = M1.length := by omega
            obtain ⟨x0, x1, x2, x3, -⟩ := cells4 (Below.row hb (unhide R2))
            have FB := hide (fun W (b : Below w2.heap.size w2 W) => unhide hfz W b)
            clear hb
            go_wp2_with (at_builtin; refine hp_app rfl (.tmp 75) (.tmp 77) rfl w2 wr _ m _ x (unhide hacc).1 rfl (unhide hacc).2 rfl hm ?_; intro r3 c3 W3 H3; have f3 := unhide FB W3 (unhide H3).2; have cc3 := ((unhide H3).2.cell (p := ⟨g, 0, none⟩) hgl).trans (unhide hcx).1)
            have FF := unhide fin W3 _ f H3 (unhide FA) hfl
            go_end0
            exact ⟨rfl, FF⟩
end Go.Proofs.YtljhgehlaehgnaaGreatDoor
