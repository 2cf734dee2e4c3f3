/-
  AgesBounds: there are never more entries than there is room, each key once; what is fixed stays, until it is dropped. No condition.
-/
import Derived.Test.YtppfhbcfmekdoaaSome10
namespace Go.Proofs.Ytppfhbcfmekdoaa.agesBounds
open Go.ChangeShapes Go.WideShapes Go.ChangeAt Go.RowKit Go.Deep Go.Sort

/-- numbers, as cells -/
def us (ks : List Int) : List Value := ks.map fun k => .int .u64 k
theorem us_length (ks : List Int) : (us ks).length = ks.length * 1 := by simp [us]
theorem us_oneCell (ks : List Int) : ∀ v ∈ us ks, v.oneCell' = true := by
  intro v hv
  obtain ⟨k, _, rfl⟩ := List.mem_map.1 hv
  rfl
/-- what a script's round keeps -/
structure Inv (w : World) (g : Nat) (room life a b : Int) (V : Value) (ks : List Int) (W : World) : Prop where
  has : ∃ L, Has w g room life L W ∧ ∀ k ∈ ks, FixIn L k
  own : W.ownsRow w.heap.size 29 1 V ks.length (us ks)
  box : W.heap[w.heap.size]? = some (.cells #[.int .i64 a, .int .i64 b] 23 (0, 0))
theorem Inv.below {w W W' : World} {g : Nat} {room life a b : Int} {V : Value} {ks : List Int} (h : Inv w g room life a b V ks W) (bl : Below W.heap.size W W') : Inv w g room life a b V ks W' := by
  obtain ⟨⟨L, h1, h2⟩, h3, h4⟩ := h
  exact ⟨⟨L, h1.below bl, h2⟩, owns_below h3 bl, Below.row bl h4⟩
theorem owns_stays {B : Nat} {t : TypeId} {s n : Nat} {V : Value} {xs : List Value} {W W' : World} (h : W.ownsRow B t s V n xs) (h1 : t ≠ 73) (h2 : t ≠ 63) (st : Stays W W') : W'.ownsRow B t s V n xs := by
  obtain ⟨hl, hx | ⟨k, cap, cur, rfl, a1, a2, a3, a4, a5, a6⟩⟩ := h
  · exact ⟨hl, .inl hx⟩
  · exact ⟨hl, .inr ⟨k, cap, cur, rfl, a1, st _ _ _ _ h1 h2 a2, a3, a4, a5, a6⟩⟩
theorem Inv.stays {w W W' : World} {g : Nat} {room life a b : Int} {V : Value} {ks : List Int} {L' : List Ent} (h : Inv w g room life a b V ks W) (st : Stays W W') (hh : Has w g room life L' W') (hf : ∀ k ∈ ks, FixIn L' k) : Inv w g room life a b V ks W' :=
  ⟨⟨L', hh, hf⟩, owns_stays h.own (by decide) (by decide) st, st _ _ _ _ (by decide) (by decide) h.box⟩
theorem Try.infoU64 : (Try.prog.info? 29).map (fun i => (i.zero, i.size, i.bytes)) = some (some (.int .u64 0), 1, 8) := by kernel_rfl
theorem told_ent {life : Int} {L : List Ent} {k : Int} (hs : Srt L) (h : FixIn L k) : ∃ q : Int × Int × Int, entO (told life 1099511627776 (look L k)) = .tuple #[.agg #[.int .u64 q.1, .int .u64 q.2.1, .int .i64 q.2.2, .bool true], .bool true] := by
  obtain ⟨x, hx, hf⟩ := told_fixed (life := life) hs h
  refine ⟨(x.key, x.val, x.at_), ?_⟩
  rw [hx]
  simp only [entO, Ent.ent, hf]
theorem own_shape {B n : Nat} {t : TypeId} {s : Nat} {V : Value} {xs : List Value} {W : World} (h : W.ownsRow B t s V n xs) (hn : ¬ V = .slice none 0 0) : ∃ r c, V = .slice (some ⟨r, 0, none⟩) n c := by
  obtain ⟨_, ⟨rfl, _⟩ | ⟨k, cap, cur, rfl, _⟩⟩ := h
  · exact absurd rfl hn
  · exact ⟨k, cap, rfl⟩
/-- whatever holds no numbers stays, where a row of numbers is written -/
theorem grown_other {W W' : World} {row : Option Nat} (g : W.grownBy W' row) (hr : ∀ k, row = some k → ∃ cur, W.heap[k]? = some (.cells cur 29 (0, 0))) {k : Nat} {c : Array Value} {t : TypeId} {fr : Nat × Nat} (ht : t ≠ 29) (h : W.heap[k]? = some (.cells c t fr)) : W'.heap[k]? = some (.cells c t fr) := by
  refine (g.block k (lt_of_row h) fun e => ?_).trans h
  obtain ⟨cur, hc⟩ := hr k e.symm
  rw [h] at hc
  simp at hc
  exact ht hc.2.1
theorem has_grown {w W W' : World} {g : Nat} {room life : Int} {L : List Ent} {row : Option Nat} (h : Has w g room life L W) (gr : W.grownBy W' row) (hr : ∀ k, row = some k → w.heap.size ≤ k ∧ ∃ cur, W.heap[k]? = some (.cells cur 29 (0, 0))) : Has w g room life L W' := by
  obtain ⟨b, v, T⟩ := h
  have hr' : ∀ k, row = some k → ∃ cur, W.heap[k]? = some (.cells cur 29 (0, 0)) := fun k hk => (hr k hk).2
  refine ⟨b.grown gr b.size (fun k hk => (hr k hk).1), v, ⟨grown_other gr hr' (by decide) T.row, ?_, T.low, T.apart, T.srt, T.oks, T.fit, T.room1, T.room2, T.life1, T.life2⟩⟩
  obtain ⟨hl, hx | ⟨k, cap, cur, rfl, a1, a2, a3, a4, a5, a6⟩⟩ := T.own
  · exact ⟨hl, .inl hx⟩
  · exact ⟨hl, .inr ⟨k, cap, cur, rfl, a1, grown_other gr hr' (by decide) a2, a3, a4, a5, a6⟩⟩
theorem own_row {B n : Nat} {V : Value} {xs : List Value} {W : World} (h : W.ownsRow B 29 1 V n xs) : ∀ k, V.ownBlock = some k → B ≤ k ∧ ∃ cur, W.heap[k]? = some (.cells cur 29 (0, 0)) := by
  intro k hk
  obtain ⟨_, ⟨rfl, _⟩ | ⟨k', cap, cur, rfl, a1, a2, _⟩⟩ := h
  · cases hk
  · have e : some k' = some k := hk
    obtain rfl := Option.some.inj e
    exact ⟨a1, cur, a2⟩
theorem Inv.append {w W W' : World} {g : Nat} {room life a b : Int} {V V' : Value} {ks : List Int} {k : Int} {L : List Ent} (h : Inv w g room life a b V ks W) (hh : Has w g room life L W) (hf : ∀ j ∈ ks, FixIn L j) (hk : FixIn L k) (gr : W.grownBy W' V.ownBlock)
    (ho : W'.ownsRow w.heap.size 29 1 V' (ks.length + 1) (us ks ++ [.int .u64 k])) : Inv w g room life a b V' (ks ++ [k]) W' := by
  refine ⟨⟨L, has_grown hh gr (own_row h.own), fun j hj => ?_⟩, ?_, grown_other gr (fun k hk => (own_row h.own k hk).2) (by decide) h.box⟩
  · rcases List.mem_append.1 hj with hj | hj
    · exact hf j hj
    · obtain rfl : j = k := by simpa using hj
      exact hk
  · rw [List.length_append, us, List.map_append]
    exact ho
/-- l's keys, where a walk reads them -/
theorem tells_key {B r n : Nat} {L : List Ent} {W : World} (h : Tells B W (.slice (some ⟨r, 0, none⟩) n n) L) (hn : L.length = n) (j : Nat) (hj : j < L.length) : W.cell? ⟨r, j * 4, none⟩ = some (.int .u64 (L[j]).key) := by
  have h' : W.ownsRow B 41 4 (.slice (some ⟨r, 0, none⟩) n n) n (cs L) := by rw [← hn]; rw [← hn] at h; exact h
  have := h'.cellAt (j * 4) (by omega)
  rw [this]
  exact cs_get L j hj 0 (by omega)
set_option maxRecDepth 100000 in
theorem walk_none (a b : Int) (ao : Option Addr) (cap : Nat) (w : World) : Calls Try.prog 5 #[.agg #[.int .i64 a, .int .i64 b], .slice ao 0 cap] w fun e w' => e = .returned (.bool true) ∧ Below w.heap.size w w' := by
  have b0 := alloc_below w (.cells #[.int .i64 a, .int .i64 b] 23)
  have CB := hide (begun_any a b w _ b0)
  have CF := hide (fun W => fixed_any W)
  clear b0
  go_enter Try.func5, Try.ntmps5
  go_wp2_with fail
  refine (unhide CB).mono ?_
  rintro e w1 ⟨g1, g2, rfl, h1, _, b1⟩
  have H1 := hide (h1.below (alloc_below w1 (.cells #[] 29)))
  clear h1 b1 CB
  go_wp2_with fail
  refine wp_loop_rounds 1 ?_
  rw [rounds_succ]
  go_wp2_with fail
  refine (unhide CF _).mono ?_
  rintro e w2 ⟨rfl, b2⟩
  have H2 := hide ((unhide H1).below b2).1
  clear b2 H1 CF
  go_wp2_with fail
  go_ret
  exact ⟨rfl, unhide H2⟩
set_option maxHeartbeats 8000000 in
set_option maxRecDepth 100000 in
theorem walk_some (a b : Int) (sb so n cap : Nat) (S : Nat → Int × Int × Int × Int) (w : World) (hsb : sb < w.heap.size) (hS : OpsAt w sb so n S) (hnc : n ≤ cap) :
    Calls Try.prog 5 #[.agg #[.int .i64 a, .int .i64 b], .slice (some ⟨sb, so, none⟩) n cap] w fun e w' => e = .returned (.bool true) ∧ Below w.heap.size w w' := by
  obtain ⟨i0, hi0, hz0, hz1, hz2⟩ := info_parts Try.infoU64
  have ha := i64_and7 a
  obtain ⟨ro, hro⟩ : ∃ ro, roomOf a = ro := ⟨_, rfl⟩
  obtain ⟨li, hli⟩ : ∃ li, lifeOf b = li := ⟨_, rfl⟩
  obtain ⟨m8, hm8⟩ : ∃ m8, a % 8 = m8 := ⟨_, rfl⟩
  have hr8 : 1 + m8 = ro := by rw [← hro, ← hm8]; rfl
  have m80 : 0 ≤ m8 := by omega
  have m81 : m8 < 8 := by omega
  rw [hm8] at ha
  have b0 := alloc_below w (.cells #[.int .i64 a, .int .i64 b] 23)
  have CB := hide (begun_any a b w _ b0)
  rw [hro, hli] at CB
  have CF := hide (fun W => fixed_any W)
  have r0 := hide (heap_alloc_new w (.cells #[.int .i64 a, .int .i64 b] 23))
  have HS := hide hS
  clear b0 hS hro hli hm8
  go_enter Try.func5, Try.ntmps5
  go_wp2_with fail
  refine (unhide CB).mono ?_
  rintro e w1 ⟨g, g2, rfl, h1, _, b1⟩
  have hw1 : w.heap.size ≤ w1.heap.size := h1.1.size
  have H1 := hide (show Inv w g ro li a b (.slice (some ⟨w1.heap.size, 0, none⟩) 0 0) [] (w1.alloc (.cells #[] 29)) from
    ⟨⟨[], h1.below (alloc_below _ _), fun k hk => by cases hk⟩, World.ownsRow_made w1 #[] 0 hw1 (by unfold maxLen; omega) rfl, Below.row (alloc_below _ _) (Below.row b1 (unhide r0))⟩)
  clear h1 b1 CB r0 hw1
  go_wp2_with fail
  go_loopg [7, 8] 60 (fun gg V c wr => ∃ (i r cc m : Nat) (ks : List Int), c = .int .i64 i ∧ i ≤ n ∧ i ≤ 60 ∧ 60 - i ≤ gg ∧ V = .slice (some ⟨r, 0, none⟩) m cc ∧ m ≤ i ∧ Hid (ks.length = m ∧ Inv w g ro li a b V ks wr))
  case atStart => exact ⟨0, _, 0, 0, [], rfl, Nat.zero_le _, Nat.zero_le _, Nat.le_refl _, rfl, Nat.le_refl _, hide ⟨rfl, unhide H1⟩⟩
  case round =>
    obtain ⟨i, r, cc, m, ks, rfl, hin, hi60, hgg, rfl, hmi, HI⟩ := hrel
    clear H1
    by_cases hlt : i < n
    · by_cases hl6 : i < 60
      · obtain ⟨hm, hI⟩ := unhide HI
        obtain ⟨L, hh, hfx⟩ := hI.has
        have hc := unhide HS i hlt
        obtain ⟨⟨kd, key, val, now⟩, hq⟩ : ∃ q, S i = q := ⟨_, rfl⟩
        rw [hq] at hc
        simp only at hc
        have c0 := (hh.1.cell (p := ⟨sb, _, none⟩) hsb).trans hc.1
        have c1 := (hh.1.cell (p := ⟨sb, _, none⟩) hsb).trans hc.2.1
        have c2 := (hh.1.cell (p := ⟨sb, _, none⟩) hsb).trans hc.2.2.1
        have c3 := (hh.1.cell (p := ⟨sb, _, none⟩) hsb).trans hc.2.2.2.1
        have hk := hc.2.2.2.2.1
        have hv := hc.2.2.2.2.2
        have hic : i < cap := by omega
        have HK := hide hk
        have HV := hide hv
        have HM := hide hm
        have Hh := hide hh
        have HF := hide hfx
        have HII := hide hI
        clear hc hq hk hv hm hh hfx hI HI
        by_cases e1 : kd = 1
        · subst e1
          have b1 := alloc_below wr (.cells #[.int .i64 1, .int .u64 key, .int .u64 val, .int .i64 now] 31)
          have h1 := (unhide Hh).below b1
          have C1 := hide (has_fix (w := w) (g := g) (room := ro) (life := li) (L := L) key val h1 (unhide HK) (unhide HV))
          have KF := hide (keep_fix (room := ro) (x := ⟨key, val, 0, true⟩) (unhide Hh).srt rfl)
          have FI := hide (fix_in (room := ro) (x := ⟨key, val, 0, true⟩) (unhide Hh).srt rfl)
          have SB := hide (Stays.of b1)
          have ro1 := hide (heap_alloc_new wr (.cells #[.int .i64 1, .int .u64 key, .int .u64 val, .int .i64 now] 31))
          clear b1 h1
          generalize hp : fixP ro L ⟨key, val, 0, true⟩ = P at C1 KF FI
          obtain ⟨er, L1⟩ := P
          simp only at C1 KF FI
          clear hp
          by_cases e0 : er = 0
          · subst e0
            go_wp2_with fail
            refine (unhide C1).mono ?_
            rintro e w2 ⟨rfl, h2, s2⟩
            have I2 := hide ((unhide HII).stays ((unhide SB).trans s2) h2 (fun k hk => unhide KF k (unhide HF k hk)))
            have H2 := hide h2
            have hop := s2 _ _ _ _ (by decide) (by decide) (unhide ro1)
            have cop := cells4 hop
            have hwr2 : w.heap.size ≤ w2.heap.size := h2.1.size
            have LU := hide (us_length ks)
            have src : Hid (∀ j u, [Value.int .u64 key][j]? = some u → (w2.alloc (.cells #[.int .u64 key] 29)).cell? ((⟨w2.heap.size, 0, none⟩ : Addr).add j) = some u) := by
              intro j u hu
              rw [Addr.add_lit, Nat.zero_add, cell_of_row _ w2.heap.size j _ _ _ (heap_alloc_new w2 _)]
              simpa using hu
            have hop2 := Below.row (alloc_below w2 (.cells #[.int .u64 key] 29)) hop
            have I3 := hide ((unhide I2).below (alloc_below w2 (.cells #[.int .u64 key] 29)))
            have H3 := hide ((unhide H2).below (alloc_below w2 (.cells #[.int .u64 key] 29)))
            have OW := hide (show (w2.alloc (.cells #[.int .u64 key] 29)).ownsRow w.heap.size 29 1 (.slice (some ⟨r, 0, none⟩) m cc) m (us ks) from by
              have h := (unhide I3).own
              rw [unhide HM] at h; exact h)
            have OP : Hid (∀ w3, (w2.alloc (.cells #[.int .u64 key] 29)).grownBy w3 (Value.slice (some ⟨r, 0, none⟩) m cc).ownBlock → w3.heap[wr.heap.size]? = some (.cells #[.int .i64 1, .int .u64 key, .int .u64 val, .int .i64 now] 31)) :=
              fun w3 g3 => grown_other g3 (fun k hk => (own_row (unhide OW) k hk).2) (by decide) hop2
            have hws : w.heap.size ≤ (w2.alloc (.cells #[.int .u64 key] 29)).heap.size := by simp; omega
            have FK := hide (fun k hk => unhide KF k (unhide HF k hk))
            clear h2 s2 hop hop2 C1 Hh HII SB ro1 c0 c1 c2 c3
            go_wp2_with (at_builtin; refine wpList_append_own_at _ rfl (.tmp 49) (.tmp 52) 49 rfl w.heap.size 29 i0 _ 1 8 Try.underlying49 hi0 hz0 hz1 hz2 rfl (by decide) _ m (us ks) rfl (unhide OW) ⟨w2.heap.size, 0, none⟩ 1 1 [.int .u64 key] rfl rfl (unhide src) (by intro u hu; simp at hu; subst hu; rfl) (by unfold maxLen; omega) (by omega) hws ?_; intro V3 W3 ho3 hg3 hn3 hat3; have O3 := hide ho3; have G3 := hide hg3; obtain ⟨r3, cc3, hv3⟩ := own_shape ho3 (fun e => by have := hn3.1 e; simp at this); subst hv3; have cop3 := cells4 (unhide OP W3 hg3); clear ho3 hg3 hn3 hat3)
            have IW := hide (Inv.append (unhide I3) (unhide H3) (unhide FK) (by first | exact unhide FI rfl | exact unhide FI trivial) (unhide G3) (by rw [unhide HM]; exact unhide O3))
            have HM3 : Hid ((ks ++ [key]).length = m + 1) := by show _ = _; rw [List.length_append, unhide HM]; rfl
            have hmm : m + 1 ≤ i + 1 := by omega
            clear I3 H3 O3 G3 FK FI KF OW OP I2 H2 HM HF cop LU src
            generalize ks ++ [key] = ks3 at IW HM3
            generalize m + 1 = m3 at *
            have IWb := unhide IW
            obtain ⟨L3, hh3, hf3⟩ := IWb.has
            have CE := hide (has_entries hh3)
            have hfit := hh3.fit
            have HS3 := hide hh3.srt
            have HH3 := hide hh3
            have HF3 := hide hf3
            clear IWb hh3 hf3
            obtain ⟨l3, hl3⟩ : ∃ l3, L3.length = l3 := ⟨_, rfl⟩
            have HL3 := hide hl3
            rw [hl3] at CE hfit
            clear hl3
            have hfr : ¬ ro < (l3 : Int) := by omega
            have hl8 : l3 ≤ 8 := by omega
            go_wp2_with fail
            refine (unhide CE).mono ?_
            rintro e w4 ⟨rfl, t4, b4⟩
            have T4 := hide t4
            have I4 := hide ((unhide IW).below b4)
            have H4 := hide ((unhide HH3).below b4)
            have cb := cells2 (unhide I4).box
            generalize W3.heap.size = R4 at *
            clear t4 b4 CE IW HH3
            go_wp2_with fail
            go_loopg [11] l3 (fun gg2 x wr2 => ∃ j : Nat, x = .int .i64 j ∧ 1 ≤ j ∧ l3 - j ≤ gg2 ∧ Below w4.heap.size w4 wr2)
            case atStart => exact ⟨1, rfl, Nat.le_refl _, by omega, Below.refl _ _⟩
            case round =>
              obtain ⟨j, rfl, hj1, hg2, hb2⟩ := hrel
              have HB2 := hide hb2
              clear hb2 cb
              by_cases hj : j < l3
              · obtain ⟨p, rfl⟩ : ∃ p, j = p + 1 := ⟨j - 1, by omega⟩
                have TT := owns_below (unhide T4) (unhide HB2)
                have k1 := tells_key TT (unhide HL3) (p + 1) (by rw [unhide HL3]; exact hj)
                have k0 := tells_key TT (unhide HL3) p (by rw [unhide HL3]; omega)
                have hlt2 := List.pairwise_iff_getElem.1 (unhide HS3) p (p + 1) (by rw [unhide HL3]; omega) (by rw [unhide HL3]; exact hj) (by omega)
                clear TT
                generalize (L3[p + 1]'(by rw [unhide HL3]; exact hj)).key = K1 at k1 hlt2
                generalize (L3[p]'(by rw [unhide HL3]; omega)).key = K0 at k0 hlt2
                have hd : decide (K1 ≤ K0) = false := decide_eq_false (by omega)
                have hx1 : IntKind.i64.wrap ((p : Int) + 1 - 1) = (p : Int) := by rw [IntKind.wrap_i64]; omega
                have hx2 : (p : Int) < (l3 : Int) := by omega
                have hx3 : (p : Int) + 1 < (l3 : Int) := by omega
                have hx4 : ((p : Int) + 1).toNat = p + 1 := by omega
                go_wp2_with fail
                go_quiet (fail)
                go_wp2_with fail
                go_roundg (l3 - (p + 2))
                case measure => omega
                case rel => exact ⟨p + 2, by go_num, by omega, by omega, drewN_below (unhide HB2) _⟩
              · go_wp2_with fail
                go_loopg [12] m3 (fun gg3 x wr3 => ∃ q : Nat, x = .int .i64 q ∧ q ≤ m3 ∧ m3 - q ≤ gg3 ∧ Below w4.heap.size w4 wr3)
                case atStart => exact ⟨0, rfl, Nat.zero_le _, by omega, unhide HB2⟩
                case round =>
                  obtain ⟨q, rfl, hqm, hg3, hb3⟩ := hrel
                  have I5 := hide ((unhide I4).below hb3)
                  have H5 := hide ((unhide H4).below hb3)
                  have HB3 := hide hb3
                  clear hb3 HB2
                  by_cases hq : q < m3
                  · have hqk : q < ks3.length := by rw [unhide HM3]; exact hq
                    have OO := (unhide I5).own
                    rw [unhide HM3] at OO
                    have kc := OO.cellAt q (by omega)
                    rw [us, List.getElem?_map, List.getElem?_eq_getElem hqk] at kc
                    obtain ⟨z, hz⟩ := told_ent (life := li) (unhide HS3) (unhide HF3 _ (List.getElem_mem hqk))
                    have C5 := hide (has_get ks3[q] 1099511627776 (unhide H5))
                    rw [hz] at C5
                    clear hz OO
                    generalize ks3[q] = kq at kc C5
                    simp only [Option.map_some] at kc
                    have hq2 : (q : Int) < (m3 : Int) := by omega
                    go_wp2_with fail
                    refine (unhide C5).mono ?_
                    rintro e w6 ⟨rfl, b6⟩
                    have HB6 := fun o => hide ((unhide HB3).trans ((alloc_then (o := o) b6).mono (unhide HB3).size))
                    clear b6 C5 kc
                    go_wp2_with fail
                    go_roundg (m3 - (q + 1))
                    case measure => omega
                    case rel => exact ⟨q + 1, by go_num, by omega, by omega, unhide (HB6 _)⟩
                  · go_wp2_with fail
                    go_roundg (60 - (i + 1))
                    case measure => omega
                    case rel => exact ⟨i + 1, r3, cc3, m3, ks3, by go_num, by omega, by omega, by omega, rfl, by omega, hide ⟨unhide HM3, unhide I5⟩⟩
          · have f0 : (er == 0) = false := beq_eq_false_iff_ne.2 e0
            go_wp2_with fail
            refine (unhide C1).mono ?_
            rintro e W3 ⟨rfl, h2, s2⟩
            have IW := hide ((unhide HII).stays ((unhide SB).trans s2) h2 (fun k hk => unhide KF k (unhide HF k hk)))
            have cop3 := cells4 (s2 _ _ _ _ (by decide) (by decide) (unhide ro1))
            have HM3 := HM
            have hmm : m ≤ i + 1 := by omega
            clear h2 s2 C1 Hh HII SB ro1 c0 c1 c2 c3 KF FI HF HM
            have IWb := unhide IW
            obtain ⟨L3, hh3, hf3⟩ := IWb.has
            have CE := hide (has_entries hh3)
            have hfit := hh3.fit
            have HS3 := hide hh3.srt
            have HH3 := hide hh3
            have HF3 := hide hf3
            clear IWb hh3 hf3
            obtain ⟨l3, hl3⟩ : ∃ l3, L3.length = l3 := ⟨_, rfl⟩
            have HL3 := hide hl3
            rw [hl3] at CE hfit
            clear hl3
            have hfr : ¬ ro < (l3 : Int) := by omega
            have hl8 : l3 ≤ 8 := by omega
            go_wp2_with fail
            refine (unhide CE).mono ?_
            rintro e w4 ⟨rfl, t4, b4⟩
            have T4 := hide t4
            have I4 := hide ((unhide IW).below b4)
            have H4 := hide ((unhide HH3).below b4)
            have cb := cells2 (unhide I4).box
            generalize W3.heap.size = R4 at *
            clear t4 b4 CE IW HH3
            go_wp2_with fail
            go_loopg [11] l3 (fun gg2 x wr2 => ∃ j : Nat, x = .int .i64 j ∧ 1 ≤ j ∧ l3 - j ≤ gg2 ∧ Below w4.heap.size w4 wr2)
            case atStart => exact ⟨1, rfl, Nat.le_refl _, by omega, Below.refl _ _⟩
            case round =>
              obtain ⟨j, rfl, hj1, hg2, hb2⟩ := hrel
              have HB2 := hide hb2
              clear hb2 cb
              by_cases hj : j < l3
              · obtain ⟨p, rfl⟩ : ∃ p, j = p + 1 := ⟨j - 1, by omega⟩
                have TT := owns_below (unhide T4) (unhide HB2)
                have k1 := tells_key TT (unhide HL3) (p + 1) (by rw [unhide HL3]; exact hj)
                have k0 := tells_key TT (unhide HL3) p (by rw [unhide HL3]; omega)
                have hlt2 := List.pairwise_iff_getElem.1 (unhide HS3) p (p + 1) (by rw [unhide HL3]; omega) (by rw [unhide HL3]; exact hj) (by omega)
                clear TT
                generalize (L3[p + 1]'(by rw [unhide HL3]; exact hj)).key = K1 at k1 hlt2
                generalize (L3[p]'(by rw [unhide HL3]; omega)).key = K0 at k0 hlt2
                have hd : decide (K1 ≤ K0) = false := decide_eq_false (by omega)
                have hx1 : IntKind.i64.wrap ((p : Int) + 1 - 1) = (p : Int) := by rw [IntKind.wrap_i64]; omega
                have hx2 : (p : Int) < (l3 : Int) := by omega
                have hx3 : (p : Int) + 1 < (l3 : Int) := by omega
                have hx4 : ((p : Int) + 1).toNat = p + 1 := by omega
                go_wp2_with fail
                go_quiet (fail)
                go_wp2_with fail
                go_roundg (l3 - (p + 2))
                case measure => omega
                case rel => exact ⟨p + 2, by go_num, by omega, by omega, drewN_below (unhide HB2) _⟩
              · go_wp2_with fail
                go_loopg [12] m (fun gg3 x wr3 => ∃ q : Nat, x = .int .i64 q ∧ q ≤ m ∧ m - q ≤ gg3 ∧ Below w4.heap.size w4 wr3)
                case atStart => exact ⟨0, rfl, Nat.zero_le _, by omega, unhide HB2⟩
                case round =>
                  obtain ⟨q, rfl, hqm, hg3, hb3⟩ := hrel
                  have I5 := hide ((unhide I4).below hb3)
                  have H5 := hide ((unhide H4).below hb3)
                  have HB3 := hide hb3
                  clear hb3 HB2
                  by_cases hq : q < m
                  · have hqk : q < ks.length := by rw [unhide HM3]; exact hq
                    have OO := (unhide I5).own
                    rw [unhide HM3] at OO
                    have kc := OO.cellAt q (by omega)
                    rw [us, List.getElem?_map, List.getElem?_eq_getElem hqk] at kc
                    obtain ⟨z, hz⟩ := told_ent (life := li) (unhide HS3) (unhide HF3 _ (List.getElem_mem hqk))
                    have C5 := hide (has_get ks[q] 1099511627776 (unhide H5))
                    rw [hz] at C5
                    clear hz OO
                    generalize ks[q] = kq at kc C5
                    simp only [Option.map_some] at kc
                    have hq2 : (q : Int) < (m : Int) := by omega
                    go_wp2_with fail
                    refine (unhide C5).mono ?_
                    rintro e w6 ⟨rfl, b6⟩
                    have HB6 := fun o => hide ((unhide HB3).trans ((alloc_then (o := o) b6).mono (unhide HB3).size))
                    clear b6 C5 kc
                    go_wp2_with fail
                    go_roundg (m - (q + 1))
                    case measure => omega
                    case rel => exact ⟨q + 1, by go_num, by omega, by omega, unhide (HB6 _)⟩
                  · go_wp2_with fail
                    go_roundg (60 - (i + 1))
                    case measure => omega
                    case rel => exact ⟨i + 1, r, cc, m, ks, by go_num, by omega, by omega, by omega, rfl, by omega, hide ⟨unhide HM3, unhide I5⟩⟩
        · by_cases e3 : kd = 3
          · subst e3
            have b1 := alloc_below wr (.cells #[.int .i64 3, .int .u64 key, .int .u64 val, .int .i64 now] 31)
            have IW := hide ((unhide HII).below b1)
            have HM3 := HM
            have hmm : m ≤ i + 1 := by omega
            clear b1 Hh HII HF HM
            go_wp2_with fail
            clear c0 c1 c2 c3
            generalize hW3 : wr.alloc (.cells #[.int .i64 3, .int .u64 key, .int .u64 val, .int .i64 now] 31) = W3 at *
            clear hW3
            have IWb := unhide IW
            obtain ⟨L3, hh3, hf3⟩ := IWb.has
            have CE := hide (has_entries hh3)
            have hfit := hh3.fit
            have HS3 := hide hh3.srt
            have HH3 := hide hh3
            have HF3 := hide hf3
            clear IWb hh3 hf3
            obtain ⟨l3, hl3⟩ : ∃ l3, L3.length = l3 := ⟨_, rfl⟩
            have HL3 := hide hl3
            rw [hl3] at CE hfit
            clear hl3
            have hfr : ¬ ro < (l3 : Int) := by omega
            have hl8 : l3 ≤ 8 := by omega
            go_wp2_with fail
            refine (unhide CE).mono ?_
            rintro e w4 ⟨rfl, t4, b4⟩
            have T4 := hide t4
            have I4 := hide ((unhide IW).below b4)
            have H4 := hide ((unhide HH3).below b4)
            have cb := cells2 (unhide I4).box
            generalize W3.heap.size = R4 at *
            clear t4 b4 CE IW HH3
            go_wp2_with fail
            go_loopg [11] l3 (fun gg2 x wr2 => ∃ j : Nat, x = .int .i64 j ∧ 1 ≤ j ∧ l3 - j ≤ gg2 ∧ Below w4.heap.size w4 wr2)
            case atStart => exact ⟨1, rfl, Nat.le_refl _, by omega, Below.refl _ _⟩
            case round =>
              obtain ⟨j, rfl, hj1, hg2, hb2⟩ := hrel
              have HB2 := hide hb2
              clear hb2 cb
              by_cases hj : j < l3
              · obtain ⟨p, rfl⟩ : ∃ p, j = p + 1 := ⟨j - 1, by omega⟩
                have TT := owns_below (unhide T4) (unhide HB2)
                have k1 := tells_key TT (unhide HL3) (p + 1) (by rw [unhide HL3]; exact hj)
                have k0 := tells_key TT (unhide HL3) p (by rw [unhide HL3]; omega)
                have hlt2 := List.pairwise_iff_getElem.1 (unhide HS3) p (p + 1) (by rw [unhide HL3]; omega) (by rw [unhide HL3]; exact hj) (by omega)
                clear TT
                generalize (L3[p + 1]'(by rw [unhide HL3]; exact hj)).key = K1 at k1 hlt2
                generalize (L3[p]'(by rw [unhide HL3]; omega)).key = K0 at k0 hlt2
                have hd : decide (K1 ≤ K0) = false := decide_eq_false (by omega)
                have hx1 : IntKind.i64.wrap ((p : Int) + 1 - 1) = (p : Int) := by rw [IntKind.wrap_i64]; omega
                have hx2 : (p : Int) < (l3 : Int) := by omega
                have hx3 : (p : Int) + 1 < (l3 : Int) := by omega
                have hx4 : ((p : Int) + 1).toNat = p + 1 := by omega
                go_wp2_with fail
                go_quiet (fail)
                go_wp2_with fail
                go_roundg (l3 - (p + 2))
                case measure => omega
                case rel => exact ⟨p + 2, by go_num, by omega, by omega, drewN_below (unhide HB2) _⟩
              · go_wp2_with fail
                go_loopg [12] m (fun gg3 x wr3 => ∃ q : Nat, x = .int .i64 q ∧ q ≤ m ∧ m - q ≤ gg3 ∧ Below w4.heap.size w4 wr3)
                case atStart => exact ⟨0, rfl, Nat.zero_le _, by omega, unhide HB2⟩
                case round =>
                  obtain ⟨q, rfl, hqm, hg3, hb3⟩ := hrel
                  have I5 := hide ((unhide I4).below hb3)
                  have H5 := hide ((unhide H4).below hb3)
                  have HB3 := hide hb3
                  clear hb3 HB2
                  by_cases hq : q < m
                  · have hqk : q < ks.length := by rw [unhide HM3]; exact hq
                    have OO := (unhide I5).own
                    rw [unhide HM3] at OO
                    have kc := OO.cellAt q (by omega)
                    rw [us, List.getElem?_map, List.getElem?_eq_getElem hqk] at kc
                    obtain ⟨z, hz⟩ := told_ent (life := li) (unhide HS3) (unhide HF3 _ (List.getElem_mem hqk))
                    have C5 := hide (has_get ks[q] 1099511627776 (unhide H5))
                    rw [hz] at C5
                    clear hz OO
                    generalize ks[q] = kq at kc C5
                    simp only [Option.map_some] at kc
                    have hq2 : (q : Int) < (m : Int) := by omega
                    go_wp2_with fail
                    refine (unhide C5).mono ?_
                    rintro e w6 ⟨rfl, b6⟩
                    have HB6 := fun o => hide ((unhide HB3).trans ((alloc_then (o := o) b6).mono (unhide HB3).size))
                    clear b6 C5 kc
                    go_wp2_with fail
                    go_roundg (m - (q + 1))
                    case measure => omega
                    case rel => exact ⟨q + 1, by go_num, by omega, by omega, unhide (HB6 _)⟩
                  · go_wp2_with fail
                    go_roundg (60 - (i + 1))
                    case measure => omega
                    case rel => exact ⟨i + 1, r, cc, m, ks, by go_num, by omega, by omega, by omega, rfl, by omega, hide ⟨unhide HM3, unhide I5⟩⟩
          · have f1 : (kd == 1) = false := beq_eq_false_iff_ne.2 e1
            have f3 : (kd == 3) = false := beq_eq_false_iff_ne.2 e3
            have b1 := alloc_below wr (.cells #[.int .i64 kd, .int .u64 key, .int .u64 val, .int .i64 now] 31)
            have C1 := hide (some_any w _ g ro li kd key val now L ((unhide Hh).below b1) (unhide HK) (unhide HV))
            have SB := hide (Stays.of b1)
            clear b1
            go_wp2_with fail
            refine (unhide C1).mono ?_
            rintro e W3 ⟨rfl, L1, h2, KF, s2⟩
            have IW := hide ((unhide HII).stays ((unhide SB).trans s2) h2 (fun k hk => KF k (unhide HF k hk)))
            have HM3 := HM
            have hmm : m ≤ i + 1 := by omega
            clear h2 s2 C1 Hh HII SB c0 c1 c2 c3 KF HF HM
            have IWb := unhide IW
            obtain ⟨L3, hh3, hf3⟩ := IWb.has
            have CE := hide (has_entries hh3)
            have hfit := hh3.fit
            have HS3 := hide hh3.srt
            have HH3 := hide hh3
            have HF3 := hide hf3
            clear IWb hh3 hf3
            obtain ⟨l3, hl3⟩ : ∃ l3, L3.length = l3 := ⟨_, rfl⟩
            have HL3 := hide hl3
            rw [hl3] at CE hfit
            clear hl3
            have hfr : ¬ ro < (l3 : Int) := by omega
            have hl8 : l3 ≤ 8 := by omega
            go_wp2_with fail
            refine (unhide CE).mono ?_
            rintro e w4 ⟨rfl, t4, b4⟩
            have T4 := hide t4
            have I4 := hide ((unhide IW).below b4)
            have H4 := hide ((unhide HH3).below b4)
            have cb := cells2 (unhide I4).box
            generalize W3.heap.size = R4 at *
            clear t4 b4 CE IW HH3
            go_wp2_with fail
            go_loopg [11] l3 (fun gg2 x wr2 => ∃ j : Nat, x = .int .i64 j ∧ 1 ≤ j ∧ l3 - j ≤ gg2 ∧ Below w4.heap.size w4 wr2)
            case atStart => exact ⟨1, rfl, Nat.le_refl _, by omega, Below.refl _ _⟩
            case round =>
              obtain ⟨j, rfl, hj1, hg2, hb2⟩ := hrel
              have HB2 := hide hb2
              clear hb2 cb
              by_cases hj : j < l3
              · obtain ⟨p, rfl⟩ : ∃ p, j = p + 1 := ⟨j - 1, by omega⟩
                have TT := owns_below (unhide T4) (unhide HB2)
                have k1 := tells_key TT (unhide HL3) (p + 1) (by rw [unhide HL3]; exact hj)
                have k0 := tells_key TT (unhide HL3) p (by rw [unhide HL3]; omega)
                have hlt2 := List.pairwise_iff_getElem.1 (unhide HS3) p (p + 1) (by rw [unhide HL3]; omega) (by rw [unhide HL3]; exact hj) (by omega)
                clear TT
                generalize (L3[p + 1]'(by rw [unhide HL3]; exact hj)).key = K1 at k1 hlt2
                generalize (L3[p]'(by rw [unhide HL3]; omega)).key = K0 at k0 hlt2
                have hd : decide (K1 ≤ K0) = false := decide_eq_false (by omega)
                have hx1 : IntKind.i64.wrap ((p : Int) + 1 - 1) = (p : Int) := by rw [IntKind.wrap_i64]; omega
                have hx2 : (p : Int) < (l3 : Int) := by omega
                have hx3 : (p : Int) + 1 < (l3 : Int) := by omega
                have hx4 : ((p : Int) + 1).toNat = p + 1 := by omega
                go_wp2_with fail
                go_quiet (fail)
                go_wp2_with fail
                go_roundg (l3 - (p + 2))
                case measure => omega
                case rel => exact ⟨p + 2, by go_num, by omega, by omega, drewN_below (unhide HB2) _⟩
              · go_wp2_with fail
                go_loopg [12] m (fun gg3 x wr3 => ∃ q : Nat, x = .int .i64 q ∧ q ≤ m ∧ m - q ≤ gg3 ∧ Below w4.heap.size w4 wr3)
                case atStart => exact ⟨0, rfl, Nat.zero_le _, by omega, unhide HB2⟩
                case round =>
                  obtain ⟨q, rfl, hqm, hg3, hb3⟩ := hrel
                  have I5 := hide ((unhide I4).below hb3)
                  have H5 := hide ((unhide H4).below hb3)
                  have HB3 := hide hb3
                  clear hb3 HB2
                  by_cases hq : q < m
                  · have hqk : q < ks.length := by rw [unhide HM3]; exact hq
                    have OO := (unhide I5).own
                    rw [unhide HM3] at OO
                    have kc := OO.cellAt q (by omega)
                    rw [us, List.getElem?_map, List.getElem?_eq_getElem hqk] at kc
                    obtain ⟨z, hz⟩ := told_ent (life := li) (unhide HS3) (unhide HF3 _ (List.getElem_mem hqk))
                    have C5 := hide (has_get ks[q] 1099511627776 (unhide H5))
                    rw [hz] at C5
                    clear hz OO
                    generalize ks[q] = kq at kc C5
                    simp only [Option.map_some] at kc
                    have hq2 : (q : Int) < (m : Int) := by omega
                    go_wp2_with fail
                    refine (unhide C5).mono ?_
                    rintro e w6 ⟨rfl, b6⟩
                    have HB6 := fun o => hide ((unhide HB3).trans ((alloc_then (o := o) b6).mono (unhide HB3).size))
                    clear b6 C5 kc
                    go_wp2_with fail
                    go_roundg (m - (q + 1))
                    case measure => omega
                    case rel => exact ⟨q + 1, by go_num, by omega, by omega, unhide (HB6 _)⟩
                  · go_wp2_with fail
                    go_roundg (60 - (i + 1))
                    case measure => omega
                    case rel => exact ⟨i + 1, r, cc, m, ks, by go_num, by omega, by omega, by omega, rfl, by omega, hide ⟨unhide HM3, unhide I5⟩⟩
      · have H1 := hide (unhide HI).2.has
        clear HI
        go_wp2_with fail
        refine (unhide CF _).mono ?_
        rintro e w2 ⟨rfl, b2⟩
        have H2 := hide b2
        clear b2 CF
        go_wp2_with fail
        go_ret
        obtain ⟨L, hL, _⟩ := unhide H1
        exact ⟨rfl, bthen hL.1 (unhide H2)⟩
    · have H1 := hide (unhide HI).2.has
      clear HI
      go_wp2_with fail
      refine (unhide CF _).mono ?_
      rintro e w2 ⟨rfl, b2⟩
      have H2 := hide b2
      clear b2 CF
      go_wp2_with fail
      go_ret
      obtain ⟨L, hL, _⟩ := unhide H1
      exact ⟨rfl, bthen hL.1 (unhide H2)⟩
theorem walk (a b : Int) (ao : Option Addr) (n cap : Nat) (S : Nat → Int × Int × Int × Int) (w : World) (h : OpsIn w ao n cap S) :
    Calls Try.prog 5 #[.agg #[.int .i64 a, .int .i64 b], .slice ao n cap] w fun e w' => e = .returned (.bool true) ∧ Below w.heap.size w w' := by
  obtain ⟨h1, _, rfl | ⟨sb, so, rfl, h3, h4⟩⟩ := h
  · exact walk_none a b ao cap w
  · exact walk_some a b sb so n cap S w h3 h4 h1
set_option maxRecDepth 100000 in
theorem lifted (os : Os) (started : os.Started) (H : Type) (enc : TypeId × Value → H) :
    ReturnsInHanded {} Try.checked os 5 .any (Rows.agesBoundsSpec.pre6 enc Try.prog Try.f5 Rows.agesBoundsRow.domain false) (Rows.agesBoundsSpec.post enc Try.prog Try.f5 false true false false) := by
  refine returnsInHanded_of_change (C := Try.checked) own started (by kernel_rfl) Try.func5
    (ChangeSpec.witness6 (enc := enc) (C := Try.checked) false ⟨#[], #[.agg #[.int .i64 0, .int .i64 0], .slice none 0 0], []⟩ 8 (by kernel_rfl) (by kernel_rfl) (by kernel_rfl) (by kernel_rfl)) ?_
  intro W base args ds gs before hval0 hW _ _
  have hval : ∀ (j : Nat) t v, Try.f5.params[j]? = some t → args[j]? = some v → Value.okWide Try.prog W .any base t v := hval0
  have hW' := hW
  obtain ⟨p, q, hA0, hV, rfl, hfz, hnd⟩ := hW
  have hA : DataW.TrodAll enc Try.prog W 0 (fun _ => true) true Try.f5.params.toList args.toList ds p := hA0
  rw [Try.params5] at hA hval
  obtain ⟨v0, v1, d0, d1, p0, p1, rfl, rfl, rfl, h0, h1⟩ := trodAll_two hA
  obtain ⟨a0, c0, rfl, rfl, rfl, w0, x0⟩ := open_size (hval 0 23 v0 rfl rfl) h0
  have y1 : ∀ x ∈ p1, x.block < W.heap.size := fun x hx => hW'.lt x (by simp [hx])
  obtain ⟨ao1, n1, cap1, S1, rfl, hs1⟩ := open_ops (hval 1 24 v1 rfl rfl) h1 y1
  obtain ⟨rfl, rfl⟩ := trodVars_none hV
  have e1 : Rows.agesBoundsSpec.fn H ([sizeD a0 c0, d1] ++ []) = { results := [.lit (.bool true)], args := [sizeD a0 c0, d1] } := by simp [Rows.agesBoundsSpec]
  refine (walk a0 c0 ao1 n1 cap1 S1 W hs1).mono fun e W' ⟨he, hb⟩ => ?_
  subst he
  refine ⟨_, rfl, _, _, _, [], [] ++ p1, [], hW', ?_, ?_, ?_, hb.frame _, fun h => by cases h⟩
  · rw [e1]; exact trodAll_mk1 (shut_bool Try.underlying4 true)
  · rw [e1]; exact trodAll_mk2 (shut_size a0 c0 w0 x0) (stay h1 y1 hb)
  · rw [e1]; rfl
theorem said : Rows.AgesBoundsSaid :=
  OpenClaim.holds_of_wide 5 Try.f5 rfl rfl rfl rfl rfl rfl rfl ⟨rfl, rfl, rfl, rfl, rfl⟩ rfl rfl rfl rfl rfl (by kernel_rfl) Try.func5 (by kernel_rfl)
    (of_decide_eq_true (by kernel_rfl)) (by unfold Func.isWrapper; rw [if_neg (of_decide_eq_false (by kernel_rfl))]; exact ⟨rfl, rfl⟩)
    (fun os started H enc _ => lifted os started H enc)
end Go.Proofs.Ytppfhbcfmekdoaa.agesBounds
namespace Go.Proofs.Ytppfhbcfmekdoaa
theorem agesBounds_holds : Rows.AgesBoundsSaid := agesBounds.said
end Go.Proofs.Ytppfhbcfmekdoaa
