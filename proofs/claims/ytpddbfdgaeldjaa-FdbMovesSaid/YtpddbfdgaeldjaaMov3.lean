/-
  The contracts of fdb's counts and of the moves' counting and add, at the one address that moved.
-/
import Derived.Test.YtpddbfdgaeldjaaMov2
namespace Go.Proofs.Ytpddbfdgaeldjaa
open Go.RowKit Go.Sort

theorem counts_any (a t n : Int) (w : World) (ha : 0 ≤ a ∧ a ≤ 1099511627776) (ht : 0 ≤ t ∧ t ≤ 1099511627776) :
    Calls Try.prog 57 #[.int .i64 a, .int .i64 t, .int .i64 n] w fun e w' => e = .returned (.bool (decide (t - a < n))) ∧ w' = w := by
  have e1 : wrap64 (t - a) = t - a := by unfold wrap64; omega
  obtain ⟨d, hd⟩ : ∃ d, t - a = d := ⟨_, rfl⟩
  rw [hd] at e1 ⊢
  have e2 : wrap64 (t - a) = d := by rw [hd]; exact e1
  obtain ⟨b, hb⟩ : ∃ b, decide (d < n) = b := ⟨_, rfl⟩
  rw [hb]
  clear hd e1 ha ht
  go_enter Try.func57, Try.ntmps57
  go_wp2
  go_ret
  exact ⟨rfl, rfl⟩
/-- how many of them count -/
def cnt (M : List Int) (t n : Int) : Nat := M.countP fun x => decide (t - x < n)
theorem cnt_take (M : List Int) (t n : Int) (k : Nat) (h : k < M.length) : cnt (M.take (k + 1)) t n = cnt (M.take k) t n + if decide (t - M[k] < n) then 1 else 0 := by
  unfold cnt
  rw [List.take_succ_eq_append_getElem h, List.countP_append]
  simp [List.countP_cons]
theorem cnt_le (M : List Int) (t n : Int) : cnt M t n ≤ M.length := List.countP_le_length
set_option maxRecDepth 100000 in
theorem counting_any (B b : Nat) (mr : Option Nat) (v : Value) (M : List Int) (now win : Int) (w : World) (h : Mv B w b mr v M) (hl : M.length ≤ 64) (hn : 0 ≤ now ∧ now ≤ 1099511627776) :
    Calls Try.prog 46 #[.map (some b), .int .u64 281474976710658, .int .i64 now, .int .i64 win] w fun e w' => e = .returned (.int .i64 (cnt M now win)) ∧ w' = w := by
  have hlook := h.look
  rcases h.sl with ⟨rfl, rfl, _⟩ | ⟨r, o, c, rfl, _, _, hne, hi⟩
  · clear h
    go_enter Try.func46, Try.ntmps46
    go_wp2_with fail
    refine wp_loop_rounds 1 ?_
    rw [rounds_succ]
    go_wp2_with fail
    go_ret
    exact ⟨rfl, rfl⟩
  · have hr := hide hi.irow
    have HT := hide h.times
    have C := hide (fun a (ha : 0 ≤ a ∧ a ≤ 1099511627776) => counts_any a now win w ha hn)
    obtain ⟨n, hln⟩ : ∃ n, M.length = n := ⟨_, rfl⟩
    rw [hln] at hlook hl
    have HN := hide hln
    clear h hi hne hln
    go_enter Try.func46, Try.ntmps46
    go_wp2_with fail
    go_loopw [9, 16] (fun a b wr => ∃ k : Nat, b = .int .i64 k ∧ k ≤ n ∧ a = .int .i64 (cnt (M.take k) now win) ∧ wr = w) (fun _ b _ => n - (intOf b).toNat)
    case atStart => exact ⟨0, rfl, Nat.zero_le _, rfl, rfl⟩
    case round =>
      obtain ⟨k, rfl, hk, rfl, rfl⟩ := hrel
      by_cases hlt : k < n
      · have hkl : k < M.length := by rw [unhide HN]; exact hlt
        have e0 := unhide hr k hkl
        have C1 := hide (unhide C M[k] (unhide HT _ (List.getElem_mem hkl)))
        have hs := hide (cnt_take M now win k hkl)
        have hle : cnt (M.take k) now win ≤ k := Nat.le_trans (cnt_le _ _ _) (by rw [List.length_take]; exact Nat.min_le_left _ _)
        generalize hcn : cnt (M.take k) now win = q at *
        generalize M[k] = x at e0 C1 hs
        clear hcn
        by_cases hd : decide (now - x < win) = true
        · rw [hd] at C1 hs
          go_wp2_with fail
          refine (unhide C1).mono ?_
          rintro e w2 ⟨rfl, rfl⟩
          go_wp2_with fail
          go_roundw
          case rel => exact ⟨k + 1, by go_num, by omega, by rw [unhide hs]; go_num, by trivial⟩
          case measure => simp [intOf]; omega
        · have hd' : decide (now - x < win) = false := by simpa using hd
          rw [hd'] at C1 hs
          go_wp2_with fail
          refine (unhide C1).mono ?_
          rintro e w2 ⟨rfl, rfl⟩
          go_wp2_with fail
          go_roundw
          case rel => exact ⟨k + 1, by go_num, by omega, by rw [unhide hs]; rfl, by trivial⟩
          case measure => simp [intOf]; omega
      · obtain rfl : k = n := by omega
        have hk : M.take k = M := List.take_of_length_le (by rw [unhide HN]; exact Nat.le_refl _)
        rw [hk]
        clear hk
        go_wp2_with fail
        go_ret
        exact ⟨rfl, rfl⟩
theorem Irw.row {W W' : World} {r o c : Nat} {M : List Int} (h : Irw W r o c M) (b : ∀ cur, W.heap[r]? = some (.cells cur 3 (0, 0)) → W'.heap[r]? = some (.cells cur 3 (0, 0))) : Irw W' r o c M := by
  obtain ⟨h1, h2, cur, h3, h4⟩ := h
  exact ⟨h1, h2, cur, b cur h3, h4⟩
theorem Sl.below {B : Nat} {W W' : World} {mr : Option Nat} {v : Value} {M : List Int} (h : Sl B W mr v M) (b : Below W.heap.size W W') : Sl B W' mr v M := by
  rcases h with h | ⟨r, o, c, h1, h2, h3, h4, h5⟩
  · exact .inl h
  · exact .inr ⟨r, o, c, h1, h2, h3, h4, h5.row fun _ h => Below.row b h⟩
theorem Mv.below {B : Nat} {W W' : World} {b : Nat} {mr : Option Nat} {v : Value} {M : List Int} (h : Mv B W b mr v M) (bl : Below W.heap.size W W') : Mv B W' b mr v M :=
  ⟨h.low, h.times, h.rises, h.map.kept (grown_of bl none) (by simp), h.sl.below bl⟩
theorem Mv.stays {B : Nat} {W W' : World} {b : Nat} {mr : Option Nat} {v : Value} {M : List Int} (h : Mv B W b mr v M) (s : Stays W W') : Mv B W' b mr v M := by
  refine ⟨h.low, h.times, h.rises, ?_, ?_⟩
  · obtain ⟨es, clock, hb, r⟩ := h.map
    exact ⟨es, clock, s _ _ rfl hb, r⟩
  · rcases h.sl with h | ⟨r, o, c, h1, h2, h3, h4, h5⟩
    · exact .inl h
    · exact .inr ⟨r, o, c, h1, h2, h3, h4, h5.row fun _ h => s _ _ rfl h⟩
/-- a map's block is no row's -/
theorem map_row {W : World} {b n r : Nat} {D : DataW Value} {cur : Array Value} {t : TypeId} {fr : Nat × Nat} (h : W.ownsMap Try.prog 39 RH b n D) (hr : W.heap[r]? = some (.cells cur t fr)) : b ≠ r := by
  rintro rfl
  obtain ⟨es, clock, hb, _⟩ := h
  rw [hb] at hr
  cases hr
/-- the walk's law at the append -/
theorem wp_push {B : Nat} {W : World} {mr : Option Nat} {v : Value} {M : List Int} (h : Sl B W mr v M) (hB : B ≤ W.heap.size) (x : Int) (s : Nat) (hs : W.cell? ⟨s, 0, none⟩ = some (.int .i64 x)) (hl : M.length ≤ 64)
    {ops : Array Oper} {rest : List Oper} {o : Oper} {a : Act} {Q : Exit → Act → World → Prop} (hg : o.guard = none) (sv xv : Operand) (hop : o.op = Op.call { callee := Callee.builtin Builtin.append, args := #[sv, xv], argTypes := #[38, 38] })
    (hsv : a.eval sv = v) (hxv : a.eval xv = .slice (some ⟨s, 0, none⟩) 1 1)
    (hK : ∀ r o' c W', Irw W' r o' c (M ++ [x]) → B ≤ r → W.grownBy W' mr → (mr = some r ∨ W.heap.size ≤ r) → wpList Try.prog ops Q rest (a.put o.dst (.slice (some ⟨r, o', none⟩) (M.length + 1) c)) W') : wpList Try.prog ops Q (o :: rest) a W := by
  refine wpList_plain hg fun K hK' => ?_
  obtain ⟨r, o', c, W', hrun, h1, h2, h3, h4⟩ := append_run h hB x s hs hl o.type
  unfold Oper.wp
  simp [execOp, hop, resolve, invoke, builtin, hsv, hxv, hrun, Result.andThen]
  exact hK' _ _ (hK r o' c W' h1 h2 h3 h4)
/-- the walk's law at the store -/
theorem wp_keep {W : World} {b : Nat} {v : Value} {M : List Int} (h : W.ownsMap Try.prog 39 RH b 1 (mapD v M)) (v' : Value) (M' : List Int) (hne : M' ≠ [])
    {ops : Array Oper} {rest : List Oper} {o : Oper} {a : Act} {Q : Exit → Act → World → Prop} (hg : o.guard = none) (m x u : Operand) (hop : o.op = Op.mapUpdate 64 m x u)
    (hm : a.eval m = .map (some b)) (hx : a.eval x = .int .u64 281474976710658) (hu : a.eval u = v')
    (hK : ∀ W', W'.ownsMap Try.prog 39 RH b 1 (mapD v' M') → W.grownBy W' (some b) → wpList Try.prog ops Q rest (a.put o.dst undef) W') : wpList Try.prog ops Q (o :: rest) a W := by
  refine wpList_plain hg fun K hK' => ?_
  obtain ⟨W', hrun, h1, h2⟩ := map_store h v' M' hne
  unfold Oper.wp
  simp [execOp, hop, hm, hx, hu, hrun, Result.andThen]
  exact hK' _ _ (hK W' h1 h2)
theorem irow_drop {W : World} {r o c : Nat} {M : List Int} (h : Irw W r o c M) (d : Nat) (hd : d ≤ M.length) : Irw W r (o + d) (c - d) (M.drop d) := by
  obtain ⟨h1, h2, cur, h3, h4, h5⟩ := h
  refine ⟨by rw [List.length_drop]; omega, by omega, cur, h3, by omega, fun j hj => ?_⟩
  rw [List.length_drop] at hj
  rw [List.getElem_drop, Nat.add_assoc]
  exact h5 (d + j) (by omega)
theorem rises_push {M : List Int} {x : Int} (h : Rises M) (hx : ∀ y ∈ M, y ≤ x) : Rises (M ++ [x]) := List.pairwise_append.2 ⟨h, List.pairwise_singleton _ _, fun a ha b hb => by
  obtain rfl : b = x := by simpa using hb
  exact hx a ha⟩
set_option maxHeartbeats 1000000 in
set_option maxRecDepth 100000 in
theorem add_any (B b most n : Nat) (mr : Option Nat) (v : Value) (M : List Int) (now : Int) (w : World) (h : Mv B w b mr v M) (hB : B ≤ w.heap.size) (hln : M.length = n) (hl : n ≤ 11) (hn : 0 ≤ now ∧ now ≤ 1099511627776) (hx : ∀ y ∈ M, y ≤ now) (hm1 : 1 ≤ most) (hm2 : most ≤ 64) :
    Calls Try.prog 47 #[.map (some b), .int .u64 281474976710658, .int .i64 now, .int .i64 most] w fun e w' => e = .returned (.tuple #[]) ∧ ∃ mr' v', Mv B w' b mr' v' ((M ++ [now]).drop (n + 1 - most)) ∧ But2 b mr w w' ∧ (mr' = mr ∨ ∀ k, mr' = some k → w.heap.size ≤ k) := by
  have hlook := h.look
  have hrs := rises_push h.rises hx
  have hlen : (M ++ [now]).length = n + 1 := by simp [hln]
  have H := hide h
  have b1 := alloc_below w (.cells #[.int .i64 now] 3)
  have s1 := hide (h.sl.below b1)
  have r1 := hide ((cells1 (heap_alloc_new w (.cells #[.int .i64 now] 3))).1)
  have B1 := hide b1
  have hB1 : B ≤ (w.alloc (.cells #[.int .i64 now] 3)).heap.size := Nat.le_trans hB b1.size
  have hml := hide (h.map.alloc (.cells #[.int .i64 now] 3))
  have HRS := hide hrs
  have CS := hide (fun r o c W (hi : Irow W r o (M ++ [now])) => sort_any (M ++ [now]) r o c (n + 1) W hi hlen hrs (by omega))
  obtain ⟨d, hd⟩ : ∃ d, n + 1 - most = d := ⟨_, rfl⟩
  have hdn : d ≤ n := by omega
  have hmax : ∀ ts t W, (Builtin.max_ ts t #[.int .i64 0, .int .i64 ((n : Int) + 1 - (most : Int))]).run Try.prog W = .ok (.int .i64 d) W := by
    intro ts t W
    rw [run_max_int2]
    congr 2
    split <;> omega
  have hslice : Hid (∀ r o c W, d < c → (Instr.slice 38 (.slice (some ⟨r, o, none⟩) (n + 1) c) (some (.int .i64 (d : Int))) none none).run Try.prog W = .ok (.slice (some ⟨r, o + d, none⟩) (n + 1 - d) (c - d)) W) := by
    intro r o c W hc
    rw [run_slice_l W 38 (some ⟨r, o, none⟩) (n + 1) c Try.underlying38 .i64 (d : Int) (by omega) (by omega)]
    have hs : (sizeOf (Try.prog.elem 38)).run Try.prog W = .ok 1 W := by kernel_rfl
    rw [hs]
    simp only [Result.andThen, sliced, Int.toNat_natCast]
    rw [if_neg (by omega)]
    simp [Addr.add_lit]
  have hne : (M ++ [now]).drop d ≠ [] := fun e => by
    have := congrArg List.length e
    rw [List.length_drop, hlen] at this
    simp at this
    omega
  have hdl : ((M ++ [now]).drop d).length = n + 1 - d := by rw [List.length_drop, hlen]
  rw [hd]
  clear h b1 hrs hd
  go_enter Try.func47, Try.ntmps47
  go_wp2_with (at_builtin; refine wp_push (unhide s1) hB1 now w.heap.size (unhide r1) (by omega) rfl _ _ rfl rfl rfl ?_; intro r o c W2 i2 hr2 g2 m2; have I2 := hide i2; have G2 := hide g2; have M2 := hide m2; clear i2 g2 m2)
  refine (unhide CS r o c W2 (unhide I2).irow).mono ?_
  rintro e W3 ⟨rfl, b3⟩
  have B3 := hide b3
  have I3 := hide ((unhide I2).row fun _ h => Below.row b3 h)
  clear b3 CS
  have hc := (unhide I3).1
  rw [hlen] at hc
  have hmlr : Hid (W3.ownsMap Try.prog 39 RH b 1 (mapD v M)) := (((unhide hml).kept (unhide G2) (fun e => by obtain ⟨_, cur, hcur⟩ := (unhide s1).base b e.symm; exact map_row (unhide hml) hcur rfl)).kept (grown_of (unhide B3) none) (by simp))
  have hsl := unhide hslice r o c W3 (by omega)
  go_wp2_with (at_mapUpdate; refine wp_keep (unhide hmlr) (.slice (some ⟨r, o + d, none⟩) (n + 1 - d) (c - d)) ((M ++ [now]).drop d) hne rfl _ _ _ rfl rfl rfl rfl ?_; intro W4 o4 g4; have O4 := hide o4; have G4 := hide g4; clear o4 g4)
  go_end0
  have hbr : b ≠ r := by
    obtain ⟨_, _, cur, hcur, _⟩ := unhide I3
    exact map_row (unhide hmlr) hcur
  refine ⟨rfl, some r, ⟨.slice (some ⟨r, o + d, none⟩) (n + 1 - d) (c - d), ⟨(unhide H).low, ?_, List.Pairwise.sublist (List.drop_sublist _ _) (unhide HRS), unhide O4, .inr ⟨r, o + d, c - d, by rw [hdl], rfl, hr2, hne, ?_⟩⟩⟩, ?_, ?_⟩
  · intro x hx
    rcases List.mem_append.1 (List.mem_of_mem_drop hx) with h | h
    · exact (unhide H).times x h
    · obtain rfl : x = now := by simpa using h
      exact hn
  · refine irow_drop ((unhide I3).row fun cur h => ((unhide G4).block r (lt_of_row h) (fun e => hbr (Option.some.inj e).symm)).trans h) d (by rw [hlen]; omega)
  · have e1 : But2 b mr w (w.alloc (.cells #[.int .i64 now] 3)) := But2.of (unhide B1)
    have e2 : But2 b mr (w.alloc (.cells #[.int .i64 now] 3)) W2 := But2.by (unhide G2)
    have e3 : But2 b mr W2 W3 := But2.of (unhide B3)
    have e4 : But2 b mr W3 W4 := ⟨(unhide G4).os, (unhide G4).tape, (unhide G4).output, (unhide G4).size, fun k hk h1 _ => (unhide G4).block k hk (fun e => h1 (Option.some.inj e))⟩
    exact ((e1.trans (Nb.refl _ _) e2).trans (Nb.refl _ _) e3).trans (Nb.refl _ _) e4
  · rcases unhide M2 with h | h
    · exact .inl h.symm
    · exact .inr fun k hk => by
        obtain rfl := Option.some.inj hk
        exact Nat.le_trans (unhide B1).size h
end Go.Proofs.Ytpddbfdgaeldjaa
