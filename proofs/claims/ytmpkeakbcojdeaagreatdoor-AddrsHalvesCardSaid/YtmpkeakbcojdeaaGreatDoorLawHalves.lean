/-
  The law gangwaylaw02.AddrsHalves holds for every net and address: it answers true, and they are as they were.
-/
import Derived.Test.YtmpkeakbcojdeaaGreatDoorRowNet
namespace Go.Proofs.YtmpkeakbcojdeaaGreatDoor.addrsHalves
open Go.ChangeShapes Go.WideShapes Go.ChangeAt Go.RowKit Go.Sort

theorem half_pow (n : Nat) (h : n ≤ 31) : 2 ^ (32 - n) = 2 * 2 ^ (31 - n) := by
  rw [show 32 - n = (31 - n) + 1 by omega, Nat.pow_succ, Nat.mul_comm]
theorem wide_half (n : Nat) (h : n ≤ 31) : wide n = 2 * 2 ^ (31 - n) ∧ wide ((n : Int) + 1) = 2 ^ (31 - n) := by
  unfold wide
  refine ⟨?_, ?_⟩
  · rw [show ((n : Int)).toNat = n by omega, half_pow n h]
  · rw [show ((n : Int) + 1).toNat = n + 1 by omega, show 32 - (n + 1) = 31 - n by omega]
structure Halves (ip n hi a : Nat) (b1 : Int) : Prop where
  low : IsNet ip b1
  high : IsNet hi b1
  lt : hi < 4294967296
  last : lastOf hi b1 = lastOf ip n
  next : lastOf ip b1 + 1 = hi
  near : NearNet ip b1 ip n
  far : ¬ NearNet ip n ip b1
  one : ¬ (InNet ip b1 a ∧ InNet hi b1 a)
  both : InNet ip n a ↔ InNet ip b1 a ∨ InNet hi b1 a
theorem halves (ip n a : Nat) (hi : ip < 4294967296) (hn : n ≤ 31) (h : IsNet ip n) : Halves ip n (ip + 2 ^ (31 - n)) a ((n : Int) + 1) := by
  obtain ⟨w1, w2⟩ := wide_half n hn
  have hb := net_bound ip n hi h
  have hp : 0 < 2 ^ (31 - n) := Nat.two_pow_pos _
  have h2 := h.2.2
  rw [show ((n : Int)).toNat = n by omega, half_pow n hn] at h2
  have e1 : ip % 2 ^ (31 - n) = 0 := by
    have := Nat.mod_mul_left_mod ip 2 (2 ^ (31 - n))
    rw [h2] at this
    simpa using this.symm
  have l : IsNet ip ((n : Int) + 1) := ⟨by omega, by omega, by rw [show ((n : Int) + 1).toNat = n + 1 by omega, show 32 - (n + 1) = 31 - n by omega]; exact e1⟩
  have g : IsNet (ip + 2 ^ (31 - n)) ((n : Int) + 1) := ⟨by omega, by omega, by rw [show ((n : Int) + 1).toNat = n + 1 by omega, show 32 - (n + 1) = 31 - n by omega, Nat.add_mod_right]; exact e1⟩
  rw [w1] at hb
  generalize 2 ^ (31 - n) = q at *
  refine ⟨l, g, by omega, ?_, ?_, ⟨l, h, by omega, by rw [w1, w2]; omega⟩, ?_, ?_, ?_⟩
  · rw [lastOf, lastOf, if_pos g, if_pos h, w1, w2]; omega
  · rw [lastOf, if_pos l, w2]; omega
  · rintro ⟨_, _, _, x⟩
    rw [w1, w2] at x; omega
  · rintro ⟨⟨_, _, x⟩, ⟨_, y, _⟩⟩
    rw [w2] at x; omega
  · constructor
    · rintro ⟨_, x, y⟩
      rw [w1] at y
      by_cases z : a < ip + q
      · exact Or.inl ⟨l, x, by rw [w2]; exact z⟩
      · exact Or.inr ⟨g, by omega, by rw [w2]; omega⟩
    · rintro (⟨_, x, y⟩ | ⟨_, x, y⟩)
      · rw [w2] at y; exact ⟨h, x, by rw [w1]; omega⟩
      · rw [w2] at y; exact ⟨h, by omega, by rw [w1]; omega⟩
theorem or_half (ip n : Nat) (hi : ip < 4294967296) (hn : n ≤ 31) (h : IsNet ip n) : bits BinOp.or IntKind.u32 (ip : Int) (2 ^ (31 - n) % 4294967296) = ((ip + 2 ^ (31 - n) : Nat) : Int) := by
  have h2 := h.2.2
  rw [show ((n : Int)).toNat = n by omega] at h2
  have hp : 2 ^ (31 - n) < 2 ^ (32 - n) := by rw [half_pow n hn]; have : 0 < 2 ^ (31 - n) := Nat.two_pow_pos _; omega
  have h32 := (pow_le32 (31 - n) (by omega)).2
  have h31 : 2 ^ (31 - n) ≤ 2147483648 := by
    have := Nat.pow_le_pow_right (n := 2) (by omega) (show 31 - n ≤ 31 by omega)
    simpa using this
  have em : ((2 : Int) ^ (31 - n) % 4294967296) = ((2 ^ (31 - n) : Nat) : Int) := by
    rw [show ((2 : Int) ^ (31 - n)) = ((2 ^ (31 - n) : Nat) : Int) by simp]
    generalize 2 ^ (31 - n) = q at h31
    omega
  rw [em, u32_or_nat _ _ hi (by omega), nat_join (32 - n) ip _ h2 hp]

set_option maxRecDepth 20000 in
theorem walk_not (ip : Nat) (b : Int) (a : Nat) (w : World) (hw : St w) (hi : ip < 4294967296) (h : ¬ IsNet ip b) :
    Calls Tryz.prog 7 #[.agg #[.int .u32 ip, .int .i64 b], .int .u32 a] w fun e w' => e = .returned (.bool true) ∧ Below w.heap.size w w' := by
  have hd := decide_eq_false h
  go_enter Tryz.func7, Tryz.ntmps7
  go_wp2_with fail
  refine (net_any ip b _ hi).mono ?_
  rw [hd]
  rintro e w1 ⟨rfl, b1⟩
  have c1 := box_then b1
  clear b1
  go_wp2_with fail
  refine (fixed_any _ (hw.next c1)).mono ?_
  rintro e w2 ⟨rfl, b2⟩
  go_wp2_with fail
  go_ret
  exact ⟨rfl, bthen c1 b2⟩
set_option maxRecDepth 20000 in
theorem walk_one (ip : Nat) (a : Nat) (w : World) (hw : St w) (hi : ip < 4294967296) (h : IsNet ip 32) :
    Calls Tryz.prog 7 #[.agg #[.int .u32 ip, .int .i64 32], .int .u32 a] w fun e w' => e = .returned (.bool true) ∧ Below w.heap.size w w' := by
  have hd := decide_eq_true h
  go_enter Tryz.func7, Tryz.ntmps7
  go_wp2_with fail
  refine (net_any ip 32 _ hi).mono ?_
  rw [hd]
  rintro e w1 ⟨rfl, b1⟩
  have k0 := (b1.cell (p := ⟨w.heap.size, 0, none⟩) (by simp)).trans (show _ = some (Value.int .u32 ip) by simp)
  have k1 := (b1.cell (p := ⟨w.heap.size, 1, none⟩) (by simp)).trans (show _ = some (Value.int .i64 32) by simp)
  have c1 := box_then b1
  clear b1
  go_wp2_with fail
  refine (fixed_any _ (hw.next c1)).mono ?_
  rintro e w2 ⟨rfl, b2⟩
  go_wp2_with fail
  go_ret
  exact ⟨rfl, bthen c1 b2⟩
set_option maxRecDepth 20000 in
set_option maxHeartbeats 4000000 in
theorem walk_some (ip n hg a : Nat) (b1 : Int) (w : World) (hw : St w) (hi : ip < 4294967296) (ha : a < 4294967296) (hn : n ≤ 31) (h : IsNet ip n) (e1 : (n : Int) + 1 = b1) (eg : ip + 2 ^ (31 - n) = hg) :
    Calls Tryz.prog 7 #[.agg #[.int .u32 ip, .int .i64 n], .int .u32 a] w fun e w' => e = .returned (.bool true) ∧ Below w.heap.size w w' := by
  have H := halves ip n a hi hn h
  have ho := or_half ip n hi hn h
  rw [eg] at ho
  rw [eg, e1] at H
  have hd := decide_eq_true h
  have hne : ((n : Int) == 32) = false := by rw [beq_eq_false_iff_ne]; omega
  have hsh : (31 : Int) - (n : Int) = ((31 - n : Nat) : Int) := by omega
  have hnn : (n : Int) ≤ 31 := by omega
  clear h eg
  go_enter Tryz.func7, Tryz.ntmps7
  go_wp2_with fail
  refine (net_any ip n _ hi).mono ?_
  rw [hd]
  rintro e w1 ⟨rfl, b1'⟩
  have k0 := (b1'.cell (p := ⟨w.heap.size, 0, none⟩) (by simp)).trans (show _ = some (Value.int .u32 ip) by simp)
  have k1 := (b1'.cell (p := ⟨w.heap.size, 1, none⟩) (by simp)).trans (show _ = some (Value.int .i64 n) by simp)
  have c1 := box_then b1'
  have hlt : w.heap.size < w1.heap.size := block_lt_of_cell k0
  clear b1'
  go_wp2_with fail
  go_region
  obtain ⟨W, hW⟩ : ∃ W, W = ((w1.alloc (.cells #[.int .u32 ip, .int .i64 b1] 34)).alloc (.cells #[.int .u32 hg, .int .i64 b1] 34)).drew := ⟨_, rfl⟩
  have p0 : W.cell? ⟨w.heap.size, 0, none⟩ = some (.int .u32 ip) := by
    rw [hW]
    show ((w1.alloc _).alloc _).cell? _ = _
    rw [World.cell?_alloc_old _ _ _ (by simp; omega), World.cell?_alloc_old _ _ _ (by simp; omega)]; exact k0
  have p1 : W.cell? ⟨w.heap.size, 1, none⟩ = some (.int .i64 n) := by
    rw [hW]
    show ((w1.alloc _).alloc _).cell? _ = _
    rw [World.cell?_alloc_old _ _ _ (by simp; omega), World.cell?_alloc_old _ _ _ (by simp; omega)]; exact k1
  have q0 : W.cell? ⟨w1.heap.size, 0, none⟩ = some (.int .u32 ip) := by
    rw [hW]
    show ((w1.alloc _).alloc _).cell? _ = _
    rw [World.cell?_alloc_old _ _ _ (by simp)]; simp
  have q1 : W.cell? ⟨w1.heap.size, 1, none⟩ = some (.int .i64 b1) := by
    rw [hW]
    show ((w1.alloc _).alloc _).cell? _ = _
    rw [World.cell?_alloc_old _ _ _ (by simp)]; simp
  have r0 : W.cell? ⟨w1.heap.size + 1, 0, none⟩ = some (.int .u32 hg) := by
    rw [hW]
    show ((w1.alloc _).alloc _).cell? _ = _
    rw [World.cell?_alloc_at _ _ _ _ (by simp)]; rfl
  have r1 : W.cell? ⟨w1.heap.size + 1, 1, none⟩ = some (.int .i64 b1) := by
    rw [hW]
    show ((w1.alloc _).alloc _).cell? _ = _
    rw [World.cell?_alloc_at _ _ _ _ (by simp)]; rfl
  have hb : Below w.heap.size w W := by
    rw [hW]
    exact (((c1.alloc c1.size _).alloc (by simp; exact Nat.le_succ_of_le c1.size) _)).trans ⟨rfl, rfl, rfl, Nat.le_refl _, fun _ _ => rfl⟩
  rw [← hW]
  clear hW k0 k1 c1 ho
  have s0 := cell_regrown p0
  have s1 := cell_regrown p1
  have s2 := cell_regrown q0
  have s3 := cell_regrown q1
  have s4 := cell_regrown r0
  have s5 := cell_regrown r1
  obtain ⟨x, hx⟩ : ∃ x, decide (InNet ip b1 a) = x := ⟨_, rfl⟩
  obtain ⟨y, hy⟩ : ∃ y, decide (InNet hg b1 a) = y := ⟨_, rfl⟩
  have hz : decide (InNet ip n a) = (x || y) := by
    rw [← hx, ← hy, ← Bool.decide_or]
    exact decide_eq_decide.2 H.both
  have hxy : (x && y) = false := by
    rw [← hx, ← hy, ← Bool.decide_and]
    exact decide_eq_false H.one
  have cX := in_at W ip b1 a hi ha x hx
  have cY := in_at W hg b1 a H.lt ha y hy
  clear p0 p1 q0 q1 r0 r1 hx hy
  go_wp2_with fail
  refine wp_region_quiet_below (by kernel_rfl) (by kernel_rfl) ?_
  repeat (go_big_quiet_step (first | (go_at_call_of 24 hg; exact cY _ _) | (go_at_call_of 24 b1; exact cX _ _)))
  refine wpQuiet_nil ?_
  rintro _ ⟨⟨d5, o5⟩, rfl⟩
  have hb5 := below_then w W hb d5 o5
  have t0 := s0 d5 o5
  have t1 := s1 d5 o5
  have t2 := s2 d5 o5
  have t3 := s3 d5 o5
  have t4 := s4 d5 o5
  have t5 := s5 d5 o5
  clear s0 s1 s2 s3 s4 s5 cX cY hb
  generalize grow (redrawn W d5) o5 = W5 at *
  have s0 := cell_regrown t0
  have s1 := cell_regrown t1
  have s2 := cell_regrown t2
  have s3 := cell_regrown t3
  have s4 := cell_regrown t4
  have s5 := cell_regrown t5
  have cN1 := net_at W5 ip b1 hi true (decide_eq_true H.low)
  have cN2 := net_at W5 hg b1 H.lt true (decide_eq_true H.high)
  have cZ := in_at W5 ip n a hi ha _ hz
  have cL1 := last_at W5 hg b1 H.lt
  have cL2 := last_at W5 ip n hi
  have cL3 := last_at W5 ip b1 hi
  have cE1 := near_at W5 ip b1 ip n hi hi true (decide_eq_true H.near)
  have cE2 := near_at W5 ip n ip b1 hi hi false (decide_eq_false H.far)
  have cF := fixed_at W5 (hw.next hb5)
  have hnx := H.next
  rw [H.last] at cL1
  have hgl := H.lt
  generalize lastOf ip n = L at cL1 cL2
  generalize lastOf ip b1 = l at cL3 hnx
  have hl1 : (l : Int) + 1 = (hg : Int) := by omega
  clear t0 t1 t2 t3 t4 t5 H hz hnx hd hne hsh hnn e1 hn hlt hw
  cases x <;> cases y
  case true.true => cases hxy
  all_goals
    go_wp2_with fail
    refine wp_region_quiet_below (by kernel_rfl) (by kernel_rfl) ?_
    repeat (go_big_quiet_step (first | (go_at_call_of 22 hg; exact cN2 _ _) | (go_at_call 22; exact cN1 _ _) | (go_at_call 24; exact cZ _ _) | (go_at_call_of 26 hg; exact cL1 _ _) | (go_at_call_of 26 b1; exact cL3 _ _) | (go_at_call 26; exact cL2 _ _) | (go_at_call_of 28 (#[Value.agg #[Value.int IntKind.u32 (ip : Int), Value.int IntKind.i64 b1], Value.agg #[Value.int IntKind.u32 (ip : Int), Value.int IntKind.i64 (n : Int)]]); exact cE1 _ _) | (go_at_call_of 28 (#[Value.agg #[Value.int IntKind.u32 (ip : Int), Value.int IntKind.i64 (n : Int)], Value.agg #[Value.int IntKind.u32 (ip : Int), Value.int IntKind.i64 b1]]); exact cE2 _ _) | (go_at_call 13; exact cF _ _)))
    refine wpQuiet_nil ?_
    rintro _ ⟨⟨d6, o6⟩, rfl⟩
    go_wp2_with fail
    go_ret
    exact ⟨rfl, below_then w W5 hb5 d6 o6⟩
theorem walk (ip : Nat) (b : Int) (a : Nat) (w : World) (hw : St w) (hi : ip < 4294967296) (ha : a < 4294967296) :
    Calls Tryz.prog 7 #[.agg #[.int .u32 ip, .int .i64 b], .int .u32 a] w fun e w' => e = .returned (.bool true) ∧ Below w.heap.size w w' := by
  by_cases h : IsNet ip b
  · obtain ⟨n, rfl⟩ : ∃ n : Nat, b = n := ⟨b.toNat, by have := h.1; omega⟩
    by_cases h32 : n = 32
    · subst h32; exact walk_one ip a w hw hi h
    · exact walk_some ip n _ a _ w hw hi ha (by have := h.2.1; omega) h rfl rfl
  · exact walk_not ip b a w hw hi h

set_option maxRecDepth 100000 in
theorem lifted (os : Os) (started : os.Started) (H : Type) (enc : TypeId × Value → H) :
    ReturnsInHanded {} Tryz.checked os 7 .any (fun w args => (Rows.addrsHalvesSpec.pre enc Tryz.prog Tryz.f7 [] false w args ∧ laidMetH Tryz.prog Rows.addrsTextsRow.laid w) ∧ sizedMet enc Tryz.prog Tryz.f7 (OpenSpec.ofChange Rows.addrsHalvesSpec) false w args)
      (Rows.addrsHalvesSpec.post enc Tryz.prog Tryz.f7 false true false false) := by
  refine handed_shaped (C := Tryz.checked) (X := fun w _ => laidMetH Tryz.prog Rows.addrsTextsRow.laid w) (fun _ _ _ hh h => h.of_heap hh) own started (by kernel_rfl) Tryz.func7
    (ChangeSpec.witness_shaped (enc := enc) (C := Tryz.checked) (os := os) (X := fun w _ => laidMetH Tryz.prog Rows.addrsTextsRow.laid w) false
      (({ World.holding Tryz.prog os ⟨#[], #[], []⟩ with heap := (World.holding Tryz.prog os ⟨#[], #[], []⟩).heap.modify 0 fun
        | .cells _ t frozen => .cells #[.iface 121 (.agg #[.pointer (some ⟨9, 64, none⟩)])] t frozen
        | o => o } : World).layVars Tryz.prog (Rows.addrsTextsRow.laid.filter fun x => x.2.handleName?.isNone)) #[.agg #[.int .u32 0, .int .i64 0], .int .u32 0] 8 (World.layVars_os _ _ _)
      (World.shaped_of_ZipB (by kernel_rfl) (by kernel_rfl)) (by kernel_rfl) (by kernel_rfl) (by kernel_rfl) (laid_met os _)) ?_
  intro W base args ds gs before hval0 hW hL hsh
  have hval : ∀ (j : Nat) t v, Tryz.f7.params[j]? = some t → args[j]? = some v → Value.okWide Tryz.prog W .any base t v := hval0
  have hW' := hW
  obtain ⟨p, q, hA0, hV0, rfl, hfz, hnd⟩ := hW
  have hA : DataW.TrodAll enc Tryz.prog W 0 (fun _ => true) true Tryz.f7.params.toList args.toList ds p := hA0
  have hV : DataW.TrodVars enc Tryz.prog W (fun _ => true) [] gs q := hV0
  rw [Tryz.params7] at hA hval
  obtain ⟨v0, v1, d0, d1, p0, p1, rfl, rfl, rfl, h0, h1⟩ := trodAll_two hA
  obtain ⟨i0, n0, rfl, rfl, rfl, l0, x0, y0⟩ := open_net (hval 0 34 v0 rfl rfl) h0
  obtain ⟨a1, rfl, rfl, rfl, w1⟩ := open_int Tryz.underlying23 (hval 1 23 v1 rfl rfl) h1
  have b1 := bounds_u32 w1
  obtain ⟨m1, rfl⟩ : ∃ m : Nat, a1 = m := ⟨a1.toNat, by omega⟩
  obtain ⟨rfl, rfl⟩ := trodVars_none hV
  have hg := st_of_laid hL hsh
  have e1 : Rows.addrsHalvesSpec.fn H ([netD i0 n0, .lit (.int .u32 (m1 : Int))] ++ []) = { results := [.lit (.bool true)], args := [netD i0 n0, .lit (.int .u32 (m1 : Int))] } := by simp [Rows.addrsHalvesSpec]
  refine (walk i0 n0 m1 W hg l0 (by omega)).mono fun e W' ⟨he, hb⟩ => ?_
  subst he
  refine ⟨_, rfl, _, _, _, [], [], [], hW', ?_, ?_, ?_, hb.frame _, fun h => by cases h⟩
  · rw [e1]; exact trodAll_mk1 (shut_bool Tryz.underlying4 true)
  · rw [e1]; exact trodAll_mk2 (shut_net i0 n0 x0 y0) (shut_int Tryz.underlying23 w1)
  · rw [e1]; rfl

theorem said : Rows.AddrsHalvesSaid :=
  OpenClaim.holds_of_wide 7 Tryz.f7 rfl rfl rfl rfl rfl rfl rfl ⟨rfl, rfl, rfl, rfl, rfl⟩ rfl rfl rfl rfl rfl (by kernel_rfl) Tryz.func7 (by kernel_rfl)
    (of_decide_eq_true (by kernel_rfl)) (by unfold Func.isWrapper; rw [if_neg (of_decide_eq_false (by kernel_rfl))]; exact ⟨rfl, rfl⟩)
    (fun os started H enc _ => lifted os started H enc)

theorem plain (f : FuncId) (fn : Func) (hf : Tryz.pinned.checked.prog.funcNamed Rows.addrsHalvesRow.func = some f) (hfn : Tryz.pinned.checked.prog.funcs[f]? = some fn) :
    true = Tryz.pinned.checked.prog.looks [] ∧ ∀ (j : Nat) t, fn.params[j]? = some t → Tryz.pinned.checked.prog.wantsStandIn t = false := by
  obtain rfl : f = 7 := Option.some.inj ((show Tryz.prog.funcNamed Rows.addrsHalvesRow.func = some 7 by kernel_rfl).symm.trans hf) |>.symm
  obtain rfl : fn = Tryz.f7 := (Option.some.inj (Tryz.func7.symm.trans hfn)).symm
  refine ⟨by kernel_rfl, fun j t ht => ?_⟩
  rw [Tryz.params7] at ht
  have hm := Array.mem_of_getElem? ht
  simp only [List.mem_toArray, List.mem_cons, List.not_mem_nil, or_false] at hm
  rcases hm with rfl | rfl
  · exact (show Tryz.prog.wantsStandIn 34 = false by kernel_rfl)
  · exact (show Tryz.prog.wantsStandIn 23 = false by kernel_rfl)

theorem card : Rows.AddrsHalvesCardSaid :=
  Claim7.holds_tied_plain_at .later [] _ _ _ _ said (fun _ h => by cases h) (by kernel_rfl) (fun _ h => by cases h) addrsHalves_row_tie rfl ⟨rfl, rfl⟩ (by kernel_rfl) rfl plain (by kernel_rfl)
end Go.Proofs.YtmpkeakbcojdeaaGreatDoor.addrsHalves
namespace Go.Proofs.YtmpkeakbcojdeaaGreatDoor
theorem addrsHalves_card_holds : Rows.AddrsHalvesCardSaid := addrsHalves.card
end Go.Proofs.YtmpkeakbcojdeaaGreatDoor

