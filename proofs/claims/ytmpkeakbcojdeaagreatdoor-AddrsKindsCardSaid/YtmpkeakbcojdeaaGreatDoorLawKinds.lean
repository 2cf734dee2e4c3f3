/-
  The law gangwaylaw02.AddrsKinds holds for every number, address and two nets: it answers true, and they are as they were.
-/
import Derived.Test.YtmpkeakbcojdeaaGreatDoorRefNet
namespace Go.Proofs.YtmpkeakbcojdeaaGreatDoor.addrsKinds
open Go.ChangeShapes Go.WideShapes Go.ChangeAt Go.RowKit Go.Sort

set_option maxRecDepth 20000 in
set_option maxHeartbeats 4000000 in
theorem walk (m a ip : Nat) (b : Int) (jp : Nat) (c : Int) (w : World) (hw : St w) (hm : m < 18446744073709551616) (ha : a < 4294967296) (hi : ip < 4294967296) (hj : jp < 4294967296) :
    Calls Tryz.prog 4 #[.int .u64 m, .int .u32 a, .agg #[.int .u32 ip, .int .i64 b, .int .u32 jp, .int .i64 c]] w fun e w' => e = .returned (.bool true) ∧ Below w.heap.size w w' := by
  obtain ⟨W, hW⟩ : ∃ W, W = w.alloc (.cells #[.int .u32 ip, .int .i64 b, .int .u32 jp, .int .i64 c] 36) := ⟨_, rfl⟩
  have hb : Below w.heap.size w W := by rw [hW]; exact (Below.refl w.heap.size w).alloc (Nat.le_refl _) _
  have k0 := cell_regrown (w := W) (a := ⟨w.heap.size, 0, none⟩) (v := .int .u32 ip) (by rw [hW]; simp)
  have k1 := cell_regrown (w := W) (a := ⟨w.heap.size, 1, none⟩) (v := .int .i64 b) (by rw [hW]; simp)
  have k2 := cell_regrown (w := W) (a := ⟨w.heap.size, 2, none⟩) (v := .int .u32 jp) (by rw [hW]; simp)
  have k3 := cell_regrown (w := W) (a := ⟨w.heap.size, 3, none⟩) (v := .int .i64 c) (by rw [hW]; simp)
  have cF := fixed_at W (hw.next hb)
  have cG : ∀ d os, Calls Tryz.prog 18 #[.int .u64 m] (grow (redrawn W d) os) fun e w'' => e = .returned (.bool (grp m)) ∧ ∃ p : Regrown, w'' = grow (redrawn W p.d) p.os := fun d os => same_regrown (group_any m _ hm)
  have cG' : ∀ d os, Calls Tryz.prog 19 #[.int .u64 m] (grow (redrawn W d) os) fun e w'' => e = .returned (.bool (grp m)) ∧ ∃ p : Regrown, w'' = grow (redrawn W p.d) p.os := fun d os => same_regrown (rgroup m _ hm)
  have cO : ∀ d os, Calls Tryz.prog 20 #[.int .u64 m] (grow (redrawn W d) os) fun e w'' => e = .returned (.bool (ownH m)) ∧ ∃ p : Regrown, w'' = grow (redrawn W p.d) p.os := fun d os => same_regrown (own_any m _ hm)
  have cO' : ∀ d os, Calls Tryz.prog 21 #[.int .u64 m] (grow (redrawn W d) os) fun e w'' => e = .returned (.bool (ownH m)) ∧ ∃ p : Regrown, w'' = grow (redrawn W p.d) p.os := fun d os => same_regrown (rown m _ hm)
  have cN := net_at W ip b hi _ rfl
  have cN' := rnet_at W ip b hi _ rfl
  have cI := in_at W ip b a hi ha _ rfl
  have cI' := rin_at W ip b a hi ha _ rfl
  have cL := last_at W ip b hi
  have cL' := rlast_at W ip b hi
  have cR := near_at W ip b jp c hi hj _ rfl
  have cR' := rnear_at W ip b jp c hi hj _ rfl
  generalize grp m = g at cG cG'
  generalize ownH m = o at cO cO'
  generalize decide (IsNet ip b) = n at cN cN'
  generalize decide (InNet ip b a) = x at cI cI'
  generalize lastOf ip b = l at cL cL'
  generalize decide (NearNet ip b jp c) = r at cR cR'
  clear hm hw ha hi hj
  go_enter Tryz.func4, Tryz.ntmps4
  go_wp2
  rw [← hW]
  clear hW
  refine wp_region_quiet_below (by kernel_rfl) (by kernel_rfl) ?_
  repeat (go_big_quiet_step (first | (go_at_call 13; exact cF _ _) | (go_at_call 18; exact cG _ _) | (go_at_call 19; exact cG' _ _) | (go_at_call 20; exact cO _ _) | (go_at_call 21; exact cO' _ _) | (go_at_call 22; exact cN _ _) | (go_at_call 23; exact cN' _ _) | (go_at_call 24; exact cI _ _) | (go_at_call 25; exact cI' _ _) | (go_at_call 26; exact cL _ _) | (go_at_call 27; exact cL' _ _) | (go_at_call 28; exact cR _ _) | (go_at_call 29; exact cR' _ _)))
  refine wpQuiet_nil ?_
  rintro _ ⟨⟨dq, osq⟩, rfl⟩
  go_wp2
  go_ret
  exact ⟨rfl, below_then w W hb dq osq⟩

set_option maxRecDepth 100000 in
theorem lifted (os : Os) (started : os.Started) (H : Type) (enc : TypeId × Value → H) :
    ReturnsInHanded {} Tryz.checked os 4 .any (fun w args => (Rows.addrsKindsSpec.pre enc Tryz.prog Tryz.f4 [] false w args ∧ laidMetH Tryz.prog Rows.addrsTextsRow.laid w) ∧ sizedMet enc Tryz.prog Tryz.f4 (OpenSpec.ofChange Rows.addrsKindsSpec) false w args)
      (Rows.addrsKindsSpec.post enc Tryz.prog Tryz.f4 false true false false) := by
  refine handed_shaped (C := Tryz.checked) (X := fun w _ => laidMetH Tryz.prog Rows.addrsTextsRow.laid w) (fun _ _ _ hh h => h.of_heap hh) own started (by kernel_rfl) Tryz.func4
    (ChangeSpec.witness_shaped (enc := enc) (C := Tryz.checked) (os := os) (X := fun w _ => laidMetH Tryz.prog Rows.addrsTextsRow.laid w) false
      (({ World.holding Tryz.prog os ⟨#[], #[], []⟩ with heap := (World.holding Tryz.prog os ⟨#[], #[], []⟩).heap.modify 0 fun
        | .cells _ t frozen => .cells #[.iface 121 (.agg #[.pointer (some ⟨9, 64, none⟩)])] t frozen
        | o => o } : World).layVars Tryz.prog (Rows.addrsTextsRow.laid.filter fun x => x.2.handleName?.isNone)) #[.int .u64 0, .int .u32 0, .agg #[.int .u32 0, .int .i64 0, .int .u32 0, .int .i64 0]] 8 (World.layVars_os _ _ _)
      (World.shaped_of_ZipB (by kernel_rfl) (by kernel_rfl)) (by kernel_rfl) (by kernel_rfl) (by kernel_rfl) (laid_met os _)) ?_
  intro W base args ds gs before hval0 hW hL hsh
  have hval : ∀ (j : Nat) t v, Tryz.f4.params[j]? = some t → args[j]? = some v → Value.okWide Tryz.prog W .any base t v := hval0
  have hW' := hW
  obtain ⟨p, q, hA0, hV0, rfl, hfz, hnd⟩ := hW
  have hA : DataW.TrodAll enc Tryz.prog W 0 (fun _ => true) true Tryz.f4.params.toList args.toList ds p := hA0
  have hV : DataW.TrodVars enc Tryz.prog W (fun _ => true) [] gs q := hV0
  rw [Tryz.params4] at hA hval
  obtain ⟨v0, v1, v2, d0, d1, d2, p0, p1, p2, rfl, rfl, rfl, h0, h1, h2⟩ := trodAll_three hA
  obtain ⟨a0, rfl, rfl, rfl, w0⟩ := open_int Tryz.underlying22 (hval 0 22 v0 rfl rfl) h0
  have b0 := bounds_u64 w0
  obtain ⟨m0, rfl⟩ : ∃ m : Nat, a0 = m := ⟨a0.toNat, by omega⟩
  obtain ⟨a1, rfl, rfl, rfl, w1⟩ := open_int Tryz.underlying23 (hval 1 23 v1 rfl rfl) h1
  have b1 := bounds_u32 w1
  obtain ⟨m1, rfl⟩ : ∃ m : Nat, a1 = m := ⟨a1.toNat, by omega⟩
  obtain ⟨i2, n2, j2, o2, rfl, rfl, rfl, l2, x2, y2, k2, z2, u2⟩ := open_two (hval 2 36 v2 rfl rfl) h2
  obtain ⟨rfl, rfl⟩ := trodVars_none hV
  have hg := st_of_laid hL hsh
  have e1 : Rows.addrsKindsSpec.fn H ([.lit (.int .u64 (m0 : Int)), .lit (.int .u32 (m1 : Int)), .agg [netD i2 n2, netD j2 o2]] ++ []) = { results := [.lit (.bool true)], args := [.lit (.int .u64 (m0 : Int)), .lit (.int .u32 (m1 : Int)), .agg [netD i2 n2, netD j2 o2]] } := by simp [Rows.addrsKindsSpec]
  refine (walk m0 m1 i2 n2 j2 o2 W hg (by omega) (by omega) l2 k2).mono fun e W' ⟨he, hb⟩ => ?_
  subst he
  refine ⟨_, rfl, _, _, _, [], [], [], hW', ?_, ?_, ?_, hb.frame _, fun h => by cases h⟩
  · rw [e1]; exact trodAll_mk1 (shut_bool Tryz.underlying4 true)
  · rw [e1]; exact trodAll_mk3 (shut_int Tryz.underlying22 w0) (shut_int Tryz.underlying23 w1) (shut_two i2 n2 j2 o2 x2 y2 z2 u2)
  · rw [e1]; rfl

theorem said : Rows.AddrsKindsSaid :=
  OpenClaim.holds_of_wide 4 Tryz.f4 rfl rfl rfl rfl rfl rfl rfl ⟨rfl, rfl, rfl, rfl, rfl⟩ rfl rfl rfl rfl rfl (by kernel_rfl) Tryz.func4 (by kernel_rfl)
    (of_decide_eq_true (by kernel_rfl)) (by unfold Func.isWrapper; rw [if_neg (of_decide_eq_false (by kernel_rfl))]; exact ⟨rfl, rfl⟩)
    (fun os started H enc _ => lifted os started H enc)

theorem plain (f : FuncId) (fn : Func) (hf : Tryz.pinned.checked.prog.funcNamed Rows.addrsKindsRow.func = some f) (hfn : Tryz.pinned.checked.prog.funcs[f]? = some fn) :
    true = Tryz.pinned.checked.prog.looks [] ∧ ∀ (j : Nat) t, fn.params[j]? = some t → Tryz.pinned.checked.prog.wantsStandIn t = false := by
  obtain rfl : f = 4 := Option.some.inj ((show Tryz.prog.funcNamed Rows.addrsKindsRow.func = some 4 by kernel_rfl).symm.trans hf) |>.symm
  obtain rfl : fn = Tryz.f4 := (Option.some.inj (Tryz.func4.symm.trans hfn)).symm
  refine ⟨by kernel_rfl, fun j t ht => ?_⟩
  rw [Tryz.params4] at ht
  have hm := Array.mem_of_getElem? ht
  simp only [List.mem_toArray, List.mem_cons, List.not_mem_nil, or_false] at hm
  rcases hm with rfl | rfl | rfl
  · exact (show Tryz.prog.wantsStandIn 22 = false by kernel_rfl)
  · exact (show Tryz.prog.wantsStandIn 23 = false by kernel_rfl)
  · exact (show Tryz.prog.wantsStandIn 36 = false by kernel_rfl)

theorem card : Rows.AddrsKindsCardSaid :=
  Claim7.holds_tied_plain_at .later [] _ _ _ _ said (fun _ h => by cases h) (by kernel_rfl) (fun _ h => by cases h) addrsKinds_row_tie rfl ⟨rfl, rfl⟩ (by kernel_rfl) rfl plain (by kernel_rfl)
end Go.Proofs.YtmpkeakbcojdeaaGreatDoor.addrsKinds
namespace Go.Proofs.YtmpkeakbcojdeaaGreatDoor
theorem addrsKinds_card_holds : Rows.AddrsKindsCardSaid := addrsKinds.card
end Go.Proofs.YtmpkeakbcojdeaaGreatDoor

