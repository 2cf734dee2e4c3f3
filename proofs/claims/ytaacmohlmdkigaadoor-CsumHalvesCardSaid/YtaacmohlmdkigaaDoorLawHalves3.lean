/-
  Proved: for every text and every number, gangwaylaw03.CsumHalves answers true (the checksum of bytes is told by those of two parts, of which the first one has an even number, P3.1) and its arguments read afterwards as before. Conditions: errors.errorType holds what the program's own text lays (tied by the card).
-/
import Derived.Test.YtaacmohlmdkigaaDoorRow3
import Derived.Test.YtaacmohlmdkigaaDoorParts3
import Derived.Deep.DeepCutAuto
import Derived.Deep.RegionHeld3
namespace Go.Proofs.YtaacmohlmdkigaaDoor.csumHalves
open Go.ChangeShapes Go.WideShapes Go.ChangeAt Go.RowKit
open Go.ChangeMaps (open_string shut_string)

set_option maxHeartbeats 4000000 in
theorem walk_short (t : ByteArray) (l : List UInt8) (x : Int) (w : World) (hl : l.length ≤ 600) (h : Shortened t (bs l)) :
    Calls Tryd.prog 8 #[.string t, .int .i64 x] w fun e w' => e = .returned (.bool true) ∧ Below w.heap.size w w' := by
  obtain ⟨c, hx, hc⟩ := and_word x
  have hsz : (bs l).size = l.length := bs_size l
  go_enter Tryd.func8, Tryd.ntmps8
  go_upto_region 1 with fail
  go_cut [0] (fun s wx => s = .string (bs l) ∧ w = wx)
  case first =>
    rcases h with ⟨h0, h1, h2, h3⟩ | ⟨h1, h2, h3⟩
    · subst h0
      rw [hsz] at h3
      go_wp2_with fail
      go_meet
      exact ⟨rfl, rfl⟩
    · go_wp2_with fail
      go_meet
      exact ⟨rfl, rfl⟩
  case rest =>
    obtain ⟨rfl, rfl⟩ := hcut
    clear h
    obtain ⟨d, hd⟩ : ∃ d : Nat, c % (l.length + 1) = d := ⟨_, rfl⟩
    have hdi : (c : Int) % ((l.length : Int) + 1) = (d : Int) := by rw [← hd]; simp
    have hdl : d ≤ l.length := by have := Nat.mod_lt c (show 0 < l.length + 1 by omega); omega
    have hev := even_of d (by omega)
    obtain ⟨k, hk⟩ : ∃ k : Nat, d / 2 * 2 = k := ⟨_, rfl⟩
    rw [hk] at hev
    have hkl : k ≤ l.length := by omega
    have hk2 : k % 2 = 0 := by omega
    have hlen : (l.take k).length % 2 = 0 := by rw [List.length_take]; omega
    have hU := slice_to l k hkl
    have hV := slice_from l k k rfl hkl
    have hF := fold_two (l.take k) (l.drop k) hlen
    have hju : l.take k ++ l.drop k = l := List.take_append_drop k l
    rw [hju] at hF
    have A1 := hide (fun b W => of_one (l.take k) b 1 W (by rw [List.length_take]; omega))
    have A2 := hide (fun b W => of_one (l.drop k) b 1 W (by rw [List.length_drop]; omega))
    have A3 := hide (fun b W => of_one l b 1 W (by omega))
    have A4 := hide (fun b W => of_two (l.take k) (l.drop k) b 2 W (by rw [List.length_take, List.length_drop]; omega))
    rw [hju] at A4
    have f1 := ck_fold (l.take k)
    have f2 := ck_fold (l.drop k)
    have f3 := ck_int l
    have g1 := fold_le (tot (l.take k))
    have g2 := fold_le (tot (l.drop k))
    have g3 := fold_le (tot l)
    clear hju hlen hk hd
    generalize fold (tot (l.take k)) = F1 at *
    generalize fold (tot (l.drop k)) = F2 at *
    generalize fold (tot l) = F3 at *
    generalize ck (l.take k) = c1 at *
    generalize ck (l.drop k) = c2 at *
    generalize ck l = c3 at *
    generalize bs (l.take k) = U at *
    generalize bs (l.drop k) = V at *
    generalize bs l = S at *
    have v1 : IntKind.i64.wrap (F1 : Int) = (F1 : Int) := by rw [IntKind.wrap_i64]; omega
    have v2 : IntKind.i64.wrap (F2 : Int) = (F2 : Int) := by rw [IntKind.wrap_i64]; omega
    have v3 : IntKind.i64.wrap (c3 : Int) = (c3 : Int) := by rw [IntKind.wrap_i64]; omega
    have HF := hide hF
    clear hF
    go_upto_region 3 with fail
    go_cut [6, 7] (fun a b wx => a = .int .i64 F1 ∧ b = .int .i64 F2 ∧ Below w.heap.size w wx)
    case first =>
      go_region_held3 (fun _ => True) (exact True.intro) ((go_at_call 11; first | (refine (unhide A1 _ _ ?_).mono ?_; (first | (refine cell_last ?_ ?_; simp; rfl) | (refine cell_prev ?_ ?_; simp; rfl) | (refine cell_drew ?_; refine cell_last ?_ ?_; simp; rfl) | (refine cell_drew ?_; refine cell_prev ?_ ?_; simp; rfl)); rintro e w4 ⟨rfl, rfl⟩) | (refine (unhide A2 _ _ ?_).mono ?_; (first | (refine cell_last ?_ ?_; simp; rfl) | (refine cell_prev ?_ ?_; simp; rfl) | (refine cell_drew ?_; refine cell_last ?_ ?_; simp; rfl) | (refine cell_drew ?_; refine cell_prev ?_ ?_; simp; rfl)); rintro e w4 ⟨rfl, rfl⟩)))
      all_goals
        go_wp2_with fail
        go_meet
        exact ⟨rfl, rfl, (alloc_then (alloc_then (Below.refl w.heap.size w))).drew⟩
    case rest =>
      obtain ⟨rfl, rfl, hb⟩ := hcut
      clear A1 A2 hev hdi hx f1 f2 hdl hc
      go_upto_if 37 with fail
      go_cut [8] (fun s wx => s = .int .i64 F3 ∧ wc = wx)
      case first =>
        by_cases hgt : 65535 < F1 + F2
        · have hgi : (65535 : Int) < (F1 : Int) + (F2 : Int) := by omega
          go_wp2_with fail
          go_meet
          exact ⟨by rw [unhide HF, if_pos hgt]; go_num, rfl⟩
        · have hgi : ¬ (65535 : Int) < (F1 : Int) + (F2 : Int) := by omega
          go_wp2_with fail
          go_meet
          exact ⟨by rw [unhide HF, if_neg hgt]; go_num, rfl⟩
      case rest =>
        obtain ⟨rfl, rfl⟩ := hcut
        go_wp2_with fail
        go_region_held3 (fun _ => True) (exact True.intro) (first | (go_at_call_of 11 (2 : Nat); refine (unhide A4 _ _ ?_ ?_).mono ?_; (first | (refine cell_last ?_ ?_; simp; rfl) | (refine cell_prev ?_ ?_; simp; rfl) | (refine cell_drew ?_; refine cell_last ?_ ?_; simp; rfl) | (refine cell_drew ?_; refine cell_prev ?_ ?_; simp; rfl)); (first | (refine cell_last ?_ ?_; simp; rfl) | (refine cell_prev ?_ ?_; simp; rfl) | (refine cell_drew ?_; refine cell_last ?_ ?_; simp; rfl) | (refine cell_drew ?_; refine cell_prev ?_ ?_; simp; rfl)); rintro e w4 ⟨rfl, rfl⟩) | (go_at_call 11; refine (unhide A3 _ _ ?_).mono ?_; (first | (refine cell_last ?_ ?_; simp; rfl) | (refine cell_prev ?_ ?_; simp; rfl) | (refine cell_drew ?_; refine cell_last ?_ ?_; simp; rfl) | (refine cell_drew ?_; refine cell_prev ?_ ?_; simp; rfl)); rintro e w4 ⟨rfl, rfl⟩) | (go_at_call 10; refine (fixed_any _).mono ?_; rintro e w6 ⟨rfl, b6⟩))
        all_goals
          go_wp2_with fail
          go_ret
          exact ⟨rfl, bthen (alloc_then (alloc_then (alloc_then hb))).drew b6⟩

theorem walk (t : ByteArray) (x : Int) (w : World) (_ : t.size ≤ maxLen) (_ : -9223372036854775808 ≤ x) (_ : x ≤ 9223372036854775807) :
    Calls Tryd.prog 8 #[.string t, .int .i64 x] w fun e w' => e = .returned (.bool true) ∧ Below w.heap.size w w' := by
  obtain ⟨l, hl, h⟩ := shortened t
  exact walk_short t l x w hl h

set_option maxRecDepth 100000 in
theorem lifted (os : Os) (started : os.Started) (H : Type) (enc : TypeId × Value → H) :
    ReturnsInHanded {} Tryd.checked os 8 .any (fun w args => (Rows.csumHalvesSpec.pre enc Tryd.prog Tryd.f8 [] false w args ∧ laidMetH Tryd.prog [("errors.errorType", Rows.laid_errors_errorType)] w) ∧ sizedMet enc Tryd.prog Tryd.f8 (OpenSpec.ofChange Rows.csumHalvesSpec) false w args)
      (Rows.csumHalvesSpec.post enc Tryd.prog Tryd.f8 false true false false) := by
  refine returnsInHanded_of_change_and (C := Tryd.checked) (X := fun w _ => laidMetH Tryd.prog [("errors.errorType", Rows.laid_errors_errorType)] w) (fun _ _ _ hh h => h.of_heap hh) own started (by kernel_rfl) Tryd.func8
    (ChangeSpec.witness_at (enc := enc) (C := Tryd.checked) (os := os) (X := fun w _ => laidMetH Tryd.prog [("errors.errorType", Rows.laid_errors_errorType)] w) false
      { World.holding Tryd.prog os ⟨#[], #[], []⟩ with heap := (World.holding Tryd.prog os ⟨#[], #[], []⟩).heap.modify 0 fun
        | .cells _ t frozen => .cells #[.iface 68 (.agg #[.pointer (some ⟨1, 47, none⟩)])] t frozen
        | o => o } #[.string ByteArray.empty, .int .i64 0] 8 rfl (by kernel_rfl) (by kernel_rfl) (by kernel_rfl) (by kernel_rfl) (by kernel_rfl) (laid_met os _)) ?_
  intro W base args ds gs before hval0 hW _ _ _ _
  have hval : ∀ (j : Nat) t v, Tryd.f8.params[j]? = some t → args[j]? = some v → Value.okWide Tryd.prog W .any base t v := hval0
  have hW' := hW
  obtain ⟨p, q, hA0, hV0, rfl, hfz, hnd⟩ := hW
  have hA : DataW.TrodAll enc Tryd.prog W 0 (fun _ => true) true Tryd.f8.params.toList args.toList ds p := hA0
  have hV : DataW.TrodVars enc Tryd.prog W (fun _ => true) [] gs q := hV0
  rw [Tryd.params8] at hA hval
  obtain ⟨v0, v1, d0, d1, p0, p1, rfl, rfl, rfl, h0, h1⟩ := trodAll_two hA
  obtain ⟨a0, rfl, rfl, rfl, w0⟩ := open_string Tryd.underlying9 (hval 0 9 v0 rfl rfl) h0
  obtain ⟨a1, rfl, rfl, rfl, w1⟩ := open_int Tryd.underlying3 (hval 1 3 v1 rfl rfl) h1
  have b1 := bounds_i64 w1
  obtain ⟨rfl, rfl⟩ := trodVars_none hV
  have e1 : Rows.csumHalvesSpec.fn H ([.lit (.string a0.data.toList), .lit (.int .i64 a1)] ++ []) = { results := [.lit (.bool true)], args := [.lit (.string a0.data.toList), .lit (.int .i64 a1)] } := by simp [Rows.csumHalvesSpec]
  refine (walk a0 a1 W w0 (by omega) (by omega)).mono fun e W' ⟨he, hb⟩ => ?_
  subst he
  refine ⟨_, rfl, _, _, _, [], [], [], hW', ?_, ?_, ?_, hb.frame _, fun h => by cases h⟩
  · rw [e1]; exact trodAll_mk1 (shut_bool Tryd.underlying4 true)
  · rw [e1]; exact trodAll_mk2 (shut_string Tryd.underlying9 w0) (shut_int Tryd.underlying3 w1)
  · rw [e1]; rfl

theorem said : Rows.CsumHalvesSaid :=
  OpenClaim.holds_of_wide 8 Tryd.f8 rfl rfl rfl rfl rfl rfl rfl ⟨rfl, rfl, rfl, rfl, rfl⟩ rfl rfl rfl rfl rfl (by kernel_rfl) Tryd.func8 (by kernel_rfl)
    (of_decide_eq_true (by kernel_rfl)) (by unfold Func.isWrapper; rw [if_neg (of_decide_eq_false (by kernel_rfl))]; exact ⟨rfl, rfl⟩)
    (fun os started H enc _ => lifted os started H enc)

theorem plain (f : FuncId) (fn : Func) (hf : Tryd.pinned.checked.prog.funcNamed Rows.csumHalvesRow.func = some f) (hfn : Tryd.pinned.checked.prog.funcs[f]? = some fn) :
    true = Tryd.pinned.checked.prog.looks [] ∧ ∀ (j : Nat) t, fn.params[j]? = some t → Tryd.pinned.checked.prog.wantsStandIn t = false := by
  obtain rfl : f = 8 := Option.some.inj ((show Tryd.prog.funcNamed Rows.csumHalvesRow.func = some 8 by kernel_rfl).symm.trans hf) |>.symm
  obtain rfl : fn = Tryd.f8 := (Option.some.inj (Tryd.func8.symm.trans hfn)).symm
  refine ⟨by kernel_rfl, fun j t ht => ?_⟩
  rw [Tryd.params8] at ht
  have hm := Array.mem_of_getElem? ht
  simp only [List.mem_toArray, List.mem_cons, List.not_mem_nil, or_false] at hm
  rcases hm with rfl | rfl
  · exact (show Tryd.prog.wantsStandIn 9 = false by kernel_rfl)
  · exact (show Tryd.prog.wantsStandIn 3 = false by kernel_rfl)

theorem card : Rows.CsumHalvesCardSaid :=
  Claim7.holds_tied_plain_at .later [] _ _ _ _ said (fun _ h => by cases h) (by kernel_rfl) (fun _ h => by cases h) csumHalves_row_tie rfl ⟨rfl, rfl⟩ (by kernel_rfl) rfl plain (by kernel_rfl)
end Go.Proofs.YtaacmohlmdkigaaDoor.csumHalves
namespace Go.Proofs.YtaacmohlmdkigaaDoor
theorem csumHalves_card_holds : Rows.CsumHalvesCardSaid := csumHalves.card
end Go.Proofs.YtaacmohlmdkigaaDoor

