/-
  Proved: for every text and numbers, gangwaylaw03.CsumPatches answers true (a checksum that is patched is that of the bytes with the other word, but that 0 and 65535 are one, P3.2, P3.4) and its arguments read afterwards as before. Conditions: errors.errorType holds what the program's own text lays (tied by the card).
-/
import Derived.Test.YtaacmohlmdkigaaDoorRow3
import Derived.Test.YtaacmohlmdkigaaDoorParts3
import Derived.Deep.DeepCutAuto
import Derived.Deep.RegionHeld3
import Derived.Deep.QuietTactic
import Derived.BigQuiet
namespace Go.Proofs.YtaacmohlmdkigaaDoor.csumPatches
open Go.ChangeShapes Go.WideShapes Go.ChangeAt Go.RowKit
open Go.ChangeMaps (open_string shut_string)

theorem index_at (l : List UInt8) (x : Int) (k : Nat) (hx : x = k) (hk : k < l.length) (W : World) : (Instr.index 9 (.string (bs l)) (.int .i64 x)).run Tryd.prog W = .ok (.int .u8 ((l[k]).toNat : Nat)) W := by
  subst hx
  have hs := bs_size l
  have e := run_index_string (P := Tryd.prog) (w := W) 9 (bs l) .i64 (k : Int) Tryd.underlying9
  rw [dif_pos ⟨by omega, by omega⟩] at e
  exact e
/-- a word of bytes -/
theorem tot_word (l : List UInt8) (k : Nat) (hk : k + 1 < l.length) (h2 : k % 2 = 0) : tot l = tot (l.take k) + ((l[k]).toNat * 256 + (l[k + 1]).toNat) + tot (l.drop (k + 2)) := by
  have e : l = l.take k ++ (l[k] :: l[k + 1] :: l.drop (k + 2)) := by
    conv => lhs; rw [← List.take_append_drop k l, List.drop_eq_getElem_cons (show k < l.length by omega), List.drop_eq_getElem_cons (show k + 1 < l.length by omega)]
  have hl : (l.take k).length % 2 = 0 := by rw [List.length_take]; omega
  have e2 : tot l = tot (l.take k ++ (l[k] :: l[k + 1] :: l.drop (k + 2))) := congrArg tot e
  rw [e2, tot_append _ _ hl]
  show tot (l.take k) + (256 * (l[k]).toNat + (l[k + 1]).toNat + tot (l.drop (k + 2))) = _
  omega
theorem tot_two (e : Nat) (he : e < 65536) : tot (be e 2) = e := by
  have : be e 2 = [UInt8.ofNat (e / 256 % 256), UInt8.ofNat (e % 256)] := rfl
  rw [this]
  show 256 * (UInt8.ofNat (e / 256 % 256)).toNat + (UInt8.ofNat (e % 256)).toNat + 0 = e
  rw [UInt8.toNat_ofNat_of_lt' (by show _ < 256; omega), UInt8.toNat_ofNat_of_lt' (by show _ < 256; omega)]
  omega
theorem tot_new (u v : List UInt8) (e : Nat) (he : e < 65536) (hu : u.length % 2 = 0) : tot (u ++ be e 2 ++ v) = tot u + e + tot v := by
  rw [tot_append _ _ (by rw [List.length_append, be_length]; omega), tot_append _ _ hu, tot_two e he]
/-- what is patched is the sum of the other bytes, but for 0 and 65535 -/
theorem patched (A o e B : Nat) (ho : o ≤ 65535) (_ : e ≤ 65535) : pat (fold (A + o + B)) (65535 - o) e = 65535 - fold (A + e + B) ∨ pat (fold (A + o + B)) (65535 - o) e = 0 ∧ 65535 - fold (A + e + B) = 65535 := by
  have hs : fold (A + o + B) + (65535 - o) + e ≠ 0 := by
    intro h0
    have h1 := (fold_zero_iff (A + o + B)).1 (by omega)
    omega
  have hf : fold (A + o + B) % 65535 = (A + o + B) % 65535 := by
    by_cases h0 : A + o + B = 0
    · rw [h0]; rfl
    · exact (fold_pos _ h0).2.2
  have h2 := fold_pos _ hs
  unfold pat
  by_cases h0 : A + e + B = 0
  · right
    rw [h0]
    refine ⟨?_, rfl⟩
    omega
  · left
    have h3 := fold_pos _ h0
    omega

set_option maxHeartbeats 4000000 in
theorem walk_some (t : ByteArray) (l : List UInt8) (x y : Int) (w : World) (hl : l.length ≤ 600) (h : Shortened t (bs l)) :
    Calls Tryd.prog 6 #[.string t, .int .i64 x, .int .i64 y] w fun e w' => e = .returned (.bool true) ∧ Below w.heap.size w w' := by
  obtain ⟨c, hx, hc⟩ := and_word x
  obtain ⟨e, hy, he⟩ := and_word y
  have hsz : (bs l).size = l.length := bs_size l
  go_enter Tryd.func6, Tryd.ntmps6
  go_upto_region 1 with fail
  go_cut [0] (fun s wx => s = .string (bs l) ∧ w = wx)
  case first =>
    rcases h with ⟨h0, h1, h2, h3⟩ | ⟨h1, h2, h3⟩
    · subst h0
      rw [hsz] at h3
      go_wp2_with fail
      go_meet
      exact ⟨rfl, rfl⟩
    · go_wp2_with fail
      go_meet
      exact ⟨rfl, rfl⟩
  case rest =>
    obtain ⟨rfl, rfl⟩ := hcut
    clear h
    by_cases hlt : l.length < 2
    · have hli : (l.length : Int) < 2 := by omega
      go_wp2_with fail
      refine (fixed_any _).mono ?_
      rintro e w1 ⟨rfl, b1⟩
      go_wp2_with fail
      go_ret
      exact ⟨rfl, b1⟩
    · have hli : ¬ (l.length : Int) < 2 := by omega
      obtain ⟨n, hn⟩ : ∃ n : Nat, l.length / 2 = n := ⟨_, rfl⟩
      have hni : (l.length : Int) / 2 = (n : Int) := by omega
      obtain ⟨d, hd⟩ : ∃ d : Nat, c % n = d := ⟨_, rfl⟩
      have hdn : d < n := by rw [← hd]; exact Nat.mod_lt _ (by omega)
      have hdi : (c : Int) % (n : Int) = (d : Int) := by rw [← hd]; simp
      obtain ⟨k, hk⟩ : ∃ k : Nat, d * 2 = k := ⟨_, rfl⟩
      have hki : (d : Int) * 2 = (k : Int) := by omega
      have hk1 : k + 1 < l.length := by omega
      have hnz : (n : Int) ≠ 0 := by omega
      have hki1 : IntKind.i64.wrap ((k : Int) + 1) = ((k : Int) + 1) := by rw [IntKind.wrap_i64]; omega
      have hki2 : IntKind.i64.wrap ((k : Int) + 2) = ((k : Int) + 2) := by rw [IntKind.wrap_i64]; omega
      have i0 := index_at l k k rfl (by omega)
      have i1 := index_at l ((k : Int) + 1) (k + 1) (by omega) hk1
      have hU := slice_to l k (by omega)
      have hV := slice_from l ((k : Int) + 2) (k + 2) (by omega) (by omega)
      have htw := tot_word l k hk1 (by omega)
      have hlu : (l.take k).length = k := by rw [List.length_take]; omega
      have hlv : (l.drop (k + 2)).length ≤ 600 := by rw [List.length_drop]; omega
      have htn := tot_new (l.take k) (l.drop (k + 2)) e he (by omega)
      have hb1 : (l[k]).toNat < 256 := (l[k]).toNat_lt
      have hb2 : (l[k + 1]).toNat < 256 := (l[k + 1]).toNat_lt
      have zU : (bs (l.take k)).size ≤ 600 := by rw [bs_size]; omega
      have zV : (bs (l.drop (k + 2))).size ≤ 600 := by rw [bs_size]; exact hlv
      have zE : (bs (be e 2)).size = 2 := by rw [bs_size, be_length]
      have hT : bs (l.take k) ++ bs (be e 2) ++ bs (l.drop (k + 2)) = bs (l.take k ++ be e 2 ++ l.drop (k + 2)) := by rw [bs_append, bs_append]
      have A1 := hide (fun b W => of_one l b 1 W (by omega))
      have A2 := hide (fun b W => of_one (l.take k ++ be e 2 ++ l.drop (k + 2)) b 1 W (by rw [List.length_append, List.length_append, be_length]; omega))
      have B1 := hide (fun W => rbytes e 2 W (by omega) (by omega))
      have hcl := ck_le l
      have hfk := ck_fold l
      have hck : ck (l.take k ++ be e 2 ++ l.drop (k + 2)) = 65535 - fold (tot (l.take k) + e + tot (l.drop (k + 2))) := by rw [← htn]; rfl
      obtain ⟨o, ho⟩ : ∃ o : Nat, (l[k]).toNat * 256 + (l[k + 1]).toNat = o := ⟨_, rfl⟩
      rw [ho] at htw
      have hp := patched (tot (l.take k)) o e (tot (l.drop (k + 2))) (by omega) (by omega)
      rw [← hck, ← htw] at hp
      have P1 := hide (fun W => patch_any (ck l : Nat) (o : Nat) (e : Nat) (fold (tot l)) (65535 - o) e W (by omega) (by omega) (by omega))
      generalize pat (fold (tot l)) (65535 - o) e = a at hp P1
      generalize ck (l.take k ++ be e 2 ++ l.drop (k + 2)) = b at hp A2
      generalize (l[k]).toNat = a0 at *
      generalize (l[k + 1]).toNat = b0 at *
      clear htn hck htw hfk
      have HT := hide hT
      clear hT
      generalize bs (l.take k ++ be e 2 ++ l.drop (k + 2)) = T at *
      generalize bs (l.take k) = U at *
      generalize bs (l.drop (k + 2)) = V at *
      generalize bs (be e 2) = E at *
      generalize ck l = cl at *
      generalize bs l = S at *
      have p1 : IntKind.i64.wrap (a0 : Int) = (a0 : Int) := by rw [IntKind.wrap_i64]; omega
      have p2 : IntKind.i64.wrap (b0 : Int) = (b0 : Int) := by rw [IntKind.wrap_i64]; omega
      have p3 : IntKind.i64.wrap ((a0 : Int) * 256) = (a0 : Int) * 256 := by rw [IntKind.wrap_i64]; omega
      have p4 : IntKind.i64.wrap (o : Int) = (o : Int) := by rw [IntKind.wrap_i64]; omega
      have p5 : (a0 : Int) * 256 + (b0 : Int) = (o : Int) := by omega
      have p6 : IntKind.u64.wrap (e : Int) = (e : Int) := by rw [IntKind.wrap_u64]; omega
      have g1 : ∀ W, (Op.stringOp .add U E).run Tryd.prog W = .ok (.string (U ++ E)) W := fun W => run_string_add_sum W U E (by omega)
      have g2 : ∀ W, (Op.stringOp .add (U ++ E) V).run Tryd.prog W = .ok (.string T) W := fun W => by
        have := run_string_add_sum (P := Tryd.prog) W (U ++ E) V (by rw [ByteArray.size_append]; omega)
        rw [unhide HT] at this
        exact this
      clear hn hd hk hlu hlv
      go_upto_region 5 with fail
      go_cut [8] (fun v wx => v = .int .i64 o ∧ Below w.heap.size w wx)
      case first =>
        go_quiet (fail)
        go_wp2_with fail
        go_meet
        exact ⟨rfl, ⟨rfl, rfl, rfl, Nat.le_refl _, fun _ _ => rfl⟩⟩
      case rest =>
        obtain ⟨rfl, hb⟩ := hcut
        clear i0 i1 p1 p2 p3 p5 hki1 hni hdi hki
        go_upto_region 6 with fail
        go_cut [9] (fun v wx => v = .string T ∧ Below w.heap.size w wx)
        case first =>
          go_region_held3 (fun _ => True) (exact True.intro) ((go_at_call 18; refine (unhide B1 _).mono ?_; rintro e' w3 ⟨rfl, b3⟩))
          all_goals
            go_wp2_with fail
            go_meet
            exact ⟨rfl, drew_then hb b3⟩
        case rest =>
          obtain ⟨rfl, hb'⟩ := hcut
          clear hb g1 g2 hU hV B1 HT
          go_wp2_with fail
          refine (unhide A1 _ _ ?_).mono ?_
          · exact cell_last (by simp) rfl
          rintro e' w4 ⟨rfl, rfl⟩
          go_wp2_with fail
          refine (unhide P1 _).mono ?_
          rintro e' w5 ⟨rfl, rfl⟩
          go_wp2_with fail
          refine (unhide A2 _ _ ?_).mono ?_
          · exact cell_last (by simp) rfl
          rintro e' w6 ⟨rfl, rfl⟩
          rcases hp with rfl | ⟨rfl, rfl⟩
          all_goals
            go_wp2_with fail
            refine (fixed_any _).mono ?_
            rintro e' w7 ⟨rfl, b7⟩
            have hb7 := bthen (alloc_then (alloc_then hb')) b7
            clear b7
            go_wp2_with fail
            go_ret
            exact ⟨rfl, hb7⟩
theorem walk (t : ByteArray) (x y : Int) (w : World) (_ : t.size ≤ maxLen) (_ : -9223372036854775808 ≤ x) (_ : x ≤ 9223372036854775807) (_ : -9223372036854775808 ≤ y) (_ : y ≤ 9223372036854775807) :
    Calls Tryd.prog 6 #[.string t, .int .i64 x, .int .i64 y] w fun e w' => e = .returned (.bool true) ∧ Below w.heap.size w w' := by
  obtain ⟨l, hl, h⟩ := shortened t
  exact walk_some t l x y w hl h

set_option maxRecDepth 100000 in
theorem lifted (os : Os) (started : os.Started) (H : Type) (enc : TypeId × Value → H) :
    ReturnsInHanded {} Tryd.checked os 6 .any (fun w args => (Rows.csumPatchesSpec.pre enc Tryd.prog Tryd.f6 [] false w args ∧ laidMetH Tryd.prog [("errors.errorType", Rows.laid_errors_errorType)] w) ∧ sizedMet enc Tryd.prog Tryd.f6 (OpenSpec.ofChange Rows.csumPatchesSpec) false w args)
      (Rows.csumPatchesSpec.post enc Tryd.prog Tryd.f6 false true false false) := by
  refine returnsInHanded_of_change_and (C := Tryd.checked) (X := fun w _ => laidMetH Tryd.prog [("errors.errorType", Rows.laid_errors_errorType)] w) (fun _ _ _ hh h => h.of_heap hh) own started (by kernel_rfl) Tryd.func6
    (ChangeSpec.witness_at (enc := enc) (C := Tryd.checked) (os := os) (X := fun w _ => laidMetH Tryd.prog [("errors.errorType", Rows.laid_errors_errorType)] w) false
      { World.holding Tryd.prog os ⟨#[], #[], []⟩ with heap := (World.holding Tryd.prog os ⟨#[], #[], []⟩).heap.modify 0 fun
        | .cells _ t frozen => .cells #[.iface 68 (.agg #[.pointer (some ⟨1, 47, none⟩)])] t frozen
        | o => o } #[.string ByteArray.empty, .int .i64 0, .int .i64 0] 8 rfl (by kernel_rfl) (by kernel_rfl) (by kernel_rfl) (by kernel_rfl) (by kernel_rfl) (laid_met os _)) ?_
  intro W base args ds gs before hval0 hW _ _ _ _
  have hval : ∀ (j : Nat) t v, Tryd.f6.params[j]? = some t → args[j]? = some v → Value.okWide Tryd.prog W .any base t v := hval0
  have hW' := hW
  obtain ⟨p, q, hA0, hV0, rfl, hfz, hnd⟩ := hW
  have hA : DataW.TrodAll enc Tryd.prog W 0 (fun _ => true) true Tryd.f6.params.toList args.toList ds p := hA0
  have hV : DataW.TrodVars enc Tryd.prog W (fun _ => true) [] gs q := hV0
  rw [Tryd.params6] at hA hval
  obtain ⟨v0, v1, v2, d0, d1, d2, p0, p1, p2, rfl, rfl, rfl, h0, h1, h2⟩ := trodAll_three hA
  obtain ⟨a0, rfl, rfl, rfl, w0⟩ := open_string Tryd.underlying9 (hval 0 9 v0 rfl rfl) h0
  obtain ⟨a1, rfl, rfl, rfl, w1⟩ := open_int Tryd.underlying3 (hval 1 3 v1 rfl rfl) h1
  have b1 := bounds_i64 w1
  obtain ⟨a2, rfl, rfl, rfl, w2⟩ := open_int Tryd.underlying3 (hval 2 3 v2 rfl rfl) h2
  have b2 := bounds_i64 w2
  obtain ⟨rfl, rfl⟩ := trodVars_none hV
  have e1 : Rows.csumPatchesSpec.fn H ([.lit (.string a0.data.toList), .lit (.int .i64 a1), .lit (.int .i64 a2)] ++ []) = { results := [.lit (.bool true)], args := [.lit (.string a0.data.toList), .lit (.int .i64 a1), .lit (.int .i64 a2)] } := by simp [Rows.csumPatchesSpec]
  refine (walk a0 a1 a2 W w0 (by omega) (by omega) (by omega) (by omega)).mono fun e W' ⟨he, hb⟩ => ?_
  subst he
  refine ⟨_, rfl, _, _, _, [], [], [], hW', ?_, ?_, ?_, hb.frame _, fun h => by cases h⟩
  · rw [e1]; exact trodAll_mk1 (shut_bool Tryd.underlying4 true)
  · rw [e1]; exact trodAll_mk3 (shut_string Tryd.underlying9 w0) (shut_int Tryd.underlying3 w1) (shut_int Tryd.underlying3 w2)
  · rw [e1]; rfl

theorem said : Rows.CsumPatchesSaid :=
  OpenClaim.holds_of_wide 6 Tryd.f6 rfl rfl rfl rfl rfl rfl rfl ⟨rfl, rfl, rfl, rfl, rfl⟩ rfl rfl rfl rfl rfl (by kernel_rfl) Tryd.func6 (by kernel_rfl)
    (of_decide_eq_true (by kernel_rfl)) (by unfold Func.isWrapper; rw [if_neg (of_decide_eq_false (by kernel_rfl))]; exact ⟨rfl, rfl⟩)
    (fun os started H enc _ => lifted os started H enc)

theorem plain (f : FuncId) (fn : Func) (hf : Tryd.pinned.checked.prog.funcNamed Rows.csumPatchesRow.func = some f) (hfn : Tryd.pinned.checked.prog.funcs[f]? = some fn) :
    true = Tryd.pinned.checked.prog.looks [] ∧ ∀ (j : Nat) t, fn.params[j]? = some t → Tryd.pinned.checked.prog.wantsStandIn t = false := by
  obtain rfl : f = 6 := Option.some.inj ((show Tryd.prog.funcNamed Rows.csumPatchesRow.func = some 6 by kernel_rfl).symm.trans hf) |>.symm
  obtain rfl : fn = Tryd.f6 := (Option.some.inj (Tryd.func6.symm.trans hfn)).symm
  refine ⟨by kernel_rfl, fun j t ht => ?_⟩
  rw [Tryd.params6] at ht
  have hm := Array.mem_of_getElem? ht
  simp only [List.mem_toArray, List.mem_cons, List.not_mem_nil, or_false] at hm
  rcases hm with rfl | rfl | rfl
  · exact (show Tryd.prog.wantsStandIn 9 = false by kernel_rfl)
  · exact (show Tryd.prog.wantsStandIn 3 = false by kernel_rfl)
  · exact (show Tryd.prog.wantsStandIn 3 = false by kernel_rfl)

theorem card : Rows.CsumPatchesCardSaid :=
  Claim7.holds_tied_plain_at .later [] _ _ _ _ said (fun _ h => by cases h) (by kernel_rfl) (fun _ h => by cases h) csumPatches_row_tie rfl ⟨rfl, rfl⟩ (by kernel_rfl) rfl plain (by kernel_rfl)
end Go.Proofs.YtaacmohlmdkigaaDoor.csumPatches
namespace Go.Proofs.YtaacmohlmdkigaaDoor
theorem csumPatches_card_holds : Rows.CsumPatchesCardSaid := csumPatches.card
end Go.Proofs.YtaacmohlmdkigaaDoor

