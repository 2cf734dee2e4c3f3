/-
  Proved: for every text, number and byte, gangwaylaw03.CsumSeals answers true (bytes of an even number, with their checksum behind them, or ahead of them, are right; with one byte that is another one, they are not, unless the folded sum stays, P3.1, P3.4) and its arguments read afterwards as before. Conditions: errors.errorType holds what the program's own text lays (tied by the card).
-/
import Derived.Test.YtaacmohlmdkigaaDoorRow3
import Derived.Test.YtaacmohlmdkigaaDoorRef3
import Derived.Test.YtaacmohlmdkigaaDoorEven3
import Derived.Deep.DeepCutAuto
import Derived.Deep.RegionHeld3
import Derived.Deep.RegionWith
namespace Go.Proofs.YtaacmohlmdkigaaDoor.csumSeals
open Go.ChangeShapes Go.WideShapes Go.ChangeAt Go.RowKit
open Go.ChangeMaps (open_string shut_string)

set_option maxRecDepth 20000 in
set_option maxHeartbeats 8000000 in
theorem walk_short (t : ByteArray) (l : List UInt8) (x : Int) (cc : Nat) (w : World) (hl : l.length ≤ 600) (hcc : cc < 256) (h : Shortened t (bs l)) :
    Calls Tryd.prog 5 #[.string t, .int .i64 x, .int .u8 cc] w fun e w' => e = .returned (.bool true) ∧ Below w.heap.size w w' := by
  obtain ⟨c, hx, hc⟩ := and_word x
  have hsz : (bs l).size = l.length := bs_size l
  go_enter Tryd.func5, Tryd.ntmps5
  go_upto_region 1 with fail
  go_cut [0] (fun s wx => s = .string (bs l) ∧ w = wx)
  case first =>
    rcases h with ⟨h0, h1, h2, h3⟩ | ⟨h1, h2, h3⟩
    · subst h0
      rw [hsz] at h3
      go_wp2_with fail
      go_meet
      exact ⟨rfl, rfl⟩
    · go_wp2_with fail
      go_meet
      exact ⟨rfl, rfl⟩
  case rest =>
    obtain ⟨rfl, rfl⟩ := hcut
    clear h
    go_upto_if 18 with fail
    go_cut [0] (fun s wx => s = .string (bs (even l)) ∧ w = wx)
    case first =>
      by_cases hp : l.length % 2 = 1
      · have hd : ((l.length : Int) % 2 == 1) = true := by rw [beq_iff_eq]; omega
        have hcu := even_cut l hp
        go_wp2_with fail
        go_meet
        exact ⟨rfl, rfl⟩
      · have hd : ((l.length : Int) % 2 == 1) = false := by rw [beq_eq_false_iff_ne]; omega
        have hcu := even_same l (by omega)
        go_wp2_with fail
        go_meet
        exact ⟨by rw [hcu], rfl⟩
    case rest =>
      obtain ⟨rfl, rfl⟩ := hcut
      have hev : (even l).length % 2 = 0 := by rw [even_length]; omega
      have hle : (even l).length ≤ 600 := by rw [even_length]; omega
      clear hsz hl
      generalize even l = m at *
      have hms : (bs m).size = m.length := bs_size m
      have hck := ck_le m
      have hand : bits BinOp.and IntKind.i64 ((ck m : Nat) : Int) 65535 = ((ck m : Nat) : Int) := by rw [low16]; omega
      have hwr : IntKind.u64.wrap ((ck m : Nat) : Int) = ((ck m : Nat) : Int) := by rw [IntKind.wrap_u64]; omega
      have A1 := hide (fun b W => of_one m b 1 W (by omega))
      have B1 := hide (fun W => rbytes (ck m) 2 W (by omega) (by omega))
      have R1 := hide (fun b W => right_two m (be (ck m) 2) b 2 W (by rw [be_length]; omega))
      have R2 := hide (fun b W => right_two (be (ck m) 2) m b 2 W (by rw [be_length]; omega))
      rw [ok_behind m hev] at R1
      rw [ok_ahead m] at R2
      by_cases hz : m.length = 0
      · have hzi : ((m.length : Int) == 0) = true := by rw [beq_iff_eq]; omega
        generalize bs (be (ck m) 2) = E at *
        generalize ck m = cm at *
        generalize bs m = M at *
        generalize m.length = L at *
        clear hx hc
        go_wp2_with fail
        refine (unhide A1 _ _ ?_).mono ?_
        · exact cell_last (by simp) rfl
        rintro e w1 ⟨rfl, rfl⟩
        go_wp2_with fail
        refine (unhide B1 _).mono ?_
        rintro e w2 ⟨rfl, b2⟩
        have c2 := bthen (alloc_then (Below.refl w.heap.size w)) b2
        clear b2
        go_wp2_with fail
        refine (unhide R1 _ _ ?_ ?_).mono ?_
        · exact cell_last (by simp) rfl
        · exact cell_last (by simp) rfl
        rintro e w3 ⟨rfl, rfl⟩
        go_wp2_with fail
        refine (unhide R2 _ _ ?_ ?_).mono ?_
        · exact cell_last (by simp) rfl
        · exact cell_last (by simp) rfl
        rintro e w4 ⟨rfl, rfl⟩
        go_wp2_with fail
        refine (unhide R1 _ _ ?_ ?_).mono ?_
        · exact cell_last (by simp) rfl
        · exact cell_last (by simp) rfl
        rintro e w5 ⟨rfl, rfl⟩
        go_wp2_with fail
        refine (fixed_any _).mono ?_
        rintro e w6 ⟨rfl, b6⟩
        have hb := bthen (alloc_then (alloc_then (alloc_then c2))) b6
        clear b6
        go_wp2_with fail
        go_ret
        exact ⟨rfl, hb⟩
      · have hzi : ((m.length : Int) == 0) = false := by rw [beq_eq_false_iff_ne]; omega
        obtain ⟨k, hk⟩ : ∃ k : Nat, c % m.length = k := ⟨_, rfl⟩
        have hkl : k < m.length := by rw [← hk]; exact Nat.mod_lt _ (by omega)
        have hki : (c : Int) % (m.length : Int) = (k : Int) := by rw [← hk]; simp
        have hnz : (m.length : Int) ≠ 0 := by omega
        have hk1 : IntKind.i64.wrap ((k : Int) + 1) = (k : Int) + 1 := by rw [IntKind.wrap_i64]; omega
        have hU := slice_to m k (by omega)
        have hV := slice_from m ((k : Int) + 1) (k + 1) (by omega) (by omega)
        have hI := index_of m k hkl
        have hT : bs (m.take k) ++ bs [UInt8.ofNat cc] ++ bs (m.drop (k + 1)) = bs (m.set k (UInt8.ofNat cc)) := by rw [bs_append, bs_append, set_parts m k _ hkl]
        have zU : (bs (m.take k)).size ≤ 600 := by rw [bs_size, List.length_take]; omega
        have zV : (bs (m.drop (k + 1))).size ≤ 600 := by rw [bs_size, List.length_drop]; omega
        have zC : (bs [UInt8.ofNat cc]).size = 1 := by rw [bs_size]; rfl
        have hcs := fun W => byte_string W cc hcc
        have hsp := ok_spoilt m k (UInt8.ofNat cc) hkl hev
        have hu8 : (UInt8.ofNat cc).toNat = cc := UInt8.toNat_ofNat_of_lt' hcc
        have R3 := hide (fun b W => right_two (m.set k (UInt8.ofNat cc)) (be (ck m) 2) b 2 W (by rw [List.length_set, be_length]; omega))
        rw [hsp] at R3
        have hls : (m.set k (UInt8.ofNat cc)).length ≤ 10000 := by rw [List.length_set]; omega
        have T1 := hide (fun W => rtotal (m.set k (UInt8.ofNat cc)) W hls)
        have T2 := hide (fun W => rtotal m W (by omega))
        have F1 := hide (fun W => rfold (tot (m.set k (UInt8.ofNat cc))) W (tot_small _ hls))
        have F2 := hide (fun W => rfold (tot m) W (tot_small _ (by omega)))
        have hsame : cc = (m[k]).toNat → fold (tot (m.set k (UInt8.ofNat cc))) = fold (tot m) := by
          intro e
          have : UInt8.ofNat cc = m[k] := by rw [e]; simp
          rw [this, List.set_getElem_self]
        have HS := hide hsame
        clear hsp hsame hu8 hls hk
        generalize (m[k]).toNat = a0 at *
        generalize fold (tot (m.set k (UInt8.ofNat cc))) = f1 at *
        generalize fold (tot m) = f2 at *
        generalize tot (m.set k (UInt8.ofNat cc)) = t1 at *
        generalize tot m = t2 at *
        generalize bs (be (ck m) 2) = E at *
        generalize ck m = cm at *
        generalize bs (m.set k (UInt8.ofNat cc)) = T at *
        generalize bs (m.take k) = U at *
        generalize bs (m.drop (k + 1)) = V at *
        generalize bs [UInt8.ofNat cc] = C at *
        generalize bs m = M at *
        generalize m.length = L at *
        have g1 : ∀ W, (Op.stringOp .add U C).run Tryd.prog W = .ok (.string (U ++ C)) W := fun W => run_string_add_sum W U C (by omega)
        have g2 : ∀ W, (Op.stringOp .add (U ++ C) V).run Tryd.prog W = .ok (.string T) W := fun W => by
          have := run_string_add_sum (P := Tryd.prog) W (U ++ C) V (by rw [ByteArray.size_append]; omega)
          rw [hT] at this
          exact this
        clear hT
        go_wp2_with fail
        refine (unhide A1 _ _ ?_).mono ?_
        · exact cell_last (by simp) rfl
        rintro e w1 ⟨rfl, rfl⟩
        go_wp2_with fail
        refine (unhide B1 _).mono ?_
        rintro e w2 ⟨rfl, b2⟩
        have c2 := bthen (alloc_then (Below.refl w.heap.size w)) b2
        clear b2
        go_wp2_with fail
        refine (unhide R1 _ _ ?_ ?_).mono ?_
        · exact cell_last (by simp) rfl
        · exact cell_last (by simp) rfl
        rintro e w3 ⟨rfl, rfl⟩
        go_wp2_with fail
        refine (unhide R2 _ _ ?_ ?_).mono ?_
        · exact cell_last (by simp) rfl
        · exact cell_last (by simp) rfl
        rintro e w4 ⟨rfl, rfl⟩
        have c4 := alloc_then (o := .cells #[.string E, .string M] 9) (alloc_then (o := .cells #[.string M, .string E] 9) c2)
        generalize (w2.alloc (.cells #[.string M, .string E] 9)).alloc (.cells #[.string E, .string M] 9) = w5 at *
        clear A1 B1 R1 R2 c2 hand hwr
        go_upto_region 8 with fail
        go_cut [9] (fun v wx => v = .string T ∧ Below w.heap.size w wx)
        case first =>
          have hcv : (convert 36 9 (.slice (some ⟨w5.heap.size, 0, none⟩) 1 1)).run Tryd.prog (w5.alloc (.cells #[.int .u8 (cc : Int)] 5)).drew = .ok (.string C) (w5.alloc (.cells #[.int .u8 (cc : Int)] 5)).drew := hcs w5.drew
          go_region
          all_goals
            go_wp2_with fail
            go_meet
            exact ⟨rfl, (alloc_then c4).drew⟩
        case rest =>
          obtain ⟨rfl, hb⟩ := hcut
          clear hcs g1 g2 hU hV c4
          by_cases heq : cc = a0
          · have hf := unhide HS heq
            subst hf
            rw [decide_eq_true rfl] at R3
            have hq : ((cc : Int) == (a0 : Int)) = true := by rw [beq_iff_eq]; omega
            clear HS T1 T2 F1 F2 heq
            go_wp2_with fail
            first | (go_region_with (first | (go_at_call 13; refine (unhide R3 _ _ ?_ ?_).mono ?_; (first | (refine cell_last ?_ ?_; simp; rfl) | (refine cell_prev ?_ ?_; simp; rfl) | (refine cell_drew ?_; refine cell_last ?_ ?_; simp; rfl) | (refine cell_drew ?_; refine cell_prev ?_ ?_; simp; rfl)); (first | (refine cell_last ?_ ?_; simp; rfl) | (refine cell_prev ?_ ?_; simp; rfl) | (refine cell_drew ?_; refine cell_last ?_ ?_; simp; rfl) | (refine cell_drew ?_; refine cell_prev ?_ ?_; simp; rfl)); rintro e w6 ⟨rfl, rfl⟩) | (go_at_call 10; refine (fixed_any _).mono ?_; rintro e w7 ⟨rfl, b7⟩))) | fail
            all_goals
              go_wp2_with fail
              go_ret
              exact ⟨rfl, bthen (alloc_then hb).drew b7⟩
          · have hne : ((cc : Int) == (a0 : Int)) = false := by rw [beq_eq_false_iff_ne]; omega
            clear HS
            by_cases hf : f1 = f2
            · subst hf
              rw [decide_eq_true rfl] at R3
              go_wp2_with fail
              go_region_held3 (fun _ => True) (exact True.intro) (first | (go_at_call 13; refine (unhide R3 _ _ ?_ ?_).mono ?_; (first | (refine cell_last ?_ ?_; simp; rfl) | (refine cell_prev ?_ ?_; simp; rfl) | (refine cell_drew ?_; refine cell_last ?_ ?_; simp; rfl) | (refine cell_drew ?_; refine cell_prev ?_ ?_; simp; rfl)); (first | (refine cell_last ?_ ?_; simp; rfl) | (refine cell_prev ?_ ?_; simp; rfl) | (refine cell_drew ?_; refine cell_last ?_ ?_; simp; rfl) | (refine cell_drew ?_; refine cell_prev ?_ ?_; simp; rfl)); rintro e w6 ⟨rfl, rfl⟩) | (go_at_call_of 20 T; refine (unhide T1 _).mono ?_; rintro e w6 ⟨rfl, rfl⟩) | (go_at_call 20; refine (unhide T2 _).mono ?_; rintro e w6 ⟨rfl, rfl⟩) | (go_at_call_of 19 t1; refine (unhide F1 _).mono ?_; rintro e w6 ⟨rfl, rfl⟩) | (go_at_call 19; refine (unhide F2 _).mono ?_; rintro e w6 ⟨rfl, rfl⟩) | (go_at_call 10; refine (fixed_any _).mono ?_; rintro e w7 ⟨rfl, b7⟩))
              all_goals
                go_wp2_with fail
                go_ret
                exact ⟨rfl, bthen (alloc_then hb).drew b7⟩
            · rw [decide_eq_false hf] at R3
              have hfi : ((f1 : Int) == (f2 : Int)) = false := by rw [beq_eq_false_iff_ne]; omega
              go_wp2_with fail
              go_region_held3 (fun _ => True) (exact True.intro) (first | (go_at_call 13; refine (unhide R3 _ _ ?_ ?_).mono ?_; (first | (refine cell_last ?_ ?_; simp; rfl) | (refine cell_prev ?_ ?_; simp; rfl) | (refine cell_drew ?_; refine cell_last ?_ ?_; simp; rfl) | (refine cell_drew ?_; refine cell_prev ?_ ?_; simp; rfl)); (first | (refine cell_last ?_ ?_; simp; rfl) | (refine cell_prev ?_ ?_; simp; rfl) | (refine cell_drew ?_; refine cell_last ?_ ?_; simp; rfl) | (refine cell_drew ?_; refine cell_prev ?_ ?_; simp; rfl)); rintro e w6 ⟨rfl, rfl⟩) | (go_at_call_of 20 T; refine (unhide T1 _).mono ?_; rintro e w6 ⟨rfl, rfl⟩) | (go_at_call 20; refine (unhide T2 _).mono ?_; rintro e w6 ⟨rfl, rfl⟩) | (go_at_call_of 19 t1; refine (unhide F1 _).mono ?_; rintro e w6 ⟨rfl, rfl⟩) | (go_at_call 19; refine (unhide F2 _).mono ?_; rintro e w6 ⟨rfl, rfl⟩) | (go_at_call 10; refine (fixed_any _).mono ?_; rintro e w7 ⟨rfl, b7⟩))
              all_goals
                go_wp2_with fail
                go_ret
                exact ⟨rfl, bthen (alloc_then hb).drew b7⟩

theorem walk (t : ByteArray) (x : Int) (cc : Nat) (w : World) (_ : t.size ≤ maxLen) (_ : -9223372036854775808 ≤ x) (_ : x ≤ 9223372036854775807) (hcc : cc < 256) :
    Calls Tryd.prog 5 #[.string t, .int .i64 x, .int .u8 cc] w fun e w' => e = .returned (.bool true) ∧ Below w.heap.size w w' := by
  obtain ⟨l, hl, h⟩ := shortened t
  exact walk_short t l x cc w hl hcc h

set_option maxRecDepth 100000 in
theorem lifted (os : Os) (started : os.Started) (H : Type) (enc : TypeId × Value → H) :
    ReturnsInHanded {} Tryd.checked os 5 .any (fun w args => (Rows.csumSealsSpec.pre enc Tryd.prog Tryd.f5 [] false w args ∧ laidMetH Tryd.prog [("errors.errorType", Rows.laid_errors_errorType)] w) ∧ sizedMet enc Tryd.prog Tryd.f5 (OpenSpec.ofChange Rows.csumSealsSpec) false w args)
      (Rows.csumSealsSpec.post enc Tryd.prog Tryd.f5 false true false false) := by
  refine returnsInHanded_of_change_and (C := Tryd.checked) (X := fun w _ => laidMetH Tryd.prog [("errors.errorType", Rows.laid_errors_errorType)] w) (fun _ _ _ hh h => h.of_heap hh) own started (by kernel_rfl) Tryd.func5
    (ChangeSpec.witness_at (enc := enc) (C := Tryd.checked) (os := os) (X := fun w _ => laidMetH Tryd.prog [("errors.errorType", Rows.laid_errors_errorType)] w) false
      { World.holding Tryd.prog os ⟨#[], #[], []⟩ with heap := (World.holding Tryd.prog os ⟨#[], #[], []⟩).heap.modify 0 fun
        | .cells _ t frozen => .cells #[.iface 68 (.agg #[.pointer (some ⟨1, 47, none⟩)])] t frozen
        | o => o } #[.string ByteArray.empty, .int .i64 0, .int .u8 0] 8 rfl (by kernel_rfl) (by kernel_rfl) (by kernel_rfl) (by kernel_rfl) (by kernel_rfl) (laid_met os _)) ?_
  intro W base args ds gs before hval0 hW _ _ _ _
  have hval : ∀ (j : Nat) t v, Tryd.f5.params[j]? = some t → args[j]? = some v → Value.okWide Tryd.prog W .any base t v := hval0
  have hW' := hW
  obtain ⟨p, q, hA0, hV0, rfl, hfz, hnd⟩ := hW
  have hA : DataW.TrodAll enc Tryd.prog W 0 (fun _ => true) true Tryd.f5.params.toList args.toList ds p := hA0
  have hV : DataW.TrodVars enc Tryd.prog W (fun _ => true) [] gs q := hV0
  rw [Tryd.params5] at hA hval
  obtain ⟨v0, v1, v2, d0, d1, d2, p0, p1, p2, rfl, rfl, rfl, h0, h1, h2⟩ := trodAll_three hA
  obtain ⟨a0, rfl, rfl, rfl, w0⟩ := open_string Tryd.underlying9 (hval 0 9 v0 rfl rfl) h0
  obtain ⟨a1, rfl, rfl, rfl, w1⟩ := open_int Tryd.underlying3 (hval 1 3 v1 rfl rfl) h1
  have b1 := bounds_i64 w1
  obtain ⟨a2, rfl, rfl, rfl, w2⟩ := open_int Tryd.underlying5 (hval 2 5 v2 rfl rfl) h2
  have b2 := bounds_u8 w2
  obtain ⟨m2, rfl⟩ : ∃ m : Nat, a2 = m := ⟨a2.toNat, by omega⟩
  obtain ⟨rfl, rfl⟩ := trodVars_none hV
  have e1 : Rows.csumSealsSpec.fn H ([.lit (.string a0.data.toList), .lit (.int .i64 a1), .lit (.int .u8 (m2 : Int))] ++ []) = { results := [.lit (.bool true)], args := [.lit (.string a0.data.toList), .lit (.int .i64 a1), .lit (.int .u8 (m2 : Int))] } := by simp [Rows.csumSealsSpec]
  refine (walk a0 a1 m2 W w0 (by omega) (by omega) (by omega)).mono fun e W' ⟨he, hb⟩ => ?_
  subst he
  refine ⟨_, rfl, _, _, _, [], [], [], hW', ?_, ?_, ?_, hb.frame _, fun h => by cases h⟩
  · rw [e1]; exact trodAll_mk1 (shut_bool Tryd.underlying4 true)
  · rw [e1]; exact trodAll_mk3 (shut_string Tryd.underlying9 w0) (shut_int Tryd.underlying3 w1) (shut_int Tryd.underlying5 w2)
  · rw [e1]; rfl

theorem said : Rows.CsumSealsSaid :=
  OpenClaim.holds_of_wide 5 Tryd.f5 rfl rfl rfl rfl rfl rfl rfl ⟨rfl, rfl, rfl, rfl, rfl⟩ rfl rfl rfl rfl rfl (by kernel_rfl) Tryd.func5 (by kernel_rfl)
    (of_decide_eq_true (by kernel_rfl)) (by unfold Func.isWrapper; rw [if_neg (of_decide_eq_false (by kernel_rfl))]; exact ⟨rfl, rfl⟩)
    (fun os started H enc _ => lifted os started H enc)

theorem plain (f : FuncId) (fn : Func) (hf : Tryd.pinned.checked.prog.funcNamed Rows.csumSealsRow.func = some f) (hfn : Tryd.pinned.checked.prog.funcs[f]? = some fn) :
    true = Tryd.pinned.checked.prog.looks [] ∧ ∀ (j : Nat) t, fn.params[j]? = some t → Tryd.pinned.checked.prog.wantsStandIn t = false := by
  obtain rfl : f = 5 := Option.some.inj ((show Tryd.prog.funcNamed Rows.csumSealsRow.func = some 5 by kernel_rfl).symm.trans hf) |>.symm
  obtain rfl : fn = Tryd.f5 := (Option.some.inj (Tryd.func5.symm.trans hfn)).symm
  refine ⟨by kernel_rfl, fun j t ht => ?_⟩
  rw [Tryd.params5] at ht
  have hm := Array.mem_of_getElem? ht
  simp only [List.mem_toArray, List.mem_cons, List.not_mem_nil, or_false] at hm
  rcases hm with rfl | rfl | rfl
  · exact (show Tryd.prog.wantsStandIn 9 = false by kernel_rfl)
  · exact (show Tryd.prog.wantsStandIn 3 = false by kernel_rfl)
  · exact (show Tryd.prog.wantsStandIn 5 = false by kernel_rfl)

theorem card : Rows.CsumSealsCardSaid :=
  Claim7.holds_tied_plain_at .later [] _ _ _ _ said (fun _ h => by cases h) (by kernel_rfl) (fun _ h => by cases h) csumSeals_row_tie rfl ⟨rfl, rfl⟩ (by kernel_rfl) rfl plain (by kernel_rfl)
end Go.Proofs.YtaacmohlmdkigaaDoor.csumSeals
namespace Go.Proofs.YtaacmohlmdkigaaDoor
theorem csumSeals_card_holds : Rows.CsumSealsCardSaid := csumSeals.card
end Go.Proofs.YtaacmohlmdkigaaDoor

