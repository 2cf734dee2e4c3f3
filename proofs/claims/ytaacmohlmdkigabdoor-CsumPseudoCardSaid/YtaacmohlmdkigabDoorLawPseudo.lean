/-
  Proved: for every src, dst and every text, gangwaylaw03.CsumPseudo answers true (what a datagram's checksum goes over, too, has twelve bytes; from and to the other way round its checksum is the same, P3.1, P3.3) and its arguments read afterwards as before. Conditions: errors.errorType holds what the program's own text lays (tied by the card).
-/
import Derived.Test.YtaacmohlmdkigabDoorRow3
import Derived.Test.YtaacmohlmdkigabDoorCells3
import Derived.Deep.RegionHeld3
namespace Go.Proofs.YtaacmohlmdkigabDoor.csumPseudo
open Go.ChangeShapes Go.WideShapes Go.ChangeAt Go.RowKit
open Go.ChangeMaps (open_string shut_string)

theorem headB_tot (s d p n : Nat) (l : List UInt8) : tot (headB s d p n ++ l) = tot (headB d s p n ++ l) := by
  have e : ∀ x y : Nat, tot (headB x y p n ++ l) = tot (be x 4) + (tot (be y 4) + tot ([0] ++ be p 1 ++ be n 2 ++ l)) := by
    intro x y
    have e1 : headB x y p n ++ l = be x 4 ++ (be y 4 ++ ([0] ++ be p 1 ++ be n 2 ++ l)) := by simp [headB]
    rw [e1, tot_append _ _ (by rw [be_length]), tot_append _ _ (by rw [be_length])]
  rw [e, e]; omega
theorem headB_from (s d p n : Nat) : (bs (headB s d p n)).extract 0 4 = bs (be s 4) := by
  rw [← bs_of ((bs (headB s d p n)).extract 0 4), extract_toList, bs_toList]
  refine congrArg bs ?_
  rw [headB, List.append_assoc, List.append_assoc, List.append_assoc, List.drop_zero, List.take_append_of_le_length (by rw [be_length]; decide), List.take_of_length_le (by rw [be_length]; decide)]
theorem headB_to (s d p n : Nat) : (bs (headB s d p n)).extract 4 8 = bs (be d 4) := by
  rw [← bs_of ((bs (headB s d p n)).extract 4 8), extract_toList, bs_toList]
  refine congrArg bs ?_
  rw [headB, List.append_assoc, List.append_assoc, List.append_assoc, List.drop_append_of_le_length (by rw [be_length]; decide), List.drop_of_length_le (by rw [be_length]; decide), List.nil_append, List.take_append_of_le_length (by rw [be_length]; decide), List.take_of_length_le (by rw [be_length]; decide)]

set_option maxHeartbeats 4000000 in
theorem walk_short (s d : Nat) (t : ByteArray) (l : List UInt8) (w : World) (hs : s < 4294967296) (hd : d < 4294967296) (hl : l.length ≤ 600) (h : Shortened t (bs l)) :
    Calls Tryd.prog 3 #[.int .u32 s, .int .u32 d, .string t] w fun e w' => e = .returned (.bool true) ∧ Below w.heap.size w w' := by
  have hsz : (bs l).size = l.length := bs_size l
  have h17 : IntKind.u64.wrap 17 = ((17 : Nat) : Int) := by rw [IntKind.wrap_u64]; decide
  have hL : IntKind.u64.wrap (l.length : Int) = (l.length : Int) := by rw [IntKind.wrap_u64]; omega
  have hu : IntKind.u64.wrap (s : Int) = (s : Int) := by rw [IntKind.wrap_u64]; omega
  have H1 := hide (fun W => head_any s d 17 l.length 17 l.length W hs hd h17 hL)
  have H2 := hide (fun W => head_any d s 17 l.length 17 l.length W hd hs h17 hL)
  have B1 := hide (fun W => rbytes s 4 W (by omega) (by omega))
  have hc : ck (headB d s 17 l.length ++ l) = ck (headB s d 17 l.length ++ l) := ck_of (headB_tot _ _ _ _ _)
  have O1 := hide (fun b W => of_two (headB s d 17 l.length) l b 2 W (by rw [headB_length]; omega))
  have O2 := hide (fun b W => of_two (headB d s 17 l.length) l b 2 W (by rw [headB_length]; omega))
  rw [hc] at O2
  have z1 : (bs (headB s d 17 l.length)).size = 12 := by rw [bs_size, headB_length]
  have z2 : (bs (headB d s 17 l.length)).size = 12 := by rw [bs_size, headB_length]
  have x1 := headB_from s d 17 l.length
  have x2 : ∀ W, (Instr.slice 9 (.string (bs (headB s d 17 l.length))) (some (.int .i64 4)) (some (.int .i64 8)) none).run Tryd.prog W = .ok (.string (bs (be d 4))) W := by
    intro W
    have := run_slice_string_lh (P := Tryd.prog) W 9 (bs (headB s d 17 l.length)) Tryd.underlying9 .i64 .i64 4 8 (by omega) (by omega) (by omega)
    rw [show (4 : Int).toNat = 4 from rfl, show (8 : Int).toNat = 8 from rfl, headB_to] at this
    exact this
  have x3 := headB_from d s 17 l.length
  clear hc h17 hL
  generalize bs (headB s d 17 l.length) = A at *
  generalize bs (headB d s 17 l.length) = B at *
  generalize bs (be s 4) = S at *
  generalize bs (be d 4) = D at *
  generalize ck (headB s d 17 l.length ++ l) = c at *
  generalize hP : bs l = P at *
  generalize l.length = L at *
  clear hP l
  rcases h with ⟨rfl, h1, h2, h3⟩ | ⟨h1, h2, h3⟩
  case' inl => rw [hsz] at h3
  all_goals
    go_enter Tryd.func3, Tryd.ntmps3
    go_wp2_with fail
    refine (unhide H1 _).mono ?_
    rintro e w1 ⟨rfl, b1⟩
    go_wp2_with fail
    refine (unhide H2 _).mono ?_
    rintro e w2 ⟨rfl, b2⟩
    have c2 := bthen b1 b2
    clear b1 b2
    go_wp2_with fail
    go_region_held3 (fun _ => True) (exact True.intro) (first | (go_at_call 5; refine (unhide B1 _).mono ?_; rintro e w3 ⟨rfl, b3⟩) | (go_at_call 6; first | (refine (unhide O1 _ _ ?_ ?_).mono ?_; (first | (refine cell_last ?_ ?_; simp; rfl) | (refine cell_prev ?_ ?_; simp; rfl)); (first | (refine cell_last ?_ ?_; simp; rfl) | (refine cell_prev ?_ ?_; simp; rfl)); rintro e w4 ⟨rfl, rfl⟩) | (refine (unhide O2 _ _ ?_ ?_).mono ?_; (first | (refine cell_last ?_ ?_; simp; rfl) | (refine cell_prev ?_ ?_; simp; rfl)); (first | (refine cell_last ?_ ?_; simp; rfl) | (refine cell_prev ?_ ?_; simp; rfl)); rintro e w4 ⟨rfl, rfl⟩)) | (go_at_call 7; refine (fixed_any _).mono ?_; rintro e w6 ⟨rfl, b6⟩))
    all_goals
      go_wp2_with fail
      go_ret
      exact ⟨rfl, bthen (alloc_then (alloc_then (drew_then c2 b3))) b6⟩
theorem walk (s d : Nat) (t : ByteArray) (w : World) (hs : s < 4294967296) (hd : d < 4294967296) (_ : t.size ≤ maxLen) :
    Calls Tryd.prog 3 #[.int .u32 s, .int .u32 d, .string t] w fun e w' => e = .returned (.bool true) ∧ Below w.heap.size w w' := by
  obtain ⟨l, hl, h⟩ := shortened t
  exact walk_short s d t l w hs hd hl h

set_option maxRecDepth 100000 in
theorem lifted (os : Os) (started : os.Started) (H : Type) (enc : TypeId × Value → H) :
    ReturnsInHanded {} Tryd.checked os 3 .any (fun w args => (Rows.csumPseudoSpec.pre enc Tryd.prog Tryd.f3 [] false w args ∧ laidMetH Tryd.prog [("errors.errorType", Rows.laid_errors_errorType)] w) ∧ sizedMet enc Tryd.prog Tryd.f3 (OpenSpec.ofChange Rows.csumPseudoSpec) false w args)
      (Rows.csumPseudoSpec.post enc Tryd.prog Tryd.f3 false true false false) := by
  refine returnsInHanded_of_change_and (C := Tryd.checked) (X := fun w _ => laidMetH Tryd.prog [("errors.errorType", Rows.laid_errors_errorType)] w) (fun _ _ _ hh h => h.of_heap hh) own started (by kernel_rfl) Tryd.func3
    (ChangeSpec.witness_at (enc := enc) (C := Tryd.checked) (os := os) (X := fun w _ => laidMetH Tryd.prog [("errors.errorType", Rows.laid_errors_errorType)] w) false
      { World.holding Tryd.prog os ⟨#[], #[], []⟩ with heap := (World.holding Tryd.prog os ⟨#[], #[], []⟩).heap.modify 0 fun
        | .cells _ t frozen => .cells #[.iface 60 (.agg #[.pointer (some ⟨1, 39, none⟩)])] t frozen
        | o => o } #[.int .u32 0, .int .u32 0, .string ByteArray.empty] 8 rfl (by kernel_rfl) (by kernel_rfl) (by kernel_rfl) (by kernel_rfl) (by kernel_rfl) (laid_met os _)) ?_
  intro W base args ds gs before hval0 hW _ _ _ _
  have hval : ∀ (j : Nat) t v, Tryd.f3.params[j]? = some t → args[j]? = some v → Value.okWide Tryd.prog W .any base t v := hval0
  have hW' := hW
  obtain ⟨p, q, hA0, hV0, rfl, hfz, hnd⟩ := hW
  have hA : DataW.TrodAll enc Tryd.prog W 0 (fun _ => true) true Tryd.f3.params.toList args.toList ds p := hA0
  have hV : DataW.TrodVars enc Tryd.prog W (fun _ => true) [] gs q := hV0
  rw [Tryd.params3] at hA hval
  obtain ⟨v0, v1, v2, d0, d1, d2, p0, p1, p2, rfl, rfl, rfl, h0, h1, h2⟩ := trodAll_three hA
  obtain ⟨a0, rfl, rfl, rfl, w0⟩ := open_int Tryd.underlying22 (hval 0 22 v0 rfl rfl) h0
  have b0 := bounds_u32 w0
  obtain ⟨m0, rfl⟩ : ∃ m : Nat, a0 = m := ⟨a0.toNat, by omega⟩
  obtain ⟨a1, rfl, rfl, rfl, w1⟩ := open_int Tryd.underlying22 (hval 1 22 v1 rfl rfl) h1
  have b1 := bounds_u32 w1
  obtain ⟨m1, rfl⟩ : ∃ m : Nat, a1 = m := ⟨a1.toNat, by omega⟩
  obtain ⟨a2, rfl, rfl, rfl, w2⟩ := open_string Tryd.underlying9 (hval 2 9 v2 rfl rfl) h2
  obtain ⟨rfl, rfl⟩ := trodVars_none hV
  have e1 : Rows.csumPseudoSpec.fn H ([.lit (.int .u32 (m0 : Int)), .lit (.int .u32 (m1 : Int)), .lit (.string a2.data.toList)] ++ []) = { results := [.lit (.bool true)], args := [.lit (.int .u32 (m0 : Int)), .lit (.int .u32 (m1 : Int)), .lit (.string a2.data.toList)] } := by simp [Rows.csumPseudoSpec]
  refine (walk m0 m1 a2 W (by omega) (by omega) w2).mono fun e W' ⟨he, hb⟩ => ?_
  subst he
  refine ⟨_, rfl, _, _, _, [], [], [], hW', ?_, ?_, ?_, hb.frame _, fun h => by cases h⟩
  · rw [e1]; exact trodAll_mk1 (shut_bool Tryd.underlying4 true)
  · rw [e1]; exact trodAll_mk3 (shut_int Tryd.underlying22 w0) (shut_int Tryd.underlying22 w1) (shut_string Tryd.underlying9 w2)
  · rw [e1]; rfl

theorem said : Rows.CsumPseudoSaid :=
  OpenClaim.holds_of_wide 3 Tryd.f3 rfl rfl rfl rfl rfl rfl rfl ⟨rfl, rfl, rfl, rfl, rfl⟩ rfl rfl rfl rfl rfl (by kernel_rfl) Tryd.func3 (by kernel_rfl)
    (of_decide_eq_true (by kernel_rfl)) (by unfold Func.isWrapper; rw [if_neg (of_decide_eq_false (by kernel_rfl))]; exact ⟨rfl, rfl⟩)
    (fun os started H enc _ => lifted os started H enc)

theorem plain (f : FuncId) (fn : Func) (hf : Tryd.pinned.checked.prog.funcNamed Rows.csumPseudoRow.func = some f) (hfn : Tryd.pinned.checked.prog.funcs[f]? = some fn) :
    true = Tryd.pinned.checked.prog.looks [] ∧ ∀ (j : Nat) t, fn.params[j]? = some t → Tryd.pinned.checked.prog.wantsStandIn t = false := by
  obtain rfl : f = 3 := Option.some.inj ((show Tryd.prog.funcNamed Rows.csumPseudoRow.func = some 3 by kernel_rfl).symm.trans hf) |>.symm
  obtain rfl : fn = Tryd.f3 := (Option.some.inj (Tryd.func3.symm.trans hfn)).symm
  refine ⟨by kernel_rfl, fun j t ht => ?_⟩
  rw [Tryd.params3] at ht
  have hm := Array.mem_of_getElem? ht
  simp only [List.mem_toArray, List.mem_cons, List.not_mem_nil, or_false] at hm
  rcases hm with rfl | rfl | rfl
  · exact (show Tryd.prog.wantsStandIn 22 = false by kernel_rfl)
  · exact (show Tryd.prog.wantsStandIn 22 = false by kernel_rfl)
  · exact (show Tryd.prog.wantsStandIn 9 = false by kernel_rfl)

theorem card : Rows.CsumPseudoCardSaid :=
  Claim7.holds_tied_plain_at .later [] _ _ _ _ said (fun _ h => by cases h) (by kernel_rfl) (fun _ h => by cases h) csumPseudo_row_tie rfl ⟨rfl, rfl⟩ (by kernel_rfl) rfl plain (by kernel_rfl)
end Go.Proofs.YtaacmohlmdkigabDoor.csumPseudo
namespace Go.Proofs.YtaacmohlmdkigabDoor
theorem csumPseudo_card_holds : Rows.CsumPseudoCardSaid := csumPseudo.card
end Go.Proofs.YtaacmohlmdkigabDoor

