/-
  Proved: for every three texts, gangwaylaw03.CsumOf answers true (the checksum of any parts, and whether any are right, is as the document says: as of one text, P3.1) and its argument reads afterwards as before. Conditions: errors.errorType holds what the program's own text lays (tied by the card).
-/
import Derived.Test.YtaacmohlmdkigaaDoorRef3
import Derived.Test.YtaacmohlmdkigaaDoorCut3
namespace Go.Proofs.YtaacmohlmdkigaaDoor.csumOf
open Go.ChangeShapes Go.WideShapes Go.ChangeAt Go.RowKit

theorem ok_ck (l : List UInt8) : (((ck l : Nat) : Int) == 0) = ok l := by
  have h := fold_le (tot l)
  unfold ck ok
  rw [Bool.eq_iff_iff]
  simp
  omega
set_option maxRecDepth 20000 in
set_option maxHeartbeats 8000000 in
theorem walk (x y z : ByteArray) (w : World) (_ : x.size ≤ maxLen) (_ : y.size ≤ maxLen) (_ : z.size ≤ maxLen) :
    Calls Tryd.prog 3 #[.agg #[.string x, .string y, .string z]] w fun e w' => e = .returned (.bool true) ∧ Below w.heap.size w w' := by
  obtain ⟨i, a, ha, mx, sx⟩ := first600 x
  obtain ⟨j, b, hb, my, sy⟩ := first600 y
  obtain ⟨k, c, hc, mz, sz⟩ := first600 z
  have C1 := hide (fun W => cut_any x y z (bs a) (bs b) (bs c) i j k W mx sx my sy mz sz)
  clear mx sx my sy mz sz
  have hl : (a ++ b ++ c).length ≤ 10000 := by rw [List.length_append, List.length_append]; omega
  have O3 := hide (fun q W => of_three a b c q 3 W (by omega))
  have O1 := hide (fun q W => of_one (a ++ b ++ c) q 1 W hl)
  have RO := hide (fun W => rof (a ++ b ++ c) W hl)
  have R3 := hide (fun q W => right_three a b c q 3 W (by omega))
  have hcmp := ok_ck (a ++ b ++ c)
  have za : (bs a).size ≤ 600 := by rw [bs_size]; exact ha
  have zb : (bs b).size ≤ 600 := by rw [bs_size]; exact hb
  have zc : (bs c).size ≤ 600 := by rw [bs_size]; exact hc
  have hT : bs a ++ bs b ++ bs c = bs (a ++ b ++ c) := by rw [bs_append, bs_append]
  generalize ck (a ++ b ++ c) = n at *
  generalize ok (a ++ b ++ c) = o at *
  generalize bs (a ++ b ++ c) = S at *
  generalize bs a = A at *
  generalize bs b = B at *
  generalize bs c = C at *
  clear hl ha hb hc
  have g1 : ∀ W, (Op.stringOp .add A B).run Tryd.prog W = .ok (.string (A ++ B)) W := fun W => run_string_add_sum W A B (by omega)
  have g2 : ∀ W, (Op.stringOp .add (A ++ B) C).run Tryd.prog W = .ok (.string S) W := fun W => by
    have := run_string_add_sum (P := Tryd.prog) W (A ++ B) C (by rw [ByteArray.size_append]; omega)
    rw [hT] at this
    exact this
  clear hT
  go_enter Tryd.func3, Tryd.ntmps3
  go_wp2_with fail
  refine (unhide C1 _).mono ?_
  rintro e w1 ⟨rfl, b1⟩
  have k0 := (b1.cell (p := ⟨w.heap.size, 0, none⟩) (by simp)).trans (show _ = some (Value.string x) by simp)
  have k1 := (b1.cell (p := ⟨w.heap.size, 1, none⟩) (by simp)).trans (show _ = some (Value.string y) by simp)
  have k2 := (b1.cell (p := ⟨w.heap.size, 2, none⟩) (by simp)).trans (show _ = some (Value.string z) by simp)
  have f0 := (b1.frozen (p := ⟨w.heap.size, 0, none⟩) (by simp)).trans (show _ = false by simp)
  have f1 := (b1.frozen (p := ⟨w.heap.size, 1, none⟩) (by simp)).trans (show _ = false by simp)
  have f2 := (b1.frozen (p := ⟨w.heap.size, 2, none⟩) (by simp)).trans (show _ = false by simp)
  have hw1 : Below w.heap.size w w1 := (alloc_then (Below.refl w.heap.size w)).trans (b1.mono (by simp))
  clear b1 C1
  go_wp2_with fail
  obtain ⟨W2, hW2⟩ : ∃ W2, W2 = ((w1.setCell ⟨w.heap.size, 0, none⟩ (.string A)).setCell ⟨w.heap.size, 1, none⟩ (.string B)).setCell ⟨w.heap.size, 2, none⟩ (.string C) := ⟨_, rfl⟩
  have m0 : W2.cell? ⟨w.heap.size, 0, none⟩ = some (.string A) := by rw [hW2]; go_simp
  have m1 : W2.cell? ⟨w.heap.size, 1, none⟩ = some (.string B) := by rw [hW2]; go_simp
  have m2 : W2.cell? ⟨w.heap.size, 2, none⟩ = some (.string C) := by rw [hW2]; go_simp
  have hb2 : Below w.heap.size w W2 := by rw [hW2]; exact ((hw1.setCell (Nat.le_refl _) _).setCell (Nat.le_refl _) _).setCell (Nat.le_refl _) _
  rw [← hW2]
  clear hW2 k0 k1 k2 f0 f1 f2 hw1 g1 g2
  refine (fixed_any _).mono ?_
  rintro e w3 ⟨rfl, b3⟩
  have hlt : w.heap.size < W2.heap.size := block_lt_of_cell m0
  have n0 := (b3.cell (p := ⟨w.heap.size, 0, none⟩) hlt).trans m0
  have n1 := (b3.cell (p := ⟨w.heap.size, 1, none⟩) hlt).trans m1
  have n2 := (b3.cell (p := ⟨w.heap.size, 2, none⟩) hlt).trans m2
  have hb3 := bthen hb2 b3
  have hl3 : w.heap.size < w3.heap.size := block_lt_of_cell n0
  clear hb2 b3 m0 m1 m2 hlt
  go_wp2_with fail
  refine (unhide O3 _ _ ?_ ?_ ?_).mono ?_
  · exact cell_last (by simp) rfl
  · exact cell_last (by simp) rfl
  · exact cell_last (by simp) rfl
  rintro e w4 ⟨rfl, rfl⟩
  have q0 := (World.cell?_alloc_old w3 (.cells #[.string A, .string B, .string C] 9) ⟨w.heap.size, 0, none⟩ (Nat.ne_of_lt hl3)).trans n0
  have q1 := (World.cell?_alloc_old w3 (.cells #[.string A, .string B, .string C] 9) ⟨w.heap.size, 1, none⟩ (Nat.ne_of_lt hl3)).trans n1
  have q2 := (World.cell?_alloc_old w3 (.cells #[.string A, .string B, .string C] 9) ⟨w.heap.size, 2, none⟩ (Nat.ne_of_lt hl3)).trans n2
  have hb4 := alloc_then (o := .cells #[.string A, .string B, .string C] 9) hb3
  clear n0 n1 n2 hb3 hl3
  generalize w3.alloc (.cells #[.string A, .string B, .string C] 9) = w5 at *
  go_wp2_with fail
  refine (unhide RO _).mono ?_
  rintro e w6 ⟨rfl, rfl⟩
  go_wp2_with fail
  refine (unhide O1 _ _ ?_).mono ?_
  · exact cell_last (by simp) rfl
  rintro e w7 ⟨rfl, rfl⟩
  have hl5 : w.heap.size < w6.heap.size := block_lt_of_cell q0
  have r0 := (World.cell?_alloc_old w6 (.cells #[.string S] 9) ⟨w.heap.size, 0, none⟩ (Nat.ne_of_lt hl5)).trans q0
  have r1 := (World.cell?_alloc_old w6 (.cells #[.string S] 9) ⟨w.heap.size, 1, none⟩ (Nat.ne_of_lt hl5)).trans q1
  have r2 := (World.cell?_alloc_old w6 (.cells #[.string S] 9) ⟨w.heap.size, 2, none⟩ (Nat.ne_of_lt hl5)).trans q2
  have hb7 := alloc_then (o := .cells #[.string S] 9) hb4
  clear q0 q1 q2 hb4 hl5
  generalize w6.alloc (.cells #[.string S] 9) = w8 at *
  go_wp2_with fail
  refine (unhide RO _).mono ?_
  rintro e w9 ⟨rfl, rfl⟩
  go_wp2_with fail
  refine (unhide R3 _ _ ?_ ?_ ?_).mono ?_
  · exact cell_last (by simp) rfl
  · exact cell_last (by simp) rfl
  · exact cell_last (by simp) rfl
  rintro e w10 ⟨rfl, rfl⟩
  go_wp2_with fail
  refine (unhide RO _).mono ?_
  rintro e w11 ⟨rfl, rfl⟩
  have hb9 := alloc_then (o := .cells #[.string A, .string B, .string C] 9) hb7
  cases o
  all_goals
    go_wp2_with fail
    go_ret
    exact ⟨rfl, hb9⟩

set_option maxRecDepth 100000 in
theorem lifted (os : Os) (started : os.Started) (H : Type) (enc : TypeId × Value → H) :
    ReturnsInHanded {} Tryd.checked os 3 .any (fun w args => (Rows.csumOfSpec.pre enc Tryd.prog Tryd.f3 [] false w args ∧ laidMetH Tryd.prog [("errors.errorType", Rows.laid_errors_errorType)] w) ∧ sizedMet enc Tryd.prog Tryd.f3 (OpenSpec.ofChange Rows.csumOfSpec) false w args)
      (Rows.csumOfSpec.post enc Tryd.prog Tryd.f3 false true false false) := by
  refine returnsInHanded_of_change_and (C := Tryd.checked) (X := fun w _ => laidMetH Tryd.prog [("errors.errorType", Rows.laid_errors_errorType)] w) (fun _ _ _ hh h => h.of_heap hh) own started (by kernel_rfl) Tryd.func3
    (ChangeSpec.witness_at (enc := enc) (C := Tryd.checked) (os := os) (X := fun w _ => laidMetH Tryd.prog [("errors.errorType", Rows.laid_errors_errorType)] w) false
      { World.holding Tryd.prog os ⟨#[], #[], []⟩ with heap := (World.holding Tryd.prog os ⟨#[], #[], []⟩).heap.modify 0 fun
        | .cells _ t frozen => .cells #[.iface 68 (.agg #[.pointer (some ⟨1, 47, none⟩)])] t frozen
        | o => o } #[.agg #[.string ByteArray.empty, .string ByteArray.empty, .string ByteArray.empty]] 8 rfl (by kernel_rfl) (by kernel_rfl) (by kernel_rfl) (by kernel_rfl) (by kernel_rfl) (laid_met os _)) ?_
  intro W base args ds gs before hval0 hW _ _ _ _
  have hval : ∀ (j : Nat) t v, Tryd.f3.params[j]? = some t → args[j]? = some v → Value.okWide Tryd.prog W .any base t v := hval0
  have hW' := hW
  obtain ⟨p, q, hA0, hV0, rfl, hfz, hnd⟩ := hW
  have hA : DataW.TrodAll enc Tryd.prog W 0 (fun _ => true) true Tryd.f3.params.toList args.toList ds p := hA0
  have hV : DataW.TrodVars enc Tryd.prog W (fun _ => true) [] gs q := hV0
  rw [Tryd.params3] at hA hval
  obtain ⟨v0, d0, rfl, rfl, h0⟩ := trodAll_one hA
  obtain ⟨x0, y0, z0, rfl, rfl, rfl, wx0, wy0, wz0⟩ := open_parts (hval 0 23 v0 rfl rfl) h0
  obtain ⟨rfl, rfl⟩ := trodVars_none hV
  have e1 : Rows.csumOfSpec.fn H ([partsD x0 y0 z0] ++ []) = { results := [.lit (.bool true)], args := [partsD x0 y0 z0] } := by simp [Rows.csumOfSpec]
  refine (walk x0 y0 z0 W wx0 wy0 wz0).mono fun e W' ⟨he, hb⟩ => ?_
  subst he
  refine ⟨_, rfl, _, _, _, [], [], [], hW', ?_, ?_, ?_, hb.frame _, fun h => by cases h⟩
  · rw [e1]; exact trodAll_mk1 (shut_bool Tryd.underlying4 true)
  · rw [e1]; exact trodAll_mk1 (shut_parts x0 y0 z0 wx0 wy0 wz0)
  · rw [e1]; rfl

theorem said : Rows.CsumOfSaid :=
  OpenClaim.holds_of_wide 3 Tryd.f3 rfl rfl rfl rfl rfl rfl rfl ⟨rfl, rfl, rfl, rfl, rfl⟩ rfl rfl rfl rfl rfl (by kernel_rfl) Tryd.func3 (by kernel_rfl)
    (of_decide_eq_true (by kernel_rfl)) (by unfold Func.isWrapper; rw [if_neg (of_decide_eq_false (by kernel_rfl))]; exact ⟨rfl, rfl⟩)
    (fun os started H enc _ => lifted os started H enc)

theorem plain (f : FuncId) (fn : Func) (hf : Tryd.pinned.checked.prog.funcNamed Rows.csumOfRow.func = some f) (hfn : Tryd.pinned.checked.prog.funcs[f]? = some fn) :
    true = Tryd.pinned.checked.prog.looks [] ∧ ∀ (j : Nat) t, fn.params[j]? = some t → Tryd.pinned.checked.prog.wantsStandIn t = false := by
  obtain rfl : f = 3 := Option.some.inj ((show Tryd.prog.funcNamed Rows.csumOfRow.func = some 3 by kernel_rfl).symm.trans hf) |>.symm
  obtain rfl : fn = Tryd.f3 := (Option.some.inj (Tryd.func3.symm.trans hfn)).symm
  refine ⟨by kernel_rfl, fun j t ht => ?_⟩
  rw [Tryd.params3] at ht
  have hm := Array.mem_of_getElem? ht
  simp only [List.mem_toArray, List.mem_cons, List.not_mem_nil, or_false] at hm
  subst hm
  · exact (show Tryd.prog.wantsStandIn 23 = false by kernel_rfl)

theorem card : Rows.CsumOfCardSaid :=
  Claim7.holds_tied_plain_at .later [] _ _ _ _ said (fun _ h => by cases h) (by kernel_rfl) (fun _ h => by cases h) csumOf_row_tie rfl ⟨rfl, rfl⟩ (by kernel_rfl) rfl plain (by kernel_rfl)
end Go.Proofs.YtaacmohlmdkigaaDoor.csumOf
namespace Go.Proofs.YtaacmohlmdkigaaDoor
theorem csumOf_card_holds : Rows.CsumOfCardSaid := csumOf.card
end Go.Proofs.YtaacmohlmdkigaaDoor

