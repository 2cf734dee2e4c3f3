/-
  Proved: for every number and every n, gangwaylaw01.OctetsLess answers true (a number of more bytes is the same behind bytes 0, what does not go is refused, P1.1) and its arguments read afterwards as before. Conditions: errors.errorType holds what the program's own text lays (tied by the card).
-/
import Derived.Test.YtmlmhgonhhcbeaaDoorRow
import Derived.Test.YtmlmhgonhhcbeaaDoorAid
namespace Go.Proofs.YtmlmhgonhhcbeaaDoor.octetsLess
open Go.ChangeShapes Go.WideShapes Go.ChangeAt Go.RowKit

theorem shr_eql (v k : Nat) : ((v : Int) / 2 ^ (8 * k) == 0) = decide (v < 256 ^ k) := by
  have h := shifted v k
  rw [bne] at h
  cases h1 : ((v : Int) / 2 ^ (8 * k) == 0) <;> rw [h1] at h <;> simp at h <;> simp <;> omega

theorem put_next (v k : Nat) (s : ByteArray) (y : Int) (h : ∀ W, Et W → Calls Tryd.prog 9 #[.int .u64 v, .int .i64 ((k + 1 : Nat) : Int)] W fun e w' => e = .returned (.tuple #[.string s, .int .i64 y]) ∧ Below W.heap.size W w') :
    ∀ W, Et W → Calls Tryd.prog 9 #[.int .u64 v, .int .i64 ((k : Int) + 1)] W fun e w' => e = .returned (.tuple #[.string s, .int .i64 y]) ∧ Below W.heap.size W w' := by
  rw [show ((k + 1 : Nat) : Int) = (k : Int) + 1 from by omega] at h
  exact h

set_option maxHeartbeats 2000000 in
/-- The number goes in k bytes. -/
theorem walk_fits (v k : Nat) (x : Int) (w : World) (hg : Et w) (m : Nat) (ha : bits BinOp.and IntKind.i64 x 65535 = (m : Int)) (hk : 1 + (m : Int) % 7 = (k : Int)) (_ : k ≤ 7) (hv : v < 256 ^ k) :
    Calls Tryd.prog 7 #[.int .u64 v, .int .i64 x] w fun e w' => e = .returned (.bool true) ∧ Below w.heap.size w w' := by
  have hv1 : v < 256 ^ (k + 1) := Nat.lt_of_lt_of_le hv (Nat.pow_le_pow_right (by omega) (by omega))
  have P1 := hide (fun W => put_ok v k W (by omega) (by omega) hv)
  have P2 := hide (put_next v k _ _ (fun W _ => put_ok v (k + 1) W (by omega) (by omega) hv1))
  have hab : (ByteArray.mk #[0]) ++ bs (be v k) = bs (be v (k + 1)) := by
    rw [show (ByteArray.mk #[0]) = bs [0] from rfl, be_head v k hv]
    apply ByteArray.ext
    simp [bs]
  have hA : (bs (be v k)).size = k := by rw [bs_size, be_length]
  have hd : ((v : Int) / 2 ^ (8 * k) == 0) = true := by rw [shr_eql]; simpa using hv
  generalize bs (be v k) = A at P1 hab hA
  generalize bs (be v (k + 1)) = B at P2 hab
  clear hv hv1
  go_enter Tryd.func7, Tryd.ntmps7
  go_wp2_with fail
  refine (unhide P1 _).mono ?_
  rintro e w1 ⟨rfl, b1⟩
  have g1 : Et w1 := hg.next b1
  go_wp2_with fail
  refine (unhide P2 _ g1).mono ?_
  rintro e w2 ⟨rfl, b2⟩
  have c2 := bthen b1 b2
  have g2 : Et w2 := hg.next c2
  clear b1 b2 g1
  go_wp2_with fail
  refine (fixed_any _ g2).mono ?_
  rintro e w3 ⟨rfl, b3⟩
  have c3 := bthen c2 b3
  clear c2 b3 g2
  go_wp2
  go_ret
  exact ⟨rfl, c3⟩

set_option maxHeartbeats 2000000 in
/-- It does not; whatever one byte more gives. -/
theorem walk_great (v k : Nat) (x : Int) (w : World) (hg : Et w) (m : Nat) (ha : bits BinOp.and IntKind.i64 x 65535 = (m : Int)) (hk : 1 + (m : Int) % 7 = (k : Int)) (_ : k ≤ 7) (hv : 256 ^ k ≤ v) (B : ByteArray) (y : Int)
    (hB : ∀ W, Et W → Calls Tryd.prog 9 #[.int .u64 v, .int .i64 ((k : Int) + 1)] W fun e w' => e = .returned (.tuple #[.string B, .int .i64 y]) ∧ Below W.heap.size W w') :
    Calls Tryd.prog 7 #[.int .u64 v, .int .i64 x] w fun e w' => e = .returned (.bool true) ∧ Below w.heap.size w w' := by
  have P1 := hide (fun W g => put_great v k W g (by omega) (by omega) hv)
  have P2 := hide hB
  have hd : ((v : Int) / 2 ^ (8 * k) == 0) = false := by rw [shr_eql]; simpa using hv
  clear hv hB
  go_enter Tryd.func7, Tryd.ntmps7
  go_wp2_with fail
  refine (unhide P1 _ hg).mono ?_
  rintro e w1 ⟨rfl, b1⟩
  have g1 : Et w1 := hg.next b1
  go_wp2_with fail
  refine (unhide P2 _ g1).mono ?_
  rintro e w2 ⟨rfl, b2⟩
  have c2 := bthen b1 b2
  have g2 : Et w2 := hg.next c2
  clear b1 b2 g1
  go_wp2_with fail
  refine (fixed_any _ g2).mono ?_
  rintro e w3 ⟨rfl, b3⟩
  have c3 := bthen c2 b3
  clear c2 b3 g2
  go_wp2
  go_ret
  exact ⟨rfl, c3⟩

theorem walk (v x : Int) (w : World) (hg : Et w) (h0 : 0 ≤ v) (hv : v ≤ 18446744073709551615) (_ : -9223372036854775808 ≤ x) (_ : x ≤ 9223372036854775807) :
    Calls Tryd.prog 7 #[.int .u64 v, .int .i64 x] w fun e w' => e = .returned (.bool true) ∧ Below w.heap.size w w' := by
  obtain ⟨v, rfl⟩ := Int.eq_ofNat_of_zero_le h0
  obtain ⟨m, ha, hm⟩ := and_mask x 65535 (by decide)
  rw [show ((65535 : Nat) : Int) = 65535 from rfl] at ha
  have hk : 1 + (m : Int) % 7 = ((1 + m % 7 : Nat) : Int) := by omega
  by_cases h : v < 256 ^ (1 + m % 7)
  · exact walk_fits v _ x w hg m ha hk (by omega) h
  · by_cases h2 : v < 256 ^ (1 + m % 7 + 1)
    · exact walk_great v _ x w hg m ha hk (by omega) (by omega) _ _ (put_next v _ _ _ (fun W _ => put_ok v _ W (by omega) (by omega) h2))
    · exact walk_great v _ x w hg m ha hk (by omega) (by omega) _ _ (put_next v _ _ _ (fun W g => put_great v _ W g (by omega) (by omega) (by omega)))

set_option maxRecDepth 100000 in
theorem lifted (os : Os) (started : os.Started) (H : Type) (enc : TypeId × Value → H) :
    ReturnsInHanded {} Tryd.checked os 7 .any (fun w args => (Rows.octetsLessSpec.pre enc Tryd.prog Tryd.f7 [] false w args ∧ laidMetH Tryd.prog [("errors.errorType", Rows.laid_errors_errorType)] w) ∧ sizedMet enc Tryd.prog Tryd.f7 (OpenSpec.ofChange Rows.octetsLessSpec) false w args)
      (Rows.octetsLessSpec.post enc Tryd.prog Tryd.f7 false true false false) := by
  refine returnsInHanded_of_change_and (C := Tryd.checked) (X := fun w _ => laidMetH Tryd.prog [("errors.errorType", Rows.laid_errors_errorType)] w) (fun _ _ _ hh h => h.of_heap hh) own started (by kernel_rfl) Tryd.func7
    (ChangeSpec.witness_at (enc := enc) (C := Tryd.checked) (os := os) (X := fun w _ => laidMetH Tryd.prog [("errors.errorType", Rows.laid_errors_errorType)] w) false
      { World.holding Tryd.prog os ⟨#[], #[], []⟩ with heap := (World.holding Tryd.prog os ⟨#[], #[], []⟩).heap.modify 0 fun
        | .cells _ t frozen => .cells #[.iface 69 (.agg #[.pointer (some ⟨2, 39, none⟩)])] t frozen
        | o => o } #[.int .u64 0, .int .i64 0] 8 rfl (by kernel_rfl) (by kernel_rfl) (by kernel_rfl) (by kernel_rfl) (by kernel_rfl) (laid_met os _)) ?_
  intro W base args ds gs before hval0 hW _ _ hL _
  have hval : ∀ (j : Nat) t v, Tryd.f7.params[j]? = some t → args[j]? = some v → Value.okWide Tryd.prog W .any base t v := hval0
  have hW' := hW
  obtain ⟨p, q, hA0, hV0, rfl, hfz, hnd⟩ := hW
  have hA : DataW.TrodAll enc Tryd.prog W 0 (fun _ => true) true Tryd.f7.params.toList args.toList ds p := hA0
  have hV : DataW.TrodVars enc Tryd.prog W (fun _ => true) [] gs q := hV0
  rw [Tryd.params7] at hA hval
  obtain ⟨v0, v1, d0, d1, p0, p1, rfl, rfl, rfl, h0, h1⟩ := trodAll_two hA
  obtain ⟨a0, rfl, rfl, rfl, w0⟩ := open_int Tryd.underlying22 (hval 0 22 v0 rfl rfl) h0
  obtain ⟨a1, rfl, rfl, rfl, w1⟩ := open_int Tryd.underlying3 (hval 1 3 v1 rfl rfl) h1
  obtain ⟨rfl, rfl⟩ := trodVars_none hV
  have hg := et_of_laid hL
  have b0 := bounds_u64 w0
  have b1 := bounds_i64 w1
  have e1 : Rows.octetsLessSpec.fn H ([.lit (.int .u64 a0), .lit (.int .i64 a1)] ++ []) = { results := [.lit (.bool true)], args := [.lit (.int .u64 a0), .lit (.int .i64 a1)] } := by simp [Rows.octetsLessSpec]
  refine (walk a0 a1 W hg (by omega) (by omega) (by omega) (by omega)).mono fun e W' ⟨he, hb⟩ => ?_
  subst he
  refine ⟨_, rfl, _, _, _, [], [], [], hW', ?_, ?_, ?_, hb.frame _, fun h => by cases h⟩
  · rw [e1]; exact trodAll_mk1 (shut_bool Tryd.underlying4 true)
  · rw [e1]; exact trodAll_mk2 (shut_int Tryd.underlying22 w0) (shut_int Tryd.underlying3 w1)
  · rw [e1]; rfl

theorem said : Rows.OctetsLessSaid :=
  OpenClaim.holds_of_wide 7 Tryd.f7 rfl rfl rfl rfl rfl rfl rfl ⟨rfl, rfl, rfl, rfl, rfl⟩ rfl rfl rfl rfl rfl (by kernel_rfl) Tryd.func7 (by kernel_rfl)
    (of_decide_eq_true (by kernel_rfl)) (by unfold Func.isWrapper; rw [if_neg (of_decide_eq_false (by kernel_rfl))]; exact ⟨rfl, rfl⟩)
    (fun os started H enc _ => lifted os started H enc)

theorem plain (f : FuncId) (fn : Func) (hf : Tryd.pinned.checked.prog.funcNamed Rows.octetsLessRow.func = some f) (hfn : Tryd.pinned.checked.prog.funcs[f]? = some fn) :
    true = Tryd.pinned.checked.prog.looks [] ∧ ∀ (j : Nat) t, fn.params[j]? = some t → Tryd.pinned.checked.prog.wantsStandIn t = false := by
  obtain rfl : f = 7 := Option.some.inj ((show Tryd.prog.funcNamed Rows.octetsLessRow.func = some 7 by kernel_rfl).symm.trans hf) |>.symm
  obtain rfl : fn = Tryd.f7 := (Option.some.inj (Tryd.func7.symm.trans hfn)).symm
  refine ⟨by kernel_rfl, fun j t ht => ?_⟩
  rw [Tryd.params7] at ht
  have hm := Array.mem_of_getElem? ht
  simp only [List.mem_toArray, List.mem_cons, List.not_mem_nil, or_false] at hm
  rcases hm with rfl | rfl
  · exact (show Tryd.prog.wantsStandIn 22 = false by kernel_rfl)
  · exact (show Tryd.prog.wantsStandIn 3 = false by kernel_rfl)

theorem card : Rows.OctetsLessCardSaid :=
  Claim7.holds_tied_plain_at .later [] _ _ _ _ said (fun _ h => by cases h) (by kernel_rfl) (fun _ h => by cases h) octetsLess_row_tie rfl ⟨rfl, rfl⟩ (by kernel_rfl) rfl plain (by kernel_rfl)
end Go.Proofs.YtmlmhgonhhcbeaaDoor.octetsLess
namespace Go.Proofs.YtmlmhgonhhcbeaaDoor
theorem octetsLess_card_holds : Rows.OctetsLessCardSaid := octetsLess.card
end Go.Proofs.YtmlmhgonhhcbeaaDoor

