/-
  Proved: for every text, every cut and every number, gangwaylaw01.OctetsParts answers true (bytes cut in two are both parts, a number is its upper and its lower half, P1.1; of texts the first 1000 bytes) and its arguments read afterwards as before. Conditions: errors.errorType holds what the program's own text lays (tied by the card).
-/
import Derived.Test.YtmlmhgonhhcbeaaDoorRow
import Derived.Test.YtmlmhgonhhcbeaaDoorAid
namespace Go.Proofs.YtmlmhgonhhcbeaaDoor.octetsParts
open Go.ChangeShapes Go.WideShapes Go.ChangeAt Go.RowKit
open Go.ChangeMaps (open_string shut_string)

theorem be_append (v a b : Nat) : be v (a + b) = be (v / 256 ^ b) a ++ be v b := by
  induction b generalizing v with
  | zero => simp [be]
  | succ b ih =>
    have e : v / 256 / 256 ^ b = v / 256 ^ (b + 1) := by rw [Nat.div_div_eq_div_mul, Nat.pow_succ, Nat.mul_comm]
    rw [← Nat.add_assoc, be, be, ih, e, List.append_assoc]
theorem num_be_mod (v n : Nat) : num (be v n) = v % 256 ^ n := by
  induction n generalizing v with
  | zero => simp [be, num]; omega
  | succ n ih =>
    rw [be, num_snoc, ih, Nat.pow_succ, Nat.mul_comm, Nat.mul_comm (256 ^ n) 256, Nat.mod_mul]
    simp
    omega
theorem upper (v : Nat) (hv : v < 18446744073709551616) : num ((bs (be v 8)).extract 0 (0 + 4)).data.toList = v / 4294967296 := by
  have h := num_be_mod (v / 256 ^ 4) 4
  rw [extract_toList, bs_toList, show be v 8 = be (v / 256 ^ 4) 4 ++ be v 4 from be_append v 4 4, List.drop_zero, List.take_left' (be_length _ _), h]
  simp
  omega
theorem lower (v : Nat) : num ((bs (be v 8)).extract 4 (4 + 4)).data.toList = v % 4294967296 := by
  have h := num_be_mod v 4
  rw [extract_toList, bs_toList, show be v 8 = be (v / 256 ^ 4) 4 ++ be v 4 from be_append v 4 4, List.drop_left' (be_length _ _), List.take_of_length_le (by rw [be_length]; decide), h]
theorem or_parts (v : Nat) (hv : v < 18446744073709551616) : bits BinOp.or IntKind.u64 (((v / 4294967296 : Nat) : Int) * 4294967296) ((v % 4294967296 : Nat) : Int) = (v : Int) := by
  have e : (((v / 4294967296 : Nat) : Int) * 4294967296) = ((v / 4294967296 * 4294967296 : Nat) : Int) := by omega
  have a1 : v / 4294967296 * 4294967296 < 18446744073709551616 := Nat.lt_of_le_of_lt (Nat.div_mul_le_self _ _) hv
  have a2 : v % 4294967296 < 18446744073709551616 := Nat.lt_trans (Nat.mod_lt _ (by decide)) (by decide)
  rw [e, u64_or_nat _ _ a1 a2]
  have h := Nat.shiftLeft_add_eq_or_of_lt (i := 32) (show v % 4294967296 < 2 ^ 32 from Nat.mod_lt _ (by decide)) (v / 4294967296)
  rw [Nat.shiftLeft_eq, show (2 : Nat) ^ 32 = 4294967296 from rfl] at h
  rw [← h, Nat.div_add_mod']
theorem two_parts (p : ByteArray) (k : Nat) (_ : k ≤ p.size) : p.extract 0 k ++ p.extract k p.size = p := by
  apply ByteArray.ext
  rw [ByteArray.data_append, ByteArray.data_extract, ByteArray.data_extract, Array.extract_append_extract]
  simp
  exact Or.inr (Nat.le_max_right _ _)
theorem cut_first (p : ByteArray) (k : Nat) (hp : p.size ≤ 1000) (hk : k ≤ p.size) (w : World) :
    Calls Tryd.prog 17 #[.string p, .int .i64 0, .int .i64 k] w fun e w' => e = .returned (.tuple #[.string (p.extract 0 k), .int .i64 0]) ∧ Below w.heap.size w w' := by
  have h := cut_ok p 0 k w (by omega) (by omega)
  rw [Nat.zero_add] at h
  exact h
theorem cut_rest (p : ByteArray) (k : Nat) (hp : p.size ≤ 1000) (hk : k ≤ p.size) (w : World) :
    Calls Tryd.prog 17 #[.string p, .int .i64 k, .int .i64 ((p.size : Int) - (k : Int))] w fun e w' => e = .returned (.tuple #[.string (p.extract k p.size), .int .i64 0]) ∧ Below w.heap.size w w' := by
  have h := cut_ok p k (p.size - k) w (by omega) (by omega)
  rw [show k + (p.size - k) = p.size from by omega, show ((p.size - k : Nat) : Int) = (p.size : Int) - (k : Int) from by omega] at h
  exact h

set_option maxHeartbeats 4000000 in
theorem walk_at (s p : ByteArray) (x : Int) (v k m : Nat) (w : World) (hg : Et w) (hs : s.size ≤ maxLen) (hv : v < 18446744073709551616) (ha : bits BinOp.and IntKind.i64 x 65535 = (m : Int)) (hp : p.size ≤ 1000)
    (hc : Shortened s p) (hk : (m : Int) % ((p.size : Int) + 1) = (k : Int)) (hkp : k ≤ p.size) :
    Calls Tryd.prog 6 #[.string s, .int .i64 x, .int .u64 v] w fun e w' => e = .returned (.bool true) ∧ Below w.heap.size w w' := by
  have hpm : p.size ≤ maxLen := by unfold maxLen; omega
  unfold maxLen at hs
  have C1 := hide (cut_first p k hp hkp)
  have C2 := hide (cut_rest p k hp hkp)
  have C3 := hide (fun W g => cut_short p k ((p.size : Int) - (k : Int) + 1) W g hpm (by omega) (by omega) (by omega) (by omega))
  have C4 := hide (fun W => put_ok v 8 W (by decide) (by decide) hv)
  have hsz : (bs (be v 8)).size = 8 := by rw [bs_size, be_length]
  have G1 := hide (fun W => get_ok (bs (be v 8)) 0 4 W (by unfold maxLen; omega) (by decide) (by decide) (by omega))
  have G2 := hide (fun W => get_ok (bs (be v 8)) 4 4 W (by unfold maxLen; omega) (by decide) (by decide) (by omega))
  rw [upper v hv] at G1
  rw [lower v] at G2
  have hor := or_parts v hv
  have hAB := two_parts p k hkp
  have hA : (p.extract 0 k).size = k := by rw [ByteArray.size_extract]; omega
  have hB : (p.extract k p.size).size = p.size - k := by rw [ByteArray.size_extract]; omega
  have hX : v / 4294967296 < 4294967296 := by omega
  have hY : v % 4294967296 < 4294967296 := by omega
  generalize v / 4294967296 = X at G1 hor hX
  generalize v % 4294967296 = Y at G2 hor hY
  generalize bs (be v 8) = C at C4 G1 G2 hsz
  generalize p.extract 0 k = A at C1 hAB hA
  generalize p.extract k p.size = B at C2 hAB hB
  clear hpm
  rcases hc with ⟨rfl, hc, hmn, hxa⟩ | ⟨he, hc, hmn⟩
  all_goals
    go_enter Tryd.func6, Tryd.ntmps6
    go_wp2_with fail
    refine (unhide C1 _).mono ?_
    rintro e w1 ⟨rfl, b1⟩
    go_wp2_with fail
    refine (unhide C2 _).mono ?_
    rintro e w2 ⟨rfl, b2⟩
    have c2 := bthen b1 b2
    have g2 : Et w2 := hg.next c2
    clear b1 b2
    go_wp2_with fail
    refine (unhide C3 _ g2).mono ?_
    rintro e w3 ⟨rfl, b3⟩
    have c3 := bthen c2 b3
    clear c2 b3 g2
    go_wp2_with fail
    refine (unhide C4 _).mono ?_
    rintro e w4 ⟨rfl, b4⟩
    have c4 := bthen c3 b4
    clear c3 b4
    go_wp2_with fail
    refine (unhide G1 _).mono ?_
    rintro e w5 ⟨rfl, rfl⟩
    go_wp2_with fail
    refine (unhide G2 _).mono ?_
    rintro e w6 ⟨rfl, rfl⟩
    have g4 : Et w6 := hg.next c4
    go_wp2_with fail
    refine (fixed_any _ g4).mono ?_
    rintro e w7 ⟨rfl, b7⟩
    have c7 := bthen c4 b7
    clear c4 b7 g4
    go_wp2
    go_ret
    exact ⟨rfl, c7⟩

theorem walk (s : ByteArray) (x v : Int) (w : World) (hg : Et w) (hs : s.size ≤ maxLen) (_ : -9223372036854775808 ≤ x) (_ : x ≤ 9223372036854775807) (h0 : 0 ≤ v) (hv : v ≤ 18446744073709551615) :
    Calls Tryd.prog 6 #[.string s, .int .i64 x, .int .u64 v] w fun e w' => e = .returned (.bool true) ∧ Below w.heap.size w w' := by
  obtain ⟨v, rfl⟩ := Int.eq_ofNat_of_zero_le h0
  obtain ⟨m, ha, hm⟩ := and_mask x 65535 (by decide)
  rw [show ((65535 : Nat) : Int) = 65535 from rfl] at ha
  obtain ⟨p, hp, hc⟩ := shortened s
  exact walk_at s p x v (m % (p.size + 1)) m w hg hs (by omega) ha hp hc (by simp) (by have := Nat.mod_lt m (show p.size + 1 > 0 by omega); omega)

set_option maxRecDepth 100000 in
theorem lifted (os : Os) (started : os.Started) (H : Type) (enc : TypeId × Value → H) :
    ReturnsInHanded {} Tryd.checked os 6 .any (fun w args => (Rows.octetsPartsSpec.pre enc Tryd.prog Tryd.f6 [] false w args ∧ laidMetH Tryd.prog [("errors.errorType", Rows.laid_errors_errorType)] w) ∧ sizedMet enc Tryd.prog Tryd.f6 (OpenSpec.ofChange Rows.octetsPartsSpec) false w args)
      (Rows.octetsPartsSpec.post enc Tryd.prog Tryd.f6 false true false false) := by
  refine returnsInHanded_of_change_and (C := Tryd.checked) (X := fun w _ => laidMetH Tryd.prog [("errors.errorType", Rows.laid_errors_errorType)] w) (fun _ _ _ hh h => h.of_heap hh) own started (by kernel_rfl) Tryd.func6
    (ChangeSpec.witness_at (enc := enc) (C := Tryd.checked) (os := os) (X := fun w _ => laidMetH Tryd.prog [("errors.errorType", Rows.laid_errors_errorType)] w) false
      { World.holding Tryd.prog os ⟨#[], #[], []⟩ with heap := (World.holding Tryd.prog os ⟨#[], #[], []⟩).heap.modify 0 fun
        | .cells _ t frozen => .cells #[.iface 69 (.agg #[.pointer (some ⟨2, 39, none⟩)])] t frozen
        | o => o } #[.string ByteArray.empty, .int .i64 0, .int .u64 0] 8 rfl (by kernel_rfl) (by kernel_rfl) (by kernel_rfl) (by kernel_rfl) (by kernel_rfl) (laid_met os _)) ?_
  intro W base args ds gs before hval0 hW _ _ hL _
  have hval : ∀ (j : Nat) t v, Tryd.f6.params[j]? = some t → args[j]? = some v → Value.okWide Tryd.prog W .any base t v := hval0
  have hW' := hW
  obtain ⟨p, q, hA0, hV0, rfl, hfz, hnd⟩ := hW
  have hA : DataW.TrodAll enc Tryd.prog W 0 (fun _ => true) true Tryd.f6.params.toList args.toList ds p := hA0
  have hV : DataW.TrodVars enc Tryd.prog W (fun _ => true) [] gs q := hV0
  rw [Tryd.params6] at hA hval
  obtain ⟨v0, v1, v2, d0, d1, d2, p0, p1, p2, rfl, rfl, rfl, h0, h1, h2⟩ := trodAll_three hA
  obtain ⟨a0, rfl, rfl, rfl, w0⟩ := open_string Tryd.underlying9 (hval 0 9 v0 rfl rfl) h0
  obtain ⟨a1, rfl, rfl, rfl, w1⟩ := open_int Tryd.underlying3 (hval 1 3 v1 rfl rfl) h1
  obtain ⟨a2, rfl, rfl, rfl, w2⟩ := open_int Tryd.underlying22 (hval 2 22 v2 rfl rfl) h2
  obtain ⟨rfl, rfl⟩ := trodVars_none hV
  have hg := et_of_laid hL
  have b1 := bounds_i64 w1
  have b2 := bounds_u64 w2
  have e1 : Rows.octetsPartsSpec.fn H ([.lit (.string a0.data.toList), .lit (.int .i64 a1), .lit (.int .u64 a2)] ++ []) = { results := [.lit (.bool true)], args := [.lit (.string a0.data.toList), .lit (.int .i64 a1), .lit (.int .u64 a2)] } := by simp [Rows.octetsPartsSpec]
  refine (walk a0 a1 a2 W hg w0 (by omega) (by omega) (by omega) (by omega)).mono fun e W' ⟨he, hb⟩ => ?_
  subst he
  refine ⟨_, rfl, _, _, _, [], [], [], hW', ?_, ?_, ?_, hb.frame _, fun h => by cases h⟩
  · rw [e1]; exact trodAll_mk1 (shut_bool Tryd.underlying4 true)
  · rw [e1]; exact trodAll_mk3 (shut_string Tryd.underlying9 w0) (shut_int Tryd.underlying3 w1) (shut_int Tryd.underlying22 w2)
  · rw [e1]; rfl

theorem said : Rows.OctetsPartsSaid :=
  OpenClaim.holds_of_wide 6 Tryd.f6 rfl rfl rfl rfl rfl rfl rfl ⟨rfl, rfl, rfl, rfl, rfl⟩ rfl rfl rfl rfl rfl (by kernel_rfl) Tryd.func6 (by kernel_rfl)
    (of_decide_eq_true (by kernel_rfl)) (by unfold Func.isWrapper; rw [if_neg (of_decide_eq_false (by kernel_rfl))]; exact ⟨rfl, rfl⟩)
    (fun os started H enc _ => lifted os started H enc)

theorem plain (f : FuncId) (fn : Func) (hf : Tryd.pinned.checked.prog.funcNamed Rows.octetsPartsRow.func = some f) (hfn : Tryd.pinned.checked.prog.funcs[f]? = some fn) :
    true = Tryd.pinned.checked.prog.looks [] ∧ ∀ (j : Nat) t, fn.params[j]? = some t → Tryd.pinned.checked.prog.wantsStandIn t = false := by
  obtain rfl : f = 6 := Option.some.inj ((show Tryd.prog.funcNamed Rows.octetsPartsRow.func = some 6 by kernel_rfl).symm.trans hf) |>.symm
  obtain rfl : fn = Tryd.f6 := (Option.some.inj (Tryd.func6.symm.trans hfn)).symm
  refine ⟨by kernel_rfl, fun j t ht => ?_⟩
  rw [Tryd.params6] at ht
  have hm := Array.mem_of_getElem? ht
  simp only [List.mem_toArray, List.mem_cons, List.not_mem_nil, or_false] at hm
  rcases hm with rfl | rfl | rfl
  · exact (show Tryd.prog.wantsStandIn 9 = false by kernel_rfl)
  · exact (show Tryd.prog.wantsStandIn 3 = false by kernel_rfl)
  · exact (show Tryd.prog.wantsStandIn 22 = false by kernel_rfl)

theorem card : Rows.OctetsPartsCardSaid :=
  Claim7.holds_tied_plain_at .later [] _ _ _ _ said (fun _ h => by cases h) (by kernel_rfl) (fun _ h => by cases h) octetsParts_row_tie rfl ⟨rfl, rfl⟩ (by kernel_rfl) rfl plain (by kernel_rfl)
end Go.Proofs.YtmlmhgonhhcbeaaDoor.octetsParts
namespace Go.Proofs.YtmlmhgonhhcbeaaDoor
theorem octetsParts_card_holds : Rows.OctetsPartsCardSaid := octetsParts.card
end Go.Proofs.YtmlmhgonhhcbeaaDoor

