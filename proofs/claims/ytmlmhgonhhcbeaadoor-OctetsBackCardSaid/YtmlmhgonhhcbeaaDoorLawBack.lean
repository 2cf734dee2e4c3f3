/-
  Proved: for every number, every n and every text, gangwaylaw01.OctetsBack answers true (what is put is got as it was, what is got, put, is the bytes, what is written as digits is read again, P1.1 to P1.3; of texts the first 1000 bytes) and its arguments read afterwards as before. Conditions: errors.errorType holds what the program's own text lays (tied by the card).
-/
import Derived.Test.YtmlmhgonhhcbeaaDoorRow
import Derived.Test.YtmlmhgonhhcbeaaDoorAid
namespace Go.Proofs.YtmlmhgonhhcbeaaDoor.octetsBack
open Go.ChangeShapes Go.WideShapes Go.ChangeAt Go.RowKit
open Go.ChangeMaps (open_string shut_string)

theorem half_hexd : ∀ n : Fin 16, half (hexd n.val) = n.val := by decide +kernel
theorem unh_hexs (l : List UInt8) : unh (hexs l) = some l := by
  induction l with
  | nil => rfl
  | cons c l ih =>
    have hc := c.toNat_lt
    have e : hexs (c :: l) = hexd (c.toNat / 16) :: hexd (c.toNat % 16) :: hexs l := by simp [hexs]
    have h1 := half_hexd ⟨c.toNat / 16, by omega⟩
    have h2 := half_hexd ⟨c.toNat % 16, by omega⟩
    simp only at h1 h2
    rw [e, unh, h1, h2, if_pos ⟨by omega, by omega⟩, ih]
    simp only [Option.map_some]
    rw [show c.toNat / 16 * 16 + c.toNat % 16 = c.toNat from by omega, UInt8.ofNat_toNat]
theorem upper_lt (v k : Nat) (hv : v < 18446744073709551616) (hk : k ≤ 8) : v / 2 ^ (64 - 8 * k) < 256 ^ k := by
  rw [Nat.div_lt_iff_lt_mul (Nat.pow_pos (by decide)), show (256 : Nat) = 2 ^ 8 from rfl, ← Nat.pow_mul, ← Nat.pow_add, show 8 * k + (64 - 8 * k) = 64 from by omega]
  exact hv
theorem got_in (p a : ByteArray) : (p ++ a ++ p).extract p.size (p.size + a.size) = a := by
  apply ByteArray.ext
  rw [ByteArray.data_extract, ByteArray.data_append, ByteArray.data_append]
  apply Array.ext'
  rw [Array.toList_extract, List.extract_eq_take_drop]
  simp only [Array.toList_append, List.append_assoc]
  have e1 : p.data.toList.length = p.size := size_toList p
  have e2 : a.data.toList.length = a.size := size_toList a
  rw [List.drop_left' e1, show p.size + a.size - p.size = a.size from by omega, List.take_left' e2]
theorem size3 (p a : ByteArray) : (p ++ a ++ p).size = p.size + a.size + p.size := by simp [ByteArray.size_append]

set_option maxHeartbeats 4000000 in
theorem walk_long (s p : ByteArray) (x : Int) (v k m : Nat) (w : World) (hg : Et w) (hs : s.size ≤ maxLen) (hv : v < 18446744073709551616) (ha : bits BinOp.and IntKind.i64 x 7 = (m : Int)) (hp : p.size ≤ 1000)
    (hc : Shortened s p) (hk : 1 + (m : Int) = (k : Int)) (hk1 : 1 ≤ k) (hk8 : k ≤ 8) (hkp : k ≤ p.size) :
    Calls Tryd.prog 5 #[.int .u64 v, .int .i64 x, .string s] w fun e w' => e = .returned (.bool true) ∧ Below w.heap.size w w' := by
  have hpm : p.size ≤ maxLen := by unfold maxLen; omega
  unfold maxLen at hs
  have hu : (v : Int) / 2 ^ (64 - 8 * k) = ((v / 2 ^ (64 - 8 * k) : Nat) : Int) := by simp
  have hlt := upper_lt v k hv hk8
  generalize v / 2 ^ (64 - 8 * k) = u at hu hlt
  have C1 := hide (fun W => put_ok u k W hk1 hk8 hlt)
  have hA : (bs (be u k)).size = k := by rw [bs_size, be_length]
  have hDs := size3 p (bs (be u k))
  have hex : num ((p ++ bs (be u k) ++ p).extract p.size (p.size + k)).data.toList = u := by
    have h := got_in p (bs (be u k))
    rw [hA] at h
    rw [h, bs_toList, num_be _ _ hlt]
  have G1 := hide (fun W => get_ok (p ++ bs (be u k) ++ p) p.size k W (by rw [hDs]; unfold maxLen; omega) hk1 hk8 (by rw [hDs]; omega))
  rw [hex] at G1
  clear hex hDs hlt
  have hq : (p.extract 0 k).size = k := by rw [ByteArray.size_extract]; omega
  have hql : (p.extract 0 k).data.toList.length = k := by rw [size_toList]; exact hq
  have G2 := hide (fun W => get_ok p 0 k W hpm hk1 hk8 (by omega))
  rw [Nat.zero_add] at G2
  have hn := num_lt (p.extract 0 k).data.toList
  have hb := be_num (p.extract 0 k).data.toList
  rw [hql] at hn hb
  have C2 := hide (fun W => put_ok (num (p.extract 0 k).data.toList) k W hk1 hk8 hn)
  rw [hb, bs_of] at C2
  clear hn hb hql
  generalize num (p.extract 0 k).data.toList = N at G2 C2
  have C3 := hide (fun W => hex_any p W (by omega))
  have hX : (bs (hexs p.data.toList)).size = 2 * p.size := by rw [bs_size, hexs_length, size_toList]
  have C4 := hide (fun W g => unhex_any (bs (hexs p.data.toList)) W g (by rw [hX]; omega))
  rw [bs_toList, unh_hexs, unhV_some, bs_of] at C4
  generalize hDD : p ++ bs (be u k) ++ p = D at G1
  generalize bs (be u k) = A at C1 hA hDD
  generalize bs (hexs p.data.toList) = X at C3 C4 hX
  generalize hQ : p.extract 0 k = Q at C2
  clear hpm hq
  rcases hc with ⟨rfl, hc, hmn, hxa⟩ | ⟨he, hc, hmn⟩
  all_goals
    go_enter Tryd.func5, Tryd.ntmps5
    go_wp2_with fail
    refine (unhide C1 _).mono ?_
    rintro e w1 ⟨rfl, b1⟩
    go_wp2_with fail
    refine (unhide G1 _).mono ?_
    rintro e w2 ⟨rfl, rfl⟩
    go_wp2_with fail
    refine (unhide G2 _).mono ?_
    rintro e w3 ⟨rfl, rfl⟩
    go_wp2_with fail
    refine (unhide C2 _).mono ?_
    rintro e w4 ⟨rfl, b4⟩
    have c4 := bthen b1 b4
    clear b1 b4
    go_wp2_with fail
    refine (unhide C3 _).mono ?_
    rintro e w5 ⟨rfl, b5⟩
    have c5 := bthen c4 b5
    have g5 : Et w5 := hg.next c5
    clear c4 b5
    go_wp2_with fail
    refine (unhide C4 _ g5).mono ?_
    rintro e w6 ⟨rfl, b6⟩
    have c6 := bthen c5 b6
    have g6 : Et w6 := hg.next c6
    clear c5 b6 g5
    go_wp2_with fail
    refine (fixed_any _ g6).mono ?_
    rintro e w7 ⟨rfl, b7⟩
    have c7 := bthen c6 b7
    clear c6 b7 g6
    go_wp2
    go_ret
    exact ⟨rfl, c7⟩

set_option maxHeartbeats 4000000 in
theorem walk_short (s p : ByteArray) (x : Int) (v k m : Nat) (w : World) (hg : Et w) (hs : s.size ≤ maxLen) (hv : v < 18446744073709551616) (ha : bits BinOp.and IntKind.i64 x 7 = (m : Int)) (hp : p.size ≤ 1000)
    (hc : Shortened s p) (hk : 1 + (m : Int) = (k : Int)) (hk1 : 1 ≤ k) (hk8 : k ≤ 8) (hkp : p.size < k) :
    Calls Tryd.prog 5 #[.int .u64 v, .int .i64 x, .string s] w fun e w' => e = .returned (.bool true) ∧ Below w.heap.size w w' := by
  have hpm : p.size ≤ maxLen := by unfold maxLen; omega
  unfold maxLen at hs
  have hu : (v : Int) / 2 ^ (64 - 8 * k) = ((v / 2 ^ (64 - 8 * k) : Nat) : Int) := by simp
  have hlt := upper_lt v k hv hk8
  generalize v / 2 ^ (64 - 8 * k) = u at hu hlt
  have C1 := hide (fun W => put_ok u k W hk1 hk8 hlt)
  have hA : (bs (be u k)).size = k := by rw [bs_size, be_length]
  have hDs := size3 p (bs (be u k))
  have hex : num ((p ++ bs (be u k) ++ p).extract p.size (p.size + k)).data.toList = u := by
    have h := got_in p (bs (be u k))
    rw [hA] at h
    rw [h, bs_toList, num_be _ _ hlt]
  have G1 := hide (fun W => get_ok (p ++ bs (be u k) ++ p) p.size k W (by rw [hDs]; unfold maxLen; omega) hk1 hk8 (by rw [hDs]; omega))
  rw [hex] at G1
  clear hex hDs hlt
  have G2 := hide (fun W g => get_short p 0 k W g hpm (by omega) (by omega) (by decide) (by decide) (by omega))
  have C3 := hide (fun W => hex_any p W (by omega))
  have hX : (bs (hexs p.data.toList)).size = 2 * p.size := by rw [bs_size, hexs_length, size_toList]
  have C4 := hide (fun W g => unhex_any (bs (hexs p.data.toList)) W g (by rw [hX]; omega))
  rw [bs_toList, unh_hexs, unhV_some, bs_of] at C4
  generalize hDD : p ++ bs (be u k) ++ p = D at G1
  generalize bs (be u k) = A at C1 hA hDD
  generalize bs (hexs p.data.toList) = X at C3 C4 hX
  clear hpm
  rcases hc with ⟨rfl, hc, hmn, hxa⟩ | ⟨he, hc, hmn⟩
  all_goals
    go_enter Tryd.func5, Tryd.ntmps5
    go_wp2_with fail
    refine (unhide C1 _).mono ?_
    rintro e w1 ⟨rfl, b1⟩
    go_wp2_with fail
    refine (unhide G1 _).mono ?_
    rintro e w2 ⟨rfl, rfl⟩
    have g2 : Et w2 := hg.next b1
    go_wp2_with fail
    refine (unhide G2 _ g2).mono ?_
    rintro e w3 ⟨rfl, b3⟩
    have c4 := bthen b1 b3
    clear b1 b3 g2
    go_wp2_with fail
    refine (unhide C3 _).mono ?_
    rintro e w5 ⟨rfl, b5⟩
    have c5 := bthen c4 b5
    have g5 : Et w5 := hg.next c5
    clear c4 b5
    go_wp2_with fail
    refine (unhide C4 _ g5).mono ?_
    rintro e w6 ⟨rfl, b6⟩
    have c6 := bthen c5 b6
    have g6 : Et w6 := hg.next c6
    clear c5 b6 g5
    go_wp2_with fail
    refine (fixed_any _ g6).mono ?_
    rintro e w7 ⟨rfl, b7⟩
    have c7 := bthen c6 b7
    clear c6 b7 g6
    go_wp2
    go_ret
    exact ⟨rfl, c7⟩

theorem walk (v x : Int) (s : ByteArray) (w : World) (hg : Et w) (h0 : 0 ≤ v) (hv : v ≤ 18446744073709551615) (_ : -9223372036854775808 ≤ x) (_ : x ≤ 9223372036854775807) (hs : s.size ≤ maxLen) :
    Calls Tryd.prog 5 #[.int .u64 v, .int .i64 x, .string s] w fun e w' => e = .returned (.bool true) ∧ Below w.heap.size w w' := by
  obtain ⟨v, rfl⟩ := Int.eq_ofNat_of_zero_le h0
  obtain ⟨m, ha, hm⟩ := and_mask x 7 (by decide)
  rw [show ((7 : Nat) : Int) = 7 from rfl] at ha
  obtain ⟨p, hp, hc⟩ := shortened s
  by_cases h : 1 + m ≤ p.size
  · exact walk_long s p x v (1 + m) m w hg hs (by omega) ha hp hc (by omega) (by omega) (by omega) h
  · exact walk_short s p x v (1 + m) m w hg hs (by omega) ha hp hc (by omega) (by omega) (by omega) (by omega)

set_option maxRecDepth 100000 in
theorem lifted (os : Os) (started : os.Started) (H : Type) (enc : TypeId × Value → H) :
    ReturnsInHanded {} Tryd.checked os 5 .any (fun w args => (Rows.octetsBackSpec.pre enc Tryd.prog Tryd.f5 [] false w args ∧ laidMetH Tryd.prog [("errors.errorType", Rows.laid_errors_errorType)] w) ∧ sizedMet enc Tryd.prog Tryd.f5 (OpenSpec.ofChange Rows.octetsBackSpec) false w args)
      (Rows.octetsBackSpec.post enc Tryd.prog Tryd.f5 false true false false) := by
  refine returnsInHanded_of_change_and (C := Tryd.checked) (X := fun w _ => laidMetH Tryd.prog [("errors.errorType", Rows.laid_errors_errorType)] w) (fun _ _ _ hh h => h.of_heap hh) own started (by kernel_rfl) Tryd.func5
    (ChangeSpec.witness_at (enc := enc) (C := Tryd.checked) (os := os) (X := fun w _ => laidMetH Tryd.prog [("errors.errorType", Rows.laid_errors_errorType)] w) false
      { World.holding Tryd.prog os ⟨#[], #[], []⟩ with heap := (World.holding Tryd.prog os ⟨#[], #[], []⟩).heap.modify 0 fun
        | .cells _ t frozen => .cells #[.iface 69 (.agg #[.pointer (some ⟨2, 39, none⟩)])] t frozen
        | o => o } #[.int .u64 0, .int .i64 0, .string ByteArray.empty] 8 rfl (by kernel_rfl) (by kernel_rfl) (by kernel_rfl) (by kernel_rfl) (by kernel_rfl) (laid_met os _)) ?_
  intro W base args ds gs before hval0 hW _ _ hL _
  have hval : ∀ (j : Nat) t v, Tryd.f5.params[j]? = some t → args[j]? = some v → Value.okWide Tryd.prog W .any base t v := hval0
  have hW' := hW
  obtain ⟨p, q, hA0, hV0, rfl, hfz, hnd⟩ := hW
  have hA : DataW.TrodAll enc Tryd.prog W 0 (fun _ => true) true Tryd.f5.params.toList args.toList ds p := hA0
  have hV : DataW.TrodVars enc Tryd.prog W (fun _ => true) [] gs q := hV0
  rw [Tryd.params5] at hA hval
  obtain ⟨v0, v1, v2, d0, d1, d2, p0, p1, p2, rfl, rfl, rfl, h0, h1, h2⟩ := trodAll_three hA
  obtain ⟨a0, rfl, rfl, rfl, w0⟩ := open_int Tryd.underlying22 (hval 0 22 v0 rfl rfl) h0
  obtain ⟨a1, rfl, rfl, rfl, w1⟩ := open_int Tryd.underlying3 (hval 1 3 v1 rfl rfl) h1
  obtain ⟨a2, rfl, rfl, rfl, w2⟩ := open_string Tryd.underlying9 (hval 2 9 v2 rfl rfl) h2
  obtain ⟨rfl, rfl⟩ := trodVars_none hV
  have hg := et_of_laid hL
  have b0 := bounds_u64 w0
  have b1 := bounds_i64 w1
  have e1 : Rows.octetsBackSpec.fn H ([.lit (.int .u64 a0), .lit (.int .i64 a1), .lit (.string a2.data.toList)] ++ []) = { results := [.lit (.bool true)], args := [.lit (.int .u64 a0), .lit (.int .i64 a1), .lit (.string a2.data.toList)] } := by simp [Rows.octetsBackSpec]
  refine (walk a0 a1 a2 W hg (by omega) (by omega) (by omega) (by omega) w2).mono fun e W' ⟨he, hb⟩ => ?_
  subst he
  refine ⟨_, rfl, _, _, _, [], [], [], hW', ?_, ?_, ?_, hb.frame _, fun h => by cases h⟩
  · rw [e1]; exact trodAll_mk1 (shut_bool Tryd.underlying4 true)
  · rw [e1]; exact trodAll_mk3 (shut_int Tryd.underlying22 w0) (shut_int Tryd.underlying3 w1) (shut_string Tryd.underlying9 w2)
  · rw [e1]; rfl

theorem said : Rows.OctetsBackSaid :=
  OpenClaim.holds_of_wide 5 Tryd.f5 rfl rfl rfl rfl rfl rfl rfl ⟨rfl, rfl, rfl, rfl, rfl⟩ rfl rfl rfl rfl rfl (by kernel_rfl) Tryd.func5 (by kernel_rfl)
    (of_decide_eq_true (by kernel_rfl)) (by unfold Func.isWrapper; rw [if_neg (of_decide_eq_false (by kernel_rfl))]; exact ⟨rfl, rfl⟩)
    (fun os started H enc _ => lifted os started H enc)

theorem plain (f : FuncId) (fn : Func) (hf : Tryd.pinned.checked.prog.funcNamed Rows.octetsBackRow.func = some f) (hfn : Tryd.pinned.checked.prog.funcs[f]? = some fn) :
    true = Tryd.pinned.checked.prog.looks [] ∧ ∀ (j : Nat) t, fn.params[j]? = some t → Tryd.pinned.checked.prog.wantsStandIn t = false := by
  obtain rfl : f = 5 := Option.some.inj ((show Tryd.prog.funcNamed Rows.octetsBackRow.func = some 5 by kernel_rfl).symm.trans hf) |>.symm
  obtain rfl : fn = Tryd.f5 := (Option.some.inj (Tryd.func5.symm.trans hfn)).symm
  refine ⟨by kernel_rfl, fun j t ht => ?_⟩
  rw [Tryd.params5] at ht
  have hm := Array.mem_of_getElem? ht
  simp only [List.mem_toArray, List.mem_cons, List.not_mem_nil, or_false] at hm
  rcases hm with rfl | rfl | rfl
  · exact (show Tryd.prog.wantsStandIn 22 = false by kernel_rfl)
  · exact (show Tryd.prog.wantsStandIn 3 = false by kernel_rfl)
  · exact (show Tryd.prog.wantsStandIn 9 = false by kernel_rfl)

theorem card : Rows.OctetsBackCardSaid :=
  Claim7.holds_tied_plain_at .later [] _ _ _ _ said (fun _ h => by cases h) (by kernel_rfl) (fun _ h => by cases h) octetsBack_row_tie rfl ⟨rfl, rfl⟩ (by kernel_rfl) rfl plain (by kernel_rfl)
end Go.Proofs.YtmlmhgonhhcbeaaDoor.octetsBack
namespace Go.Proofs.YtmlmhgonhhcbeaaDoor
theorem octetsBack_card_holds : Rows.OctetsBackCardSaid := octetsBack.card
end Go.Proofs.YtmlmhgonhhcbeaaDoor

