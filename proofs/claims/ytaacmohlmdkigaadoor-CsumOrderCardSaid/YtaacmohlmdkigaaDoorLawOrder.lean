/-
  Proved: for every text and every number, gangwaylaw03.CsumOrder answers true (words in another order have the same checksum; so have words 0 more, P3.1, P3.4) and its arguments read afterwards as before. Conditions: errors.errorType holds what the program's own text lays (tied by the card).
-/
import Derived.Test.YtaacmohlmdkigaaDoorRow3
import Derived.Test.YtaacmohlmdkigaaDoorCells3
import Derived.Deep.DeepCutAuto
namespace Go.Proofs.YtaacmohlmdkigaaDoor.csumOrder
open Go.ChangeShapes Go.WideShapes Go.ChangeAt Go.RowKit
open Go.ChangeMaps (open_string shut_string)

/-- the last k words of l, the last one first -/
def back (l : List UInt8) : Nat → List UInt8
  | 0 => []
  | k + 1 => back l k ++ ((l.drop (l.length - 2 * (k + 1))).take 2)
theorem back_length (l : List UInt8) : ∀ k, 2 * k ≤ l.length → (back l k).length = 2 * k
  | 0, _ => rfl
  | k + 1, h => by
    rw [back, List.length_append, back_length l k (by omega), List.length_take, List.length_drop]
    omega
theorem back_tot (l : List UInt8) (hl : l.length % 2 = 0) : ∀ k, 2 * k ≤ l.length → tot (back l k) = tot (l.drop (l.length - 2 * k))
  | 0, _ => by rw [Nat.mul_zero, Nat.sub_zero, List.drop_length]; rfl
  | k + 1, h => by
    have e : l.drop (l.length - 2 * (k + 1)) = (l.drop (l.length - 2 * (k + 1))).take 2 ++ l.drop (l.length - 2 * k) := by
      conv => lhs; rw [← List.take_append_drop 2 (l.drop (l.length - 2 * (k + 1))), List.drop_drop]
      rw [show l.length - 2 * (k + 1) + 2 = l.length - 2 * k by omega]
    have hb := back_length l k (by omega)
    have ht : ((l.drop (l.length - 2 * (k + 1))).take 2).length = 2 := by rw [List.length_take, List.length_drop]; omega
    rw [back, tot_append _ _ (by rw [hb]; omega), back_tot l hl k (by omega)]
    conv => rhs; rw [e, tot_append _ _ (by rw [ht])]
    omega
theorem back_all (l : List UInt8) (hl : l.length % 2 = 0) : ck (back l (l.length / 2)) = ck l := by
  refine ck_of ?_
  rw [back_tot l hl _ (by omega), show l.length - 2 * (l.length / 2) = 0 by omega, List.drop_zero]
/-- k words 0 -/
def zeros (k : Nat) : List UInt8 := List.replicate (2 * k) 0
theorem zeros_length (k : Nat) : (zeros k).length = 2 * k := List.length_replicate
theorem zeros_next (k : Nat) : bs (zeros k) ++ ⟨#[0, 0]⟩ = bs (zeros (k + 1)) := by
  rw [show (⟨#[0, 0]⟩ : ByteArray) = bs [0, 0] from rfl, bs_append]
  refine congrArg bs ?_
  rw [zeros, zeros, show 2 * (k + 1) = 2 * k + 2 by omega]
  exact List.replicate_append_replicate (n := 2 * k) (m := 2)
theorem zeros_behind (l : List UInt8) (k : Nat) (hl : l.length % 2 = 0) : ck (l ++ zeros k) = ck l := by
  refine ck_of ?_
  rw [tot_append _ _ hl, zeros, tot_zeros]; rfl
theorem zeros_round (l : List UInt8) (k : Nat) (hl : l.length % 2 = 0) : ck (zeros k ++ l ++ [0]) = ck l := by
  refine ck_of ?_
  rw [tot_append _ _ (by rw [List.length_append, zeros_length]; omega), tot_append _ _ (by rw [zeros_length]; omega), zeros, tot_zeros]
  show 0 + tot l + 256 * 0 = tot l
  omega
/-- the bytes of an even number that a text begins with -/
def even (l : List UInt8) : List UInt8 := l.take (l.length / 2 * 2)
theorem even_length (l : List UInt8) : (even l).length = l.length / 2 * 2 := by rw [even, List.length_take]; omega
theorem even_same (l : List UInt8) (h : l.length % 2 = 0) : even l = l := List.take_of_length_le (by omega)
theorem even_cut (l : List UInt8) (h : l.length % 2 = 1) (W : World) : (Instr.slice 9 (.string (bs l)) none (some (.int .i64 ((l.length : Int) - 1))) none).run Tryd.prog W = .ok (.string (bs (even l))) W := by
  have hs := bs_size l
  have e := run_slice_string_h (P := Tryd.prog) W 9 (bs l) Tryd.underlying9 .i64 ((l.length : Int) - 1) (by omega) (by omega)
  have e2 : (bs l).extract 0 ((l.length : Int) - 1).toNat = bs (even l) := by
    rw [← bs_of ((bs l).extract 0 ((l.length : Int) - 1).toNat), extract_toList, bs_toList, List.drop_zero, even]
    rw [show ((l.length : Int) - 1).toNat - 0 = l.length / 2 * 2 by omega]
  rw [e2] at e
  exact e
theorem back_next (m : List UInt8) (q n : Nat) (hn : m.length = 2 * n) (hq : q < n) : bs (back m (n - (q + 1))) ++ (bs m).extract (2 * q) (2 * q + 2) = bs (back m (n - q)) := by
  have e1 : n - q = (n - (q + 1)) + 1 := by omega
  rw [← bs_of ((bs m).extract (2 * q) (2 * q + 2)), extract_toList, bs_toList, bs_append]
  refine congrArg bs ?_
  conv => rhs; rw [e1, back]
  rw [show m.length - 2 * (n - (q + 1) + 1) = 2 * q by omega, show 2 * q + 2 - 2 * q = 2 by omega]

set_option maxHeartbeats 4000000 in
theorem walk_short (t : ByteArray) (l : List UInt8) (x : Int) (w : World) (hl : l.length ≤ 600) (h : Shortened t (bs l)) :
    Calls Tryd.prog 7 #[.string t, .int .i64 x] w fun e w' => e = .returned (.bool true) ∧ Below w.heap.size w w' := by
  obtain ⟨r, hx, hr⟩ := and_mask x 15 (by decide)
  rw [show ((15 : Nat) : Int) = 15 from rfl] at hx
  have hsz : (bs l).size = l.length := bs_size l
  go_enter Tryd.func7, Tryd.ntmps7
  go_upto_region 1 with fail
  go_cut [0] (fun s wx => s = .string (bs l) ∧ w = wx)
  case first =>
    rcases h with ⟨h0, h1, h2, h3⟩ | ⟨h1, h2, h3⟩
    · subst h0
      rw [hsz] at h3
      go_wp2_with fail
      go_meet
      exact ⟨rfl, rfl⟩
    · go_wp2_with fail
      go_meet
      exact ⟨rfl, rfl⟩
  case rest =>
    obtain ⟨rfl, rfl⟩ := hcut
    clear h
    go_upto_if 17 with fail
    go_cut [0] (fun s wx => s = .string (bs (even l)) ∧ w = wx)
    case first =>
      by_cases hp : l.length % 2 = 1
      · have hd : ((l.length : Int) % 2 == 1) = true := by rw [beq_iff_eq]; omega
        have hc := even_cut l hp
        go_wp2_with fail
        go_meet
        exact ⟨rfl, rfl⟩
      · have hd : ((l.length : Int) % 2 == 1) = false := by rw [beq_eq_false_iff_ne]; omega
        have hc := even_same l (by omega)
        go_wp2_with fail
        go_meet
        exact ⟨by rw [hc], rfl⟩
    case rest =>
      obtain ⟨rfl, rfl⟩ := hcut
      have hev : (even l).length % 2 = 0 := by rw [even_length]; omega
      have hle : (even l).length ≤ 600 := by rw [even_length]; omega
      generalize even l = m at *
      obtain ⟨n, hn⟩ : ∃ n, m.length = 2 * n := ⟨m.length / 2, by omega⟩
      have hms : (bs m).size = 2 * n := by rw [bs_size]; exact hn
      have A1 := hide (fun b W => of_one m b 1 W (by omega))
      have A2 := hide (fun b W => of_one (back m n) b 1 W (by rw [back_length m n (by omega)]; omega))
      have A3 := hide (fun b W => of_two m (zeros r) b 2 W (by rw [zeros_length]; omega))
      have A4 := hide (fun b W => of_three (zeros r) m [0] b 3 W (by rw [zeros_length]; simp; omega))
      have e2 : ck (back m n) = ck m := by
        have := back_all m hev
        rwa [show m.length / 2 = n by omega] at this
      rw [e2] at A2
      rw [zeros_behind m r hev] at A3
      rw [zeros_round m r hev] at A4
      clear hsz hl
      go_wp2_with fail
      go_loop [5, 7] (fun s i => ∃ (q : Nat) (z : Int), q ≤ n ∧ z = 2 * (q : Int) - 2 ∧ i = .int .i64 z ∧ s = .string (bs (back m (n - q)))) (fun _ i => (intOf i + 2).toNat)
      case atStart => exact ⟨n, _, Nat.le_refl _, rfl, by go_num, by rw [Nat.sub_self]; rfl⟩
      case round =>
        obtain ⟨q, z, hq, hz, rfl, rfl⟩ := hrel
        cases q with
        | zero =>
          obtain rfl : z = -2 := by omega
          rw [Nat.sub_zero]
          clear hz hq
          generalize ck m = c at *
          generalize bs (back m n) = B at *
          generalize bs m = M at *
          go_wp2_with fail
          go_loop [6, 8] (fun s i => ∃ k : Nat, k ≤ r ∧ i = .int .i64 k ∧ s = .string (bs (zeros k))) (fun _ i => r - (intOf i).toNat)
          case atStart => exact ⟨0, Nat.zero_le _, rfl, rfl⟩
          case round =>
            obtain ⟨k, hk, rfl, rfl⟩ := hrel
            by_cases hlt : k < r
            · have hz2 : (bs (zeros k)).size = 2 * k := by rw [bs_size, zeros_length]
              have HN := hide (zeros_next k)
              generalize bs (zeros k) = Z at HN hz2 ⊢
              go_wp2_with fail
              go_round
              case rel => exact ⟨k + 1, by omega, by go_num, by rw [← unhide HN]⟩
              case measure => simp [intOf]; omega
            · obtain rfl : k = r := by omega
              generalize bs (zeros k) = Z at *
              go_wp2_with fail
              refine (unhide A1 _ _ ?_).mono ?_
              · exact cell_last (by simp) rfl
              rintro e w1 ⟨rfl, rfl⟩
              go_wp2_with fail
              refine (unhide A2 _ _ ?_).mono ?_
              · exact cell_last (by simp) rfl
              rintro e w2 ⟨rfl, rfl⟩
              go_wp2_with fail
              refine (unhide A3 _ _ ?_ ?_).mono ?_
              · exact cell_last (by simp) rfl
              · exact cell_last (by simp) rfl
              rintro e w3 ⟨rfl, rfl⟩
              go_wp2_with fail
              refine (unhide A1 _ _ ?_).mono ?_
              · exact cell_last (by simp) rfl
              rintro e w4 ⟨rfl, rfl⟩
              go_wp2_with fail
              refine (unhide A4 _ _ ?_ ?_ ?_).mono ?_
              · exact cell_last (by simp) rfl
              · exact cell_last (by simp) rfl
              · exact cell_last (by simp) rfl
              rintro e w5 ⟨rfl, rfl⟩
              go_wp2_with fail
              refine (unhide A1 _ _ ?_).mono ?_
              · exact cell_last (by simp) rfl
              rintro e w6 ⟨rfl, rfl⟩
              go_wp2_with fail
              refine (fixed_any _).mono ?_
              rintro e w7 ⟨rfl, b7⟩
              have hb := bthen (alloc_then (alloc_then (alloc_then (alloc_then (alloc_then (alloc_then (Below.refl w.heap.size w))))))) b7
              clear b7
              go_wp2_with fail
              go_ret
              exact ⟨rfl, hb⟩
        | succ q =>
          obtain ⟨j, rfl⟩ : ∃ j : Nat, z = j := ⟨2 * q, by omega⟩
          obtain rfl : j = 2 * q := by omega
          have hj : (0 : Int) ≤ ((2 * q : Nat) : Int) := by omega
          have hsl : ∀ W, (Instr.slice 9 (.string (bs m)) (some (.int .i64 ((2 * q : Nat) : Int))) (some (.int .i64 (((2 * q : Nat) : Int) + 2))) none).run Tryd.prog W = .ok (.string ((bs m).extract (2 * q) (2 * q + 2))) W := by
            intro W
            have := run_slice_string_lh (P := Tryd.prog) W 9 (bs m) Tryd.underlying9 .i64 .i64 ((2 * q : Nat) : Int) (((2 * q : Nat) : Int) + 2) (by omega) (by omega) (by omega)
            rw [show (((2 * q : Nat) : Int)).toNat = 2 * q by omega, show (((2 * q : Nat) : Int) + 2).toNat = 2 * q + 2 by omega] at this
            exact this
          have hes : ((bs m).extract (2 * q) (2 * q + 2)).size = 2 := by rw [ByteArray.size_extract]; omega
          have hbs : (bs (back m (n - (q + 1)))).size ≤ 600 := by rw [bs_size, back_length m _ (by omega)]; omega
          have HB := hide (back_next m q n hn (by omega))
          clear A1 A2 A3 A4
          generalize bs (back m (n - (q + 1))) = B at HB hbs ⊢
          generalize (bs m).extract (2 * q) (2 * q + 2) = E at HB hes hsl
          have hq6 : 2 * q ≤ 600 := by omega
          generalize hJ : 2 * q = J at *
          have hJ6 : (J : Int) ≤ 600 := by omega
          have HJ := hide hJ
          clear hJ hz hn hms hev hle
          go_wp2_with fail
          go_round
          case rel => exact ⟨q, (J : Int) - 2, by omega, by have := unhide HJ; omega, by go_num, by rw [← unhide HB]⟩
          case measure => simp [intOf]; omega

theorem walk (t : ByteArray) (x : Int) (w : World) (_ : t.size ≤ maxLen) (_ : -9223372036854775808 ≤ x) (_ : x ≤ 9223372036854775807) :
    Calls Tryd.prog 7 #[.string t, .int .i64 x] w fun e w' => e = .returned (.bool true) ∧ Below w.heap.size w w' := by
  obtain ⟨l, hl, h⟩ := shortened t
  exact walk_short t l x w hl h

set_option maxRecDepth 100000 in
theorem lifted (os : Os) (started : os.Started) (H : Type) (enc : TypeId × Value → H) :
    ReturnsInHanded {} Tryd.checked os 7 .any (fun w args => (Rows.csumOrderSpec.pre enc Tryd.prog Tryd.f7 [] false w args ∧ laidMetH Tryd.prog [("errors.errorType", Rows.laid_errors_errorType)] w) ∧ sizedMet enc Tryd.prog Tryd.f7 (OpenSpec.ofChange Rows.csumOrderSpec) false w args)
      (Rows.csumOrderSpec.post enc Tryd.prog Tryd.f7 false true false false) := by
  refine returnsInHanded_of_change_and (C := Tryd.checked) (X := fun w _ => laidMetH Tryd.prog [("errors.errorType", Rows.laid_errors_errorType)] w) (fun _ _ _ hh h => h.of_heap hh) own started (by kernel_rfl) Tryd.func7
    (ChangeSpec.witness_at (enc := enc) (C := Tryd.checked) (os := os) (X := fun w _ => laidMetH Tryd.prog [("errors.errorType", Rows.laid_errors_errorType)] w) false
      { World.holding Tryd.prog os ⟨#[], #[], []⟩ with heap := (World.holding Tryd.prog os ⟨#[], #[], []⟩).heap.modify 0 fun
        | .cells _ t frozen => .cells #[.iface 68 (.agg #[.pointer (some ⟨1, 47, none⟩)])] t frozen
        | o => o } #[.string ByteArray.empty, .int .i64 0] 8 rfl (by kernel_rfl) (by kernel_rfl) (by kernel_rfl) (by kernel_rfl) (by kernel_rfl) (laid_met os _)) ?_
  intro W base args ds gs before hval0 hW _ _ _ _
  have hval : ∀ (j : Nat) t v, Tryd.f7.params[j]? = some t → args[j]? = some v → Value.okWide Tryd.prog W .any base t v := hval0
  have hW' := hW
  obtain ⟨p, q, hA0, hV0, rfl, hfz, hnd⟩ := hW
  have hA : DataW.TrodAll enc Tryd.prog W 0 (fun _ => true) true Tryd.f7.params.toList args.toList ds p := hA0
  have hV : DataW.TrodVars enc Tryd.prog W (fun _ => true) [] gs q := hV0
  rw [Tryd.params7] at hA hval
  obtain ⟨v0, v1, d0, d1, p0, p1, rfl, rfl, rfl, h0, h1⟩ := trodAll_two hA
  obtain ⟨a0, rfl, rfl, rfl, w0⟩ := open_string Tryd.underlying9 (hval 0 9 v0 rfl rfl) h0
  obtain ⟨a1, rfl, rfl, rfl, w1⟩ := open_int Tryd.underlying3 (hval 1 3 v1 rfl rfl) h1
  have b1 := bounds_i64 w1
  obtain ⟨rfl, rfl⟩ := trodVars_none hV
  have e1 : Rows.csumOrderSpec.fn H ([.lit (.string a0.data.toList), .lit (.int .i64 a1)] ++ []) = { results := [.lit (.bool true)], args := [.lit (.string a0.data.toList), .lit (.int .i64 a1)] } := by simp [Rows.csumOrderSpec]
  refine (walk a0 a1 W w0 (by omega) (by omega)).mono fun e W' ⟨he, hb⟩ => ?_
  subst he
  refine ⟨_, rfl, _, _, _, [], [], [], hW', ?_, ?_, ?_, hb.frame _, fun h => by cases h⟩
  · rw [e1]; exact trodAll_mk1 (shut_bool Tryd.underlying4 true)
  · rw [e1]; exact trodAll_mk2 (shut_string Tryd.underlying9 w0) (shut_int Tryd.underlying3 w1)
  · rw [e1]; rfl

theorem said : Rows.CsumOrderSaid :=
  OpenClaim.holds_of_wide 7 Tryd.f7 rfl rfl rfl rfl rfl rfl rfl ⟨rfl, rfl, rfl, rfl, rfl⟩ rfl rfl rfl rfl rfl (by kernel_rfl) Tryd.func7 (by kernel_rfl)
    (of_decide_eq_true (by kernel_rfl)) (by unfold Func.isWrapper; rw [if_neg (of_decide_eq_false (by kernel_rfl))]; exact ⟨rfl, rfl⟩)
    (fun os started H enc _ => lifted os started H enc)

theorem plain (f : FuncId) (fn : Func) (hf : Tryd.pinned.checked.prog.funcNamed Rows.csumOrderRow.func = some f) (hfn : Tryd.pinned.checked.prog.funcs[f]? = some fn) :
    true = Tryd.pinned.checked.prog.looks [] ∧ ∀ (j : Nat) t, fn.params[j]? = some t → Tryd.pinned.checked.prog.wantsStandIn t = false := by
  obtain rfl : f = 7 := Option.some.inj ((show Tryd.prog.funcNamed Rows.csumOrderRow.func = some 7 by kernel_rfl).symm.trans hf) |>.symm
  obtain rfl : fn = Tryd.f7 := (Option.some.inj (Tryd.func7.symm.trans hfn)).symm
  refine ⟨by kernel_rfl, fun j t ht => ?_⟩
  rw [Tryd.params7] at ht
  have hm := Array.mem_of_getElem? ht
  simp only [List.mem_toArray, List.mem_cons, List.not_mem_nil, or_false] at hm
  rcases hm with rfl | rfl
  · exact (show Tryd.prog.wantsStandIn 9 = false by kernel_rfl)
  · exact (show Tryd.prog.wantsStandIn 3 = false by kernel_rfl)

theorem card : Rows.CsumOrderCardSaid :=
  Claim7.holds_tied_plain_at .later [] _ _ _ _ said (fun _ h => by cases h) (by kernel_rfl) (fun _ h => by cases h) csumOrder_row_tie rfl ⟨rfl, rfl⟩ (by kernel_rfl) rfl plain (by kernel_rfl)
end Go.Proofs.YtaacmohlmdkigaaDoor.csumOrder
namespace Go.Proofs.YtaacmohlmdkigaaDoor
theorem csumOrder_card_holds : Rows.CsumOrderCardSaid := csumOrder.card
end Go.Proofs.YtaacmohlmdkigaaDoor

