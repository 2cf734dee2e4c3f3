/-
  AgesLives: what is put is got as long as it lives, and not a moment longer; put again it lives anew. No condition.
-/
import Derived.Test.YtppfhbcfmekdoaaFixed10
import Derived.Test.YtppfhbcfmekdoaaMask10
import Derived.Test.YtppfhbcfmekdoaaRow10
namespace Go.Proofs.Ytppfhbcfmekdoaa.agesLives
open Go.ChangeShapes Go.WideShapes Go.ChangeAt Go.RowKit Go.Deep Go.Sort

theorem time_ok (t : Int) (h0 : 0 ≤ t) (h1 : t ≤ 1099511627776) : timeB t = true := by simp [timeB, h0, h1]
theorem put_first (life key val t : Int) (h0 : 0 ≤ t) (h1 : t ≤ 1099511627776) : putP 4 life [] ⟨key, val, t, false⟩ = (0, [⟨key, val, t, false⟩]) := by
  unfold putP
  simp only [time_ok t h0 h1, if_true]
  rfl
theorem put_again (life key val val2 t t2 : Int) (h0 : 0 ≤ t2) (h1 : t2 ≤ 1099511627776) : putP 4 life [⟨key, val, t, false⟩] ⟨key, val2, t2, false⟩ = (0, [⟨key, val2, t2, false⟩]) := by
  unfold putP
  simp only [time_ok t2 h0 h1, if_true, look, List.find?_cons, beq_self_eq_true]
  simp [ins]
theorem told_live (life key val t now : Int) (h0 : 0 ≤ now) (h1 : now ≤ 1099511627776) (h : now < t + life) : told life now (look [⟨key, val, t, false⟩] key) = some ⟨key, val, t, false⟩ := by
  simp [told, look, time_ok now h0 h1, oldE, h]
theorem told_gone (life key val t now : Int) (h : t + life ≤ now) : told life now (look [⟨key, val, t, false⟩] key) = none := by
  simp [told, look, oldE, h]
theorem exp_gone (life key val t now : Int) (h0 : 0 ≤ now) (h1 : now ≤ 1099511627776) (h : t + life ≤ now) : expP life now [⟨key, val, t, false⟩] = [] := by
  simp [expP, time_ok now h0 h1, kept, oldE, h]
set_option maxHeartbeats 2000000 in
set_option maxRecDepth 100000 in
theorem walk (a b key val : Int) (w : World) (hk : 0 ≤ key ∧ key < 18446744073709551616) (hv : 0 ≤ val ∧ val < 18446744073709551616) :
    Calls Try.prog 6 #[.agg #[.int .i64 a, .int .i64 b], .int .u64 key, .int .u64 val] w fun e w' => e = .returned (.bool true) ∧ Below w.heap.size w w' := by
  have ha := i64_and30 a
  have hb := i64_and31 b
  obtain ⟨t, ht⟩ : ∃ t, a % 1073741824 = t := ⟨_, rfl⟩
  obtain ⟨l, hl⟩ : ∃ l, b % 32 = l := ⟨_, rfl⟩
  have t0 : 0 ≤ t := by omega
  have t1 : t < 1073741824 := by omega
  have l0 : 0 ≤ l := by omega
  have l1 : l < 32 := by omega
  rw [ht] at ha
  rw [hl] at hb
  clear ht hl
  obtain ⟨li, hli⟩ : ∃ li, 1 + l = li := ⟨_, rfl⟩
  obtain ⟨v1, hv1⟩ : ∃ v1, IntKind.u64.wrap (val + 1) = v1 := ⟨_, rfl⟩
  have hv2 : (val + 1) % 18446744073709551616 = v1 := by rw [← hv1, IntKind.wrap_u64]
  have v10 : 0 ≤ v1 ∧ v1 < 18446744073709551616 := by omega
  have li0 : 1 ≤ li := by omega
  have li1 : li ≤ 32 := by omega
  have b0 := alloc_below w (.cells #[.int .i64 a, .int .i64 b] 23)
  have r0 := hide (heap_alloc_new w (.cells #[.int .i64 a, .int .i64 b] 23))
  have C0 := hide (has_new (w := w) 4 li b0 (by unfold newOk; omega))
  have C1 := hide (fun g W h => has_put (w := w) (W := W) (g := g) (room := 4) (life := li) (L := []) key val t h hk hv)
  have C2 := hide (fun g W h => has_get (w := w) (W := W) (g := g) (room := 4) (life := li) (L := [⟨key, val, t, false⟩]) key t h)
  have C3 := hide (fun g W h => has_get (w := w) (W := W) (g := g) (room := 4) (life := li) (L := [⟨key, val, t, false⟩]) key (t + li - 1) h)
  have C4 := hide (fun g W h => has_get (w := w) (W := W) (g := g) (room := 4) (life := li) (L := [⟨key, val, t, false⟩]) key (t + li) h)
  have C5 := hide (fun g W h => has_put (w := w) (W := W) (g := g) (room := 4) (life := li) (L := [⟨key, val, t, false⟩]) key v1 (t + li - 1) h hk v10)
  have C6 := hide (fun g W h => has_get (w := w) (W := W) (g := g) (room := 4) (life := li) (L := [⟨key, v1, t + li - 1, false⟩]) key (t + 2 * li - 2) h)
  have C7 := hide (fun g W h => has_expire (w := w) (W := W) (g := g) (room := 4) (life := li) (L := [⟨key, v1, t + li - 1, false⟩]) (t + 2 * li - 1) h)
  have C8 := hide (fun g W h => has_entries (w := w) (W := W) (g := g) (room := 4) (life := li) (L := []) h)
  have CF := hide (fun W => fixed_any W)
  rw [put_first li key val t t0 (by omega)] at C1
  rw [told_live li key val t t t0 (by omega) (by omega)] at C2
  rw [told_live li key val t (t + li - 1) (by omega) (by omega) (by omega)] at C3
  rw [told_gone li key val t (t + li) (by omega)] at C4
  rw [put_again li key val v1 t (t + li - 1) (by omega) (by omega)] at C5
  rw [told_live li key v1 (t + li - 1) (t + 2 * li - 2) (by omega) (by omega) (by omega)] at C6
  rw [exp_gone li key v1 (t + li - 1) (t + 2 * li - 1) (by omega) (by omega) (by omega)] at C7
  simp only [entO, Ent.ent, noEnt] at C2 C3 C4 C6
  clear b0 hk hv v10
  go_enter Try.func6, Try.ntmps6
  go_wp2_with fail
  refine (unhide C0).mono ?_
  rintro e w1 ⟨rfl, h1, b1⟩
  have H1 := hide h1
  have c1 := cells2 (Below.row b1 (unhide r0))
  generalize (w.alloc (.cells #[.int .i64 a, .int .i64 b] 23)).heap.size = g at *
  clear h1 b1 C0 r0
  go_wp2_with fail
  refine (unhide C1 _ _ (unhide H1)).mono ?_
  rintro e w2 ⟨rfl, h2, _⟩
  have H2 := hide h2
  clear h2 H1 C1 c1
  go_wp2_with fail
  refine (unhide C2 _ _ (unhide H2)).mono ?_
  rintro e w3 ⟨rfl, b3⟩
  have H3 := hide (((unhide H2).below b3).below (alloc_below w3 (.cells #[.int .u64 key, .int .u64 val, .int .i64 t, .bool false] 41)))
  have r3 := hide (heap_alloc_new w3 (.cells #[.int .u64 key, .int .u64 val, .int .i64 t, .bool false] 41))
  clear b3 H2 C2
  go_wp2_with fail
  refine (unhide C3 _ _ (unhide H3)).mono ?_
  rintro e w4 ⟨rfl, b4⟩
  have H4 := hide (((unhide H3).below b4).below (alloc_below w4 (.cells #[.int .u64 key, .int .u64 val, .int .i64 t, .bool false] 41)))
  have r4 := hide (Below.row (alloc_below w4 (.cells #[.int .u64 key, .int .u64 val, .int .i64 t, .bool false] 41)) (Below.row b4 (unhide r3)))
  clear b4 H3 C3 r3
  generalize w3.heap.size = X at *
  go_wp2_with fail
  refine (unhide C4 _ _ (unhide H4)).mono ?_
  rintro e w5 ⟨rfl, b5⟩
  have H5 := hide (((unhide H4).below b5).below (alloc_below w5 (.cells #[.int .u64 0, .int .u64 0, .int .i64 0, .bool false] 41)))
  have r5 := hide (Below.row (alloc_below w5 (.cells #[.int .u64 0, .int .u64 0, .int .i64 0, .bool false] 41)) (Below.row b5 (unhide r4)))
  clear b5 H4 C4 r4
  go_wp2_with fail
  refine (unhide C5 _ _ (unhide H5)).mono ?_
  rintro e w6 ⟨rfl, h6, s6⟩
  have H6 := hide h6
  have r6 := hide (s6 _ _ _ _ (by decide) (by decide) (unhide r5))
  clear h6 s6 H5 C5 r5
  go_wp2_with fail
  refine (unhide C6 _ _ (unhide H6)).mono ?_
  rintro e w7 ⟨rfl, b7⟩
  have H7 := hide (((unhide H6).below b7).below (alloc_below w7 (.cells #[.int .u64 key, .int .u64 v1, .int .i64 (t + li - 1), .bool false] 41)))
  have c7 := cells4 (Below.row (alloc_below w7 (.cells #[.int .u64 key, .int .u64 v1, .int .i64 (t + li - 1), .bool false] 41)) (Below.row b7 (unhide r6)))
  clear b7 H6 C6 r6
  go_wp2_with fail
  refine (unhide C7 _ _ (unhide H7)).mono ?_
  rintro e w8 ⟨rfl, h8, _⟩
  have H8 := hide h8
  clear h8 H7 C7 c7
  go_wp2_with fail
  refine (unhide C8 _ _ (unhide H8)).mono ?_
  rintro e w9 ⟨rfl, _, b9⟩
  have H9 := hide ((unhide H8).below b9)
  clear b9 H8 C8
  go_wp2_with fail
  refine (unhide CF _).mono ?_
  rintro e w10 ⟨rfl, b10⟩
  have H10 := hide ((unhide H9).below b10)
  clear b10 H9 CF
  go_wp2_with fail
  go_ret
  exact ⟨rfl, (unhide H10).1⟩
set_option maxRecDepth 100000 in
theorem lifted (os : Os) (started : os.Started) (H : Type) (enc : TypeId × Value → H) :
    ReturnsInHanded {} Try.checked os 6 .any (Rows.agesLivesSpec.pre6 enc Try.prog Try.f6 Rows.agesLivesRow.domain false) (Rows.agesLivesSpec.post enc Try.prog Try.f6 false true false false) := by
  refine returnsInHanded_of_change (C := Try.checked) own started (by kernel_rfl) Try.func6
    (ChangeSpec.witness6 (enc := enc) (C := Try.checked) false ⟨#[], #[.agg #[.int .i64 0, .int .i64 0], .int .u64 0, .int .u64 0], []⟩ 8 (by kernel_rfl) (by kernel_rfl) (by kernel_rfl) (by kernel_rfl)) ?_
  intro W base args ds gs before hval0 hW _ _
  have hval : ∀ (j : Nat) t v, Try.f6.params[j]? = some t → args[j]? = some v → Value.okWide Try.prog W .any base t v := hval0
  have hW' := hW
  obtain ⟨p, q, hA0, hV, rfl, hfz, hnd⟩ := hW
  have hA : DataW.TrodAll enc Try.prog W 0 (fun _ => true) true Try.f6.params.toList args.toList ds p := hA0
  rw [Try.params6] at hA hval
  obtain ⟨v0, v1, v2, d0, d1, d2, p0, p1, p2, rfl, rfl, rfl, h0, h1, h2⟩ := trodAll_three hA
  obtain ⟨a0, c0, rfl, rfl, rfl, w0, x0⟩ := open_size (hval 0 23 v0 rfl rfl) h0
  obtain ⟨a1, rfl, rfl, rfl, w1⟩ := open_int Try.underlying29 (hval 1 29 v1 rfl rfl) h1
  have b1 := bnd_u64 w1
  obtain ⟨a2, rfl, rfl, rfl, w2⟩ := open_int Try.underlying29 (hval 2 29 v2 rfl rfl) h2
  have b2 := bnd_u64 w2
  obtain ⟨rfl, rfl⟩ := trodVars_none hV
  have e1 : Rows.agesLivesSpec.fn H ([sizeD a0 c0, .lit (.int .u64 a1), .lit (.int .u64 a2)] ++ []) = { results := [.lit (.bool true)], args := [sizeD a0 c0, .lit (.int .u64 a1), .lit (.int .u64 a2)] } := by simp [Rows.agesLivesSpec]
  refine (walk a0 c0 a1 a2 W b1 b2).mono fun e W' ⟨he, hb⟩ => ?_
  subst he
  refine ⟨_, rfl, _, _, _, [], [], [], hW', ?_, ?_, ?_, hb.frame _, fun h => by cases h⟩
  · rw [e1]; exact trodAll_mk1 (shut_bool Try.underlying4 true)
  · rw [e1]; exact trodAll_mk3 (shut_size a0 c0 w0 x0) (shut_int Try.underlying29 w1) (shut_int Try.underlying29 w2)
  · rw [e1]; rfl
theorem said : Rows.AgesLivesSaid :=
  OpenClaim.holds_of_wide 6 Try.f6 rfl rfl rfl rfl rfl rfl rfl ⟨rfl, rfl, rfl, rfl, rfl⟩ rfl rfl rfl rfl rfl (by kernel_rfl) Try.func6 (by kernel_rfl)
    (of_decide_eq_true (by kernel_rfl)) (by unfold Func.isWrapper; rw [if_neg (of_decide_eq_false (by kernel_rfl))]; exact ⟨rfl, rfl⟩)
    (fun os started H enc _ => lifted os started H enc)
end Go.Proofs.Ytppfhbcfmekdoaa.agesLives
namespace Go.Proofs.Ytppfhbcfmekdoaa
theorem agesLives_holds : Rows.AgesLivesSaid := agesLives.said
end Go.Proofs.Ytppfhbcfmekdoaa
