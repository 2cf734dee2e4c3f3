/-
  AgesOldest: a full table loses the one that was put longest ago, and no other one. No condition.
-/
import Derived.Test.YtppfhbcfmekdoaaFixed10
import Derived.Test.YtppfhbcfmekdoaaAgPlain3
import Derived.Test.YtppfhbcfmekdoaaMask10
import Derived.Test.YtppfhbcfmekdoaaRow10
namespace Go.Proofs.Ytppfhbcfmekdoaa.agesOldest
open Go.ChangeShapes Go.WideShapes Go.ChangeAt Go.RowKit Go.Deep Go.Sort

/-- the entry that is put i-th -/
def ek (key : Int) (i : Nat) : Ent := ⟨(key + i + 1) % 18446744073709551616, 5, i, false⟩
/-- what is there behind k rounds -/
structure Filled (key : Int) (k : Nat) (L : List Ent) : Prop where
  srt : Srt L
  len : L.length = k
  mem : ∀ x, x ∈ L ↔ ∃ i : Nat, i < k ∧ x = ek key i
theorem time_nat (n : Nat) (h : n ≤ 100) : timeB (n : Int) = true := by
  simp [timeB]; omega
theorem kept_all {key : Int} {k n : Nat} {L : List Ent} (h : Filled key k L) (hn : n ≤ 100) : kept (oldE 1000 (n : Int)) L = L := by
  refine kept_none _ L fun x hx => ?_
  obtain ⟨i, _, rfl⟩ := (h.mem x).1 hx
  have : ¬ ((i : Int) + 1000 ≤ (n : Int)) := by omega
  simp [oldE, ek, this]
theorem look_new {key : Int} {k : Nat} {L : List Ent} (h : Filled key k L) (hk : k ≤ 8) : look L (ek key k).key = none := by
  rw [look_none_iff]
  intro x hx
  obtain ⟨i, hi, rfl⟩ := (h.mem x).1 hx
  simp only [ek]
  omega
theorem fill_next {key : Int} {k n : Nat} {L : List Ent} (h : Filled key k L) (hk : k < n) (hn : n ≤ 8) : putP (n : Int) 1000 L (ek key k) = (0, ins (ek key k) L) ∧ Filled key (k + 1) (ins (ek key k) L) := by
  have hl := look_new h (by omega)
  have hr : roomed (n : Int) L = some L := by unfold roomed; rw [if_pos (by rw [h.len]; omega)]
  refine ⟨?_, h.srt.ins _, by rw [len_ins_new h.srt hl, h.len], fun x => ?_⟩
  · unfold putP
    rw [show (ek key k).at_ = (k : Int) from rfl, time_nat k (by omega), if_pos rfl, hl]
    simp only
    rw [kept_all h (by omega)]
    simp only [noted, hl, hr]
    rfl
  · rw [mem_ins_new h.srt hl, h.mem]
    constructor
    · rintro (rfl | ⟨i, hi, rfl⟩)
      · exact ⟨k, by omega, rfl⟩
      · exact ⟨i, by omega, rfl⟩
    · rintro ⟨i, hi, rfl⟩
      by_cases h' : i = k
      · exact .inl (by rw [h'])
      · exact .inr ⟨i, by omega, rfl⟩
theorem full_last {key : Int} {n : Nat} {L : List Ent} (h : Filled key n L) (h2 : 2 ≤ n) (hn : n ≤ 8) :
    ∃ L', putP (n : Int) 1000 L ⟨key, 6, n, false⟩ = (0, L') ∧ L'.length = n ∧ told 1000 (n : Int) (look L' (ek key 0).key) = none ∧ told 1000 (n : Int) (look L' (ek key 1).key) = some (ek key 1) ∧ told 1000 (n : Int) (look L' key) = some ⟨key, 6, n, false⟩ := by
  have hl : look L key = none := by
    rw [look_none_iff]
    intro x hx
    obtain ⟨i, hi, rfl⟩ := (h.mem x).1 hx
    simp only [ek]
    omega
  have h0 : ek key 0 ∈ L := (h.mem _).2 ⟨0, by omega, rfl⟩
  have ho : oldest L = some (ek key 0) := by
    cases ho : oldest L with
    | none =>
      have := oldest_none h.srt ho _ h0
      simp [ek] at this
    | some c =>
      have hc := oldest_least h.srt ho
      have := hc.2.2 _ h0 rfl
      obtain ⟨i, hi, rfl⟩ := (h.mem c).1 hc.1
      have hi0 : i = 0 := by simp only [ek] at this; omega
      rw [hi0]
  have hr : roomed (n : Int) L = some (del L (ek key 0).key) := by unfold roomed; rw [if_neg (by rw [h.len]; omega), ho]
  have hs : Srt (del L (ek key 0).key) := h.srt.filter _
  have hld : look (del L (ek key 0).key) key = none := look_del hl
  have hlen : (del L (ek key 0).key).length + 1 = L.length := del_len h.srt h0
  have hsi := hs.ins ⟨key, 6, n, false⟩
  refine ⟨ins ⟨key, 6, n, false⟩ (del L (ek key 0).key), ?_, ?_, ?_, ?_, ?_⟩
  · unfold putP
    simp only
    rw [time_nat n (by omega), if_pos rfl, hl]
    simp only
    rw [kept_all h (by omega)]
    simp only [noted, hl, hr]
    rfl
  · rw [len_ins_new hs hld]; have := h.len; omega
  · have : look (ins ⟨key, 6, n, false⟩ (del L (ek key 0).key)) (ek key 0).key = none := by
      rw [look_none_iff]
      intro x hx
      rw [mem_ins_new hs hld] at hx
      rcases hx with rfl | hx
      · simp only [ek]; omega
      · exact (mem_del.1 hx).2
    rw [this]; rfl
  · have : look (ins ⟨key, 6, n, false⟩ (del L (ek key 0).key)) (ek key 1).key = some (ek key 1) := by
      rw [look_iff hsi, mem_ins_new hs hld, mem_del]
      refine ⟨.inr ⟨(h.mem _).2 ⟨1, by omega, rfl⟩, ?_⟩, rfl⟩
      simp only [ek]; omega
    rw [this]
    simp [told, time_nat n (by omega), oldE, ek]; omega
  · have : look (ins ⟨key, 6, n, false⟩ (del L (ek key 0).key)) key = some ⟨key, 6, n, false⟩ := by
      rw [look_iff hsi, mem_ins_new hs hld]
      exact ⟨.inl rfl, rfl⟩
    rw [this]
    have : (n : Int) < (n : Int) + 1000 := by omega
    simp [told, time_nat n (by omega), oldE, this]
set_option maxHeartbeats 2000000 in
set_option maxRecDepth 100000 in
theorem walk (a key : Int) (w : World) (hk : 0 ≤ key ∧ key < 18446744073709551616) :
    Calls Try.prog 8 #[.int .i64 a, .int .u64 key] w fun e w' => e = .returned (.bool true) ∧ Below w.heap.size w w' := by
  have ha := i64_and16 a
  obtain ⟨m, hm⟩ : ∃ m, a % 65536 = m := ⟨_, rfl⟩
  have m0 : 0 ≤ m := by omega
  have m1 : m < 65536 := by omega
  rw [hm] at ha
  clear hm
  obtain ⟨q, hq⟩ : ∃ q, m % 7 = q := ⟨_, rfl⟩
  have hq2 : m.tmod 7 = q := by rw [Int.tmod_eq_emod_of_nonneg m0, hq]
  obtain ⟨n, hn⟩ : ∃ n : Nat, 2 + q = (n : Int) := ⟨(2 + q).toNat, by omega⟩
  have n0 : 2 ≤ n := by omega
  have n1 : n ≤ 8 := by omega
  have C0 := hide (has_new (w := w) n 1000 (Below.refl _ w) (by unfold newOk; omega))
  have CF := hide (fun W => fixed_any W)
  have HK := hide hk
  go_enter Try.func8, Try.ntmps8
  go_wp2_with fail
  refine (unhide C0).mono ?_
  rintro e w1 ⟨rfl, h1, b1⟩
  have H1 := hide h1
  generalize w.heap.size = g at H1 ⊢
  clear h1 b1 C0
  go_wp2_with fail
  go_loopw [8] (fun x wr => ∃ k : Nat, x = .int .i64 k ∧ k ≤ n ∧ Hid (∃ L, Filled key k L ∧ Has w g n 1000 L wr)) (fun x _ => n - (intOf x).toNat)
  case atStart => exact ⟨0, rfl, Nat.zero_le _, hide ⟨[], ⟨List.Pairwise.nil, rfl, fun x => ⟨fun h => (by cases h), fun ⟨i, hi, _⟩ => (by omega)⟩⟩, unhide H1⟩⟩
  case round =>
    obtain ⟨k, rfl, hkn, HF⟩ := hrel
    clear H1
    by_cases hlt : k < n
    · obtain ⟨L, hf, hh⟩ := unhide HF
      obtain ⟨p1, e1⟩ : ∃ p1, IntKind.u64.wrap (key + (k : Int)) = p1 := ⟨_, rfl⟩
      obtain ⟨p2, e2⟩ : ∃ p2, IntKind.u64.wrap (p1 + 1) = p2 := ⟨_, rfl⟩
      have hp2 : p2 = (ek key k).key := by
        rw [← e2, ← e1, IntKind.wrap_u64, IntKind.wrap_u64]
        simp only [ek]; omega
      have hp3 : 0 ≤ p2 ∧ p2 < 18446744073709551616 := by rw [← e2, IntKind.wrap_u64]; omega
      have C1 := hide (has_put (w := w) (W := wr) (g := g) (room := n) (life := 1000) (L := L) p2 5 k hh hp3 (by omega))
      have hfn := fill_next hf hlt n1
      rw [show (Ent.mk p2 5 (k : Int) false) = ek key k by rw [hp2]; rfl, hfn.1] at C1
      have hf2 := hide hfn.2
      clear hf hh HF hfn hp2 hp3
      generalize ins (ek key k) L = L2 at *
      go_wp2_with fail
      refine (unhide C1).mono ?_
      rintro e w2 ⟨rfl, h2, _⟩
      have H2 := hide h2
      clear h2 C1
      go_wp2_with fail
      go_roundw
      case rel => exact ⟨k + 1, by go_num, by omega, hide ⟨L2, unhide hf2, unhide H2⟩⟩
      case measure => simp [intOf]; omega
    · obtain rfl : k = n := by omega
      obtain ⟨L, hf, hh⟩ := unhide HF
      obtain ⟨L', f1, f2, f3, f4, f5⟩ := full_last hf n0 n1
      have C1 := hide (has_put (w := w) (W := wr) (g := g) (room := k) (life := 1000) (L := L) key 6 k hh (unhide HK) (by omega))
      rw [f1] at C1
      obtain ⟨p1, e1⟩ : ∃ p1, (ek key 0).key = p1 := ⟨_, rfl⟩
      obtain ⟨p2, e2⟩ : ∃ p2, (ek key 1).key = p2 := ⟨_, rfl⟩
      have e3 : IntKind.u64.wrap (key + 1) = p1 := by rw [IntKind.wrap_u64, ← e1]; simp only [ek]; omega
      have e4 : IntKind.u64.wrap (key + 2) = p2 := by rw [IntKind.wrap_u64, ← e2]; simp only [ek]; omega
      have C2 := hide (fun W h => has_get (w := w) (W := W) (g := g) (room := k) (life := 1000) (L := L') p1 k h)
      have C3 := hide (fun W h => has_get (w := w) (W := W) (g := g) (room := k) (life := 1000) (L := L') p2 k h)
      have C4 := hide (fun W h => has_get (w := w) (W := W) (g := g) (room := k) (life := 1000) (L := L') key k h)
      have C5 := hide (fun W h => has_entries (w := w) (W := W) (g := g) (room := k) (life := 1000) (L := L') h)
      rw [← e1, f3] at C2
      rw [← e2, f4] at C3
      rw [f5] at C4
      rw [f2] at C5
      rw [e1] at C2
      rw [e2] at C3
      simp only [entO, Ent.ent, noEnt, ek] at C2 C3 C4
      clear hf hh HF f1 f2 f3 f4 f5 HK e1 e2
      go_wp2_with fail
      refine (unhide C1).mono ?_
      rintro e w2 ⟨rfl, h2, _⟩
      have H2 := hide h2
      clear h2 C1
      go_wp2_with fail
      refine (unhide C2 _ (unhide H2)).mono ?_
      rintro e w3 ⟨rfl, b3⟩
      have H3 := fun o => hide ((unhide H2).below (alloc_then (o := o) b3))
      clear b3 H2 C2
      go_wp2_with fail
      refine (unhide C3 _ (unhide (H3 _))).mono ?_
      rintro e w4 ⟨rfl, b4⟩
      have H4 := fun o => hide ((unhide (H3 _)).below (alloc_then (o := o) b4))
      clear b4 H3 C3
      go_wp2_with fail
      refine (unhide C4 _ (unhide (H4 _))).mono ?_
      rintro e w5 ⟨rfl, b5⟩
      have H5 := fun o => hide ((unhide (H4 _)).below (alloc_then (o := o) b5))
      clear b5 H4 C4
      go_wp2_with fail
      refine (unhide C5 _ (unhide (H5 _))).mono ?_
      rintro e w6 ⟨rfl, _, b6⟩
      have H6 := hide ((unhide (H5 _)).below b6)
      clear b6 H5 C5
      go_wp2_with fail
      refine (unhide CF _).mono ?_
      rintro e w7 ⟨rfl, b7⟩
      have H7 := hide ((unhide H6).below b7)
      clear b7 H6 CF
      go_wp2_with fail
      go_ret
      exact ⟨rfl, (unhide H7).1⟩
set_option maxRecDepth 100000 in
theorem lifted (os : Os) (started : os.Started) (H : Type) (enc : TypeId × Value → H) :
    ReturnsInHanded {} Try.checked os 8 .any (Rows.agesOldestSpec.pre6 enc Try.prog Try.f8 Rows.agesOldestRow.domain false) (Rows.agesOldestSpec.post enc Try.prog Try.f8 false true false false) := by
  refine returnsInHanded_of_change (C := Try.checked) own started (by kernel_rfl) Try.func8
    (ChangeSpec.witness6 (enc := enc) (C := Try.checked) false ⟨#[], #[.int .i64 0, .int .u64 0], []⟩ 8 (by kernel_rfl) (by kernel_rfl) (by kernel_rfl) (by kernel_rfl)) ?_
  intro W base args ds gs before hval0 hW _ _
  have hval : ∀ (j : Nat) t v, Try.f8.params[j]? = some t → args[j]? = some v → Value.okWide Try.prog W .any base t v := hval0
  have hW' := hW
  obtain ⟨p, q, hA0, hV, rfl, hfz, hnd⟩ := hW
  have hA : DataW.TrodAll enc Try.prog W 0 (fun _ => true) true Try.f8.params.toList args.toList ds p := hA0
  rw [Try.params8] at hA hval
  obtain ⟨v0, v1, d0, d1, p0, p1, rfl, rfl, rfl, h0, h1⟩ := trodAll_two hA
  obtain ⟨a0, rfl, rfl, rfl, w0⟩ := open_int Try.underlying3 (hval 0 3 v0 rfl rfl) h0
  obtain ⟨a1, rfl, rfl, rfl, w1⟩ := open_int Try.underlying29 (hval 1 29 v1 rfl rfl) h1
  have b1 := bnd_u64 w1
  obtain ⟨rfl, rfl⟩ := trodVars_none hV
  have e1 : Rows.agesOldestSpec.fn H ([.lit (.int .i64 a0), .lit (.int .u64 a1)] ++ []) = { results := [.lit (.bool true)], args := [.lit (.int .i64 a0), .lit (.int .u64 a1)] } := by simp [Rows.agesOldestSpec]
  refine (walk a0 a1 W b1).mono fun e W' ⟨he, hb⟩ => ?_
  subst he
  refine ⟨_, rfl, _, _, _, [], [], [], hW', ?_, ?_, ?_, hb.frame _, fun h => by cases h⟩
  · rw [e1]; exact trodAll_mk1 (shut_bool Try.underlying4 true)
  · rw [e1]; exact trodAll_mk2 (shut_int Try.underlying3 w0) (shut_int Try.underlying29 w1)
  · rw [e1]; rfl
theorem said : Rows.AgesOldestSaid :=
  OpenClaim.holds_of_wide 8 Try.f8 rfl rfl rfl rfl rfl rfl rfl ⟨rfl, rfl, rfl, rfl, rfl⟩ rfl rfl rfl rfl rfl (by kernel_rfl) Try.func8 (by kernel_rfl)
    (of_decide_eq_true (by kernel_rfl)) (by unfold Func.isWrapper; rw [if_neg (of_decide_eq_false (by kernel_rfl))]; exact ⟨rfl, rfl⟩)
    (fun os started H enc _ => lifted os started H enc)
end Go.Proofs.Ytppfhbcfmekdoaa.agesOldest
namespace Go.Proofs.Ytppfhbcfmekdoaa
theorem agesOldest_holds : Rows.AgesOldestSaid := agesOldest.said
end Go.Proofs.Ytppfhbcfmekdoaa
