/-
  gangwaylaw05.ArpBytes answers true, for every message.
-/
import Derived.Test.YtffgdkcfemcpoaaDoorRow5
namespace Go.Proofs.YtffgdkcfemcpoaaDoor.arpBytes
open Go.ChangeShapes Go.WideShapes Go.ChangeAt Go.RowKit Go.Sort

set_option maxRecDepth 100000 in
theorem walk_bad (op q i t j k : Int) (w : World) (hk : (k != 0) = true)
    (CB : Hid (∀ W, Calls Tryd.prog 7 #[.agg #[.int .i64 op, .int .u64 q, .int .u32 i, .int .u64 t, .int .u32 j]] W fun e W' => e = .returned (.tuple #[.string ByteArray.empty, .int .i64 k]) ∧ Below W.heap.size W W'))
    (CC : Hid (∀ W, Calls Tryd.prog 12 #[.agg #[.int .i64 op, .int .u64 q, .int .u32 i, .int .u64 t, .int .u32 j]] W fun e W' => e = .returned (.int .i64 k) ∧ Below W.heap.size W W')) :
    Calls Tryd.prog 6 #[.agg #[.int .i64 op, .int .u64 q, .int .u32 i, .int .u64 t, .int .u32 j]] w fun e w' => e = .returned (.bool true) ∧ Below w.heap.size w w' := by
  go_enter Tryd.func6, Tryd.ntmps6
  go_wp2_with fail
  refine (unhide CB _).mono ?_
  rintro e w1 ⟨rfl, b1⟩
  have h1 := bthen (alloc_below w _) b1
  have r1 := Below.row b1 (heap_alloc_new w _)
  obtain ⟨c0, c1, c2, c3, c4, _⟩ := cells5 r1
  clear b1 CB r1
  go_wp2_with fail
  refine (unhide CC _).mono ?_
  rintro e w2 ⟨rfl, b2⟩
  have h2 := bthen h1 b2
  clear b2 CC h1 c0 c1 c2 c3 c4
  go_wp2_with fail
  refine (fixed_true _).mono ?_
  rintro e w6 ⟨rfl, b6⟩
  have h7 := bthen h2 b6
  go_wp2_with fail
  go_ret
  exact ⟨rfl, h7⟩
set_option maxRecDepth 100000 in
set_option maxHeartbeats 4000000 in
theorem walk_good (op q i t j : Int) (S T P Q M : ByteArray) (w : World) (hS : S.size = 28) (hT : T.size = 28)
    (CB : Hid (∀ W, Calls Tryd.prog 7 #[.agg #[.int .i64 op, .int .u64 q, .int .u32 i, .int .u64 t, .int .u32 j]] W fun e W' => e = .returned (.tuple #[.string S, .int .i64 0]) ∧ Below W.heap.size W W'))
    (CB2 : Hid (∀ W, Calls Tryd.prog 7 #[.agg #[.int .i64 op, .int .u64 q, .int .u32 j, .int .u64 t, .int .u32 i]] W fun e W' => e = .returned (.tuple #[.string T, .int .i64 0]) ∧ Below W.heap.size W W'))
    (s0 : (∀ W : World, (Instr.slice 9 (.string S) none (some (.int .i64 6)) none).run Tryd.prog W = .ok (.string ⟨#[0, 1, 8, 0, 6, 4]⟩) W))
    (s1 : (∀ W : World, (Instr.slice 9 (.string S) (some (.int .i64 14)) (some (.int .i64 18)) none).run Tryd.prog W = .ok (.string P) W))
    (s2 : (∀ W : World, (Instr.slice 9 (.string T) (some (.int .i64 24)) (some (.int .i64 28)) none).run Tryd.prog W = .ok (.string P) W))
    (s3 : (∀ W : World, (Instr.slice 9 (.string S) (some (.int .i64 24)) (some (.int .i64 28)) none).run Tryd.prog W = .ok (.string Q) W))
    (s4 : (∀ W : World, (Instr.slice 9 (.string T) (some (.int .i64 14)) (some (.int .i64 18)) none).run Tryd.prog W = .ok (.string Q) W))
    (s5 : (∀ W : World, (Instr.slice 9 (.string S) (some (.int .i64 8)) (some (.int .i64 14)) none).run Tryd.prog W = .ok (.string M) W))
    (s6 : (∀ W : World, (Instr.slice 9 (.string T) (some (.int .i64 8)) (some (.int .i64 14)) none).run Tryd.prog W = .ok (.string M) W)) :
    Calls Tryd.prog 6 #[.agg #[.int .i64 op, .int .u64 q, .int .u32 i, .int .u64 t, .int .u32 j]] w fun e w' => e = .returned (.bool true) ∧ Below w.heap.size w w' := by
  go_enter Tryd.func6, Tryd.ntmps6
  go_wp2_with fail
  refine (unhide CB _).mono ?_
  rintro e w1 ⟨rfl, b1⟩
  have h1 := bthen (alloc_below w _) b1
  have r1 := Below.row b1 (heap_alloc_new w _)
  have k := fun o => cells5 (Below.row (alloc_below w1 o) r1)
  have k2 := fun o => (k o).2.2.1
  have k4 := fun o => (k o).2.2.2.2.1
  obtain ⟨c0, c1, c2, c3, c4, _⟩ := cells5 r1
  clear b1 CB r1 k
  go_wp2_with fail
  refine (unhide CB2 _).mono ?_
  rintro e w2 ⟨rfl, b2⟩
  have h2 := bthen (alloc_then h1) b2
  clear b2 CB2 h1 c0 c1 c2 c3 c4 k2 k4
  have cF := at_grown fixed_true w2
  go_wp2_with fail
  refine wp_region_quiet_below (by kernel_rfl) (by kernel_rfl) ?_
  repeat (go_big_quiet_step (first | (go_at_call 11; exact cF _ _)))
  refine wpQuiet_nil ?_
  rintro _ ⟨⟨dq, osq⟩, rfl⟩
  go_wp2
  go_ret
  exact ⟨rfl, grown_then h2 dq osq⟩
theorem cut_bs (l : List UInt8) (a b n : Nat) (A B : Int) (hA : (a : Int) = A) (hB : (b : Int) = B) (hn : b = a + n) (h : b ≤ l.length) (W : World) :
    (Instr.slice 9 (.string (bs l)) (some (.int .i64 A)) (some (.int .i64 B)) none).run Tryd.prog W = .ok (.string (bs ((l.drop a).take n))) W := by
  subst hA hB hn
  have e := run_slice_string_lh (P := Tryd.prog) W 9 (bs l) Tryd.underlying9 .i64 .i64 (a : Int) ((a + n : Nat) : Int) (by omega) (by omega) (by rw [bs_size]; omega)
  rw [e, show ((a : Int)).toNat = a by omega, show (((a + n : Nat) : Int)).toNat = a + n by omega, ← bs_of ((bs l).extract a (a + n)), part_bs]
theorem cut_head (l : List UInt8) (h : 6 ≤ l.length) (W : World) : (Instr.slice 9 (.string (bs l)) none (some (.int .i64 6)) none).run Tryd.prog W = .ok (.string (bs (l.take 6))) W := by
  have e := run_slice_string_h (P := Tryd.prog) W 9 (bs l) Tryd.underlying9 .i64 6 (by omega) (by rw [bs_size]; omega)
  rw [e, show ((6 : Int)).toNat = 6 from rfl, ← bs_of ((bs l).extract 0 6), extract_toList, bs_toList, List.drop_zero]
/-- a message with its two addresses the other way round -/
def swap (a : Ar) : Ar := ⟨a.op, a.smac, a.tip, a.tmac, a.sip⟩
theorem walk (a : Ar) (w : World) (h : a.fits) : Calls Tryd.prog 6 #[a.val] w fun e w' => e = .returned (.bool true) ∧ Below w.heap.size w w' := by
  by_cases c : a.check = 0
  · have hf : (swap a).fits := ⟨h.1, h.2.1, h.2.2.2.2, h.2.2.2.1, h.2.2.1⟩
    have hc : (swap a).check = 0 := c
    have p1 := arp_parts a []
    have p2 := arp_parts (swap a) []
    rw [List.append_nil] at p1 p2
    have l1 := Ar.bytes_length a
    have l2 := Ar.bytes_length (swap a)
    obtain ⟨u0, _, u1, u2, _, u3⟩ := p1
    obtain ⟨_, _, v1, v2, _, v3⟩ := p2
    have s0 := cut_head a.bytes (by omega)
    have s1 := cut_bs a.bytes 14 18 4 14 18 rfl rfl rfl (by omega)
    have s2 := cut_bs (swap a).bytes 24 28 4 24 28 rfl rfl rfl (by omega)
    have s3 := cut_bs a.bytes 24 28 4 24 28 rfl rfl rfl (by omega)
    have s4 := cut_bs (swap a).bytes 14 18 4 14 18 rfl rfl rfl (by omega)
    have s5 := cut_bs a.bytes 8 14 6 8 14 rfl rfl rfl (by omega)
    have s6 := cut_bs (swap a).bytes 8 14 6 8 14 rfl rfl rfl (by omega)
    rw [u0] at s0
    rw [u2] at s1
    rw [v3] at s2
    rw [u3] at s3
    rw [v2] at s4
    rw [u1] at s5
    rw [v1] at s6
    exact walk_good a.op a.smac a.sip a.tmac a.tip (bs a.bytes) (bs (swap a).bytes) _ _ _ w (by rw [bs_size, l1]) (by rw [bs_size, l2]) (hide fun W => arpBuild_ok a W h c) (hide fun W => arpBuild_ok (swap a) W hf hc) s0 s1 s2 s3 s4 s5 s6
  · exact walk_bad a.op a.smac a.sip a.tmac a.tip a.check w (by simpa using c) (hide fun W => arpBuild_bad a W h c) (hide fun W => arpCheck_any a W h)
set_option maxRecDepth 100000 in
theorem lifted (os : Os) (started : os.Started) (H : Type) (enc : TypeId × Value → H) :
    ReturnsInHanded {} Tryd.checked os 6 .any (fun w args => (Rows.arpBytesSpec.pre enc Tryd.prog Tryd.f6 [] false w args ∧ laidMetH Tryd.prog [("errors.errorType", Rows.laid_errors_errorType)] w) ∧ sizedMet enc Tryd.prog Tryd.f6 (OpenSpec.ofChange Rows.arpBytesSpec) false w args)
      (Rows.arpBytesSpec.post enc Tryd.prog Tryd.f6 false true false false) := by
  refine returnsInHanded_of_change_and (C := Tryd.checked) (X := fun w _ => laidMetH Tryd.prog [("errors.errorType", Rows.laid_errors_errorType)] w) (fun _ _ _ hh h => h.of_heap hh) own started (by kernel_rfl) Tryd.func6
    (ChangeSpec.witness_at (enc := enc) (C := Tryd.checked) (os := os) (X := fun w _ => laidMetH Tryd.prog [("errors.errorType", Rows.laid_errors_errorType)] w) false
      { World.holding Tryd.prog os ⟨#[], #[], []⟩ with heap := (World.holding Tryd.prog os ⟨#[], #[], []⟩).heap.modify 0 fun
        | .cells _ t frozen => .cells #[.iface 104 (.agg #[.pointer (some ⟨1, 56, none⟩)])] t frozen
        | o => o } #[.agg #[.int .i64 0, .int .u64 0, .int .u32 0, .int .u64 0, .int .u32 0]] 8 rfl (by kernel_rfl) (by kernel_rfl) (by kernel_rfl) (by kernel_rfl) (by kernel_rfl) (laid_met os _)) ?_
  intro W base args ds gs before hval0 hW _ _ _ _
  have hval : ∀ (j : Nat) t v, Tryd.f6.params[j]? = some t → args[j]? = some v → Value.okWide Tryd.prog W .any base t v := hval0
  have hW' := hW
  obtain ⟨p, q, hA0, hV0, rfl, hfz, hnd⟩ := hW
  have hA : DataW.TrodAll enc Tryd.prog W 0 (fun _ => true) true Tryd.f6.params.toList args.toList ds p := hA0
  have hV : DataW.TrodVars enc Tryd.prog W (fun _ => true) [] gs q := hV0
  rw [Tryd.params6] at hA hval
  obtain ⟨v0, d0, rfl, rfl, h0⟩ := trodAll_one hA
  obtain ⟨a0, rfl, rfl, rfl, hf0, hw0⟩ := open_arp (hval 0 25 v0 rfl rfl) h0
  obtain ⟨rfl, rfl⟩ := trodVars_none hV
  have e1 : Rows.arpBytesSpec.fn H ([arpD a0] ++ []) = { results := [.lit (.bool true)], args := [arpD a0] } := by simp [Rows.arpBytesSpec]
  refine (walk a0 W hf0).mono fun e W' ⟨he, hb⟩ => ?_
  subst he
  refine ⟨_, rfl, _, _, _, [], [], [], hW', ?_, ?_, ?_, hb.frame _, fun h => by cases h⟩
  · rw [e1]; exact trodAll_mk1 (shut_bool Tryd.underlying4 true)
  · rw [e1]; exact trodAll_mk1 (shut_arp a0 hw0)
  · rw [e1]; rfl

theorem said : Rows.ArpBytesSaid :=
  OpenClaim.holds_of_wide 6 Tryd.f6 rfl rfl rfl rfl rfl rfl rfl ⟨rfl, rfl, rfl, rfl, rfl⟩ rfl rfl rfl rfl rfl (by kernel_rfl) Tryd.func6 (by kernel_rfl)
    (of_decide_eq_true (by kernel_rfl)) (by unfold Func.isWrapper; rw [if_neg (of_decide_eq_false (by kernel_rfl))]; exact ⟨rfl, rfl⟩)
    (fun os started H enc _ => lifted os started H enc)

theorem plain (f : FuncId) (fn : Func) (hf : Tryd.pinned.checked.prog.funcNamed Rows.arpBytesRow.func = some f) (hfn : Tryd.pinned.checked.prog.funcs[f]? = some fn) :
    true = Tryd.pinned.checked.prog.looks [] ∧ ∀ (j : Nat) t, fn.params[j]? = some t → Tryd.pinned.checked.prog.wantsStandIn t = false := by
  obtain rfl : f = 6 := Option.some.inj ((show Tryd.prog.funcNamed Rows.arpBytesRow.func = some 6 by kernel_rfl).symm.trans hf) |>.symm
  obtain rfl : fn = Tryd.f6 := (Option.some.inj (Tryd.func6.symm.trans hfn)).symm
  refine ⟨by kernel_rfl, fun j t ht => ?_⟩
  rw [Tryd.params6] at ht
  have hm := Array.mem_of_getElem? ht
  simp only [List.mem_toArray, List.mem_cons, List.not_mem_nil, or_false] at hm
  subst hm
  · exact (show Tryd.prog.wantsStandIn 25 = false by kernel_rfl)

theorem card : Rows.ArpBytesCardSaid :=
  Claim7.holds_tied_plain_at .later [] _ _ _ _ said (fun _ h => by cases h) (by kernel_rfl) (fun _ h => by cases h) arpBytes_row_tie rfl ⟨rfl, rfl⟩ (by kernel_rfl) rfl plain (by kernel_rfl)
end Go.Proofs.YtffgdkcfemcpoaaDoor.arpBytes
namespace Go.Proofs.YtffgdkcfemcpoaaDoor
theorem arpBytes_card_holds : Rows.ArpBytesCardSaid := arpBytes.card
end Go.Proofs.YtffgdkcfemcpoaaDoor
