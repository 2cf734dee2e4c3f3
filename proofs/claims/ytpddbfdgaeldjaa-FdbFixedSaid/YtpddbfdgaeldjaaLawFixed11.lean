/-
  FdbFixed: what is fixed is found at all times, is learnt nowhere else, and stays when its target is flushed. No condition.
-/
import Derived.Test.YtpddbfdgaeldjaaFixed11
import Derived.Test.YtpddbfdgaeldjaaRef11
import Derived.Test.YtpddbfdgaeldjaaRow11
namespace Go.Proofs.Ytpddbfdgaeldjaa.fdbFixed
open Go.ChangeShapes Go.WideShapes Go.ChangeAt Go.RowKit Go.Deep Go.Sort

theorem fix_first (key val : Int) : fixP 8 [] ⟨key, val, 0, true⟩ = (0, [⟨key, val, 0, true⟩]) := rfl
theorem told_fix (life key val now : Int) (h : timeB now = true) : told life now (look [⟨key, val, 0, true⟩] key) = some ⟨key, val, 0, true⟩ := by
  simp [told, look, oldE, h]
theorem put_fix (life key val v2 now : Int) (h : timeB now = true) : putP 8 life [⟨key, val, 0, true⟩] ⟨key, v2, now, false⟩ = (100, [⟨key, val, 0, true⟩]) := by
  unfold putP
  simp [h, look]
theorem kept_fix (key val : Int) : kept (hasVal val) [⟨key, val, 0, true⟩] = [⟨key, val, 0, true⟩] := by
  simp [kept, hasVal]
theorem exp_fix (life key val now : Int) : expP life now [⟨key, val, 0, true⟩] = [⟨key, val, 0, true⟩] := by
  simp [expP, kept, oldE]
theorem del_fix (key val : Int) : del [⟨key, val, 0, true⟩] key = [] := by
  simp [del]
theorem is_fix (key val : Int) : (look [⟨key, val, 0, true⟩] key).isSome = true := by
  simp [look]
theorem cells6r {W : World} {g : Nat} {t : TypeId} {a0 a1 a2 a3 a4 a5 : Value} (h : W.heap[g]? = some (.cells #[a0, a1, a2, a3, a4, a5] t (0, 0))) :
    W.cell? ⟨g, 1, none⟩ = some a1 ∧ W.cell? ⟨g, 2, none⟩ = some a2 ∧ W.cell? ⟨g, 3, none⟩ = some a3 ∧ W.cell? ⟨g, 4, none⟩ = some a4 := by
  have c := cells6 h
  exact ⟨c.2.1, c.2.2.1, c.2.2.2.1, c.2.2.2.2.1⟩
set_option maxHeartbeats 1000000 in
set_option maxRecDepth 100000 in
theorem walk_may (o p : Op6) (w : World) (ho : o.ok) (hm : mayB o.vid o.mac = false) : Calls Try.prog 6 #[.agg #[.int .i64 o.kind, .int .i64 o.vid, .int .u64 o.mac, .int .i64 o.tk, .int .u32 o.tn, .int .i64 o.now], .agg #[.int .i64 p.kind, .int .i64 p.vid, .int .u64 p.mac, .int .i64 p.tk, .int .u32 p.tn, .int .i64 p.now]] w fun e w' => e = .returned (.bool true) ∧ Below w.heap.size w w' := by
  have r0 := heap_alloc2_old w (.cells #[.int .i64 o.kind, .int .i64 o.vid, .int .u64 o.mac, .int .i64 o.tk, .int .u32 o.tn, .int .i64 o.now] 44) (.cells #[.int .i64 p.kind, .int .i64 p.vid, .int .u64 p.mac, .int .i64 p.tk, .int .u32 p.tn, .int .i64 p.now] 44)
  have r1 := heap_alloc2_new w (.cells #[.int .i64 o.kind, .int .i64 o.vid, .int .u64 o.mac, .int .i64 o.tk, .int .u32 o.tn, .int .i64 o.now] 44) (.cells #[.int .i64 p.kind, .int .i64 p.vid, .int .u64 p.mac, .int .i64 p.tk, .int .u32 p.tn, .int .i64 p.now] 44)
  have b0 := alloc_then (o := .cells #[.int .i64 p.kind, .int .i64 p.vid, .int .u64 p.mac, .int .i64 p.tk, .int .u32 p.tn, .int .i64 p.now] 44) (alloc_below w (.cells #[.int .i64 o.kind, .int .i64 o.vid, .int .u64 o.mac, .int .i64 o.tk, .int .u32 o.tn, .int .i64 o.now] 44))
  have CM := hide (fun W => qmay_any o.vid o.mac W ho.1)
  rw [hm] at CM
  have C0 := hide (fnew_ok (w := w) 8 10 3 5 b0 (by unfold keepOk newOk; omega))
  have CX := hide (fun g W => fix_not (vid := o.vid) (mac := o.mac) (k := o.tk) (n := o.tn) g W ho.1 hm)
  have CE := hide (fun g p bb mr v W (h : Fdb w g p bb mr v 3 5 8 10 [] [] W) => places_any W 0 h rfl)
  have CF := hide (fun W => fixed_any W)
  have R0 := hide r0
  clear r0 r1 b0 ho hm
  go_enter Try.func6, Try.ntmps6
  go_wp2_with fail
  refine (unhide C0).mono ?_
  rintro e w1 ⟨g, rfl, ⟨pp, bb, h1⟩, b1, _⟩
  have R1 := hide (Below.row b1 (unhide R0))
  obtain ⟨s1, s2, s3, s4⟩ := cells6r (unhide R1)
  have H1 := hide h1
  clear h1 b1 C0 R0
  go_wp2_with fail
  refine (unhide CM _).mono ?_
  rintro e w2 ⟨rfl, rfl⟩
  go_wp2_with fail
  refine (unhide CX _ _).mono ?_
  rintro e w4 ⟨rfl, b4⟩
  have H4 := hide ((unhide H1).below b4)
  clear s1 s2 s3 s4 b4 H1 CX CM
  go_wp2_with fail
  refine (unhide CE _ _ _ _ _ _ (unhide H4)).mono ?_
  rintro e w5 ⟨r5, rfl, b5⟩
  have H5 := hide ((unhide H4).below b5)
  clear b5 H4 CE
  go_wp2_with fail
  refine (unhide CF _).mono ?_
  rintro e w6 ⟨rfl, b6⟩
  have H6 := hide ((unhide H5).below b6)
  clear b6 H5 CF
  go_wp2_with fail
  go_ret
  exact ⟨rfl, (unhide H6).has.1⟩
set_option maxHeartbeats 1000000 in
set_option maxRecDepth 100000 in
theorem walk_tgt (o p : Op6) (w : World) (ho : o.ok) (hm : mayB o.vid o.mac = true) (ht : ¬ Tgt o.tk o.tn) : Calls Try.prog 6 #[.agg #[.int .i64 o.kind, .int .i64 o.vid, .int .u64 o.mac, .int .i64 o.tk, .int .u32 o.tn, .int .i64 o.now], .agg #[.int .i64 p.kind, .int .i64 p.vid, .int .u64 p.mac, .int .i64 p.tk, .int .u32 p.tn, .int .i64 p.now]] w fun e w' => e = .returned (.bool true) ∧ Below w.heap.size w w' := by
  have r0 := heap_alloc2_old w (.cells #[.int .i64 o.kind, .int .i64 o.vid, .int .u64 o.mac, .int .i64 o.tk, .int .u32 o.tn, .int .i64 o.now] 44) (.cells #[.int .i64 p.kind, .int .i64 p.vid, .int .u64 p.mac, .int .i64 p.tk, .int .u32 p.tn, .int .i64 p.now] 44)
  have r1 := heap_alloc2_new w (.cells #[.int .i64 o.kind, .int .i64 o.vid, .int .u64 o.mac, .int .i64 o.tk, .int .u32 o.tn, .int .i64 o.now] 44) (.cells #[.int .i64 p.kind, .int .i64 p.vid, .int .u64 p.mac, .int .i64 p.tk, .int .u32 p.tn, .int .i64 p.now] 44)
  have b0 := alloc_then (o := .cells #[.int .i64 p.kind, .int .i64 p.vid, .int .u64 p.mac, .int .i64 p.tk, .int .u32 p.tn, .int .i64 p.now] 44) (alloc_below w (.cells #[.int .i64 o.kind, .int .i64 o.vid, .int .u64 o.mac, .int .i64 o.tk, .int .u32 o.tn, .int .i64 o.now] 44))
  have CM := hide (fun W => qmay_any o.vid o.mac W ho.1)
  rw [hm] at CM
  have CT := hide (fun W => qTarget_any o.tk o.tn false W ho.2.1 ⟨fun h => (by cases h), fun q => absurd q ht⟩)
  have C0 := hide (fnew_ok (w := w) 8 10 3 5 b0 (by unfold keepOk newOk; omega))
  have CX := hide (fun g W => tgt_not (vid := o.vid) (mac := o.mac) (k := o.tk) (n := o.tn) g W ho.1 ho.2.1 hm ht)
  have CE := hide (fun g p bb mr v W (h : Fdb w g p bb mr v 3 5 8 10 [] [] W) => places_any W 0 h rfl)
  have CF := hide (fun W => fixed_any W)
  have R0 := hide r0
  clear r0 r1 b0 ho hm ht
  go_enter Try.func6, Try.ntmps6
  go_wp2_with fail
  refine (unhide C0).mono ?_
  rintro e w1 ⟨g, rfl, ⟨pp, bb, h1⟩, b1, _⟩
  have R1 := hide (Below.row b1 (unhide R0))
  obtain ⟨s1, s2, s3, s4⟩ := cells6r (unhide R1)
  have H1 := hide h1
  clear h1 b1 C0 R0
  go_wp2_with fail
  refine (unhide CM _).mono ?_
  rintro e w2 ⟨rfl, rfl⟩
  go_wp2_with fail
  refine (unhide CT _).mono ?_
  rintro e w3 ⟨rfl, b3⟩
  have R3 := hide (Below.row b3 (unhide R1))
  have H3 := hide ((unhide H1).below b3)
  clear s1 s2 s3 s4 b3 H1 R1
  obtain ⟨s1, s2, s3, s4⟩ := cells6r (unhide R3)
  go_wp2_with fail
  refine (unhide CX _ _).mono ?_
  rintro e w4 ⟨rfl, b4⟩
  have H4 := hide ((unhide H3).below b4)
  clear s1 s2 s3 s4 b4 H3 CX CM
  go_wp2_with fail
  refine (unhide CE _ _ _ _ _ _ (unhide H4)).mono ?_
  rintro e w5 ⟨r5, rfl, b5⟩
  have H5 := hide ((unhide H4).below b5)
  clear b5 H4 CE
  go_wp2_with fail
  refine (unhide CF _).mono ?_
  rintro e w6 ⟨rfl, b6⟩
  have H6 := hide ((unhide H5).below b6)
  clear b6 H5 CF
  go_wp2_with fail
  go_ret
  exact ⟨rfl, (unhide H6).has.1⟩
set_option maxHeartbeats 2000000 in
set_option maxRecDepth 100000 in
theorem walk_fix1 (o p : Op6) (w : World) (ho : o.ok) (hp : p.ok) (hm : mayB o.vid o.mac = true) (ht : Tgt o.tk o.tn) (hq : Tgt p.tk p.tn) : Calls Try.prog 6 #[.agg #[.int .i64 o.kind, .int .i64 o.vid, .int .u64 o.mac, .int .i64 o.tk, .int .u32 o.tn, .int .i64 o.now], .agg #[.int .i64 p.kind, .int .i64 p.vid, .int .u64 p.mac, .int .i64 p.tk, .int .u32 p.tn, .int .i64 p.now]] w fun e w' => e = .returned (.bool true) ∧ Below w.heap.size w w' := by
  have r0 := heap_alloc2_old w (.cells #[.int .i64 o.kind, .int .i64 o.vid, .int .u64 o.mac, .int .i64 o.tk, .int .u32 o.tn, .int .i64 o.now] 44) (.cells #[.int .i64 p.kind, .int .i64 p.vid, .int .u64 p.mac, .int .i64 p.tk, .int .u32 p.tn, .int .i64 p.now] 44)
  have r1 := heap_alloc2_new w (.cells #[.int .i64 o.kind, .int .i64 o.vid, .int .u64 o.mac, .int .i64 o.tk, .int .u32 o.tn, .int .i64 o.now] 44) (.cells #[.int .i64 p.kind, .int .i64 p.vid, .int .u64 p.mac, .int .i64 p.tk, .int .u32 p.tn, .int .i64 p.now] 44)
  have b0 := alloc_then (o := .cells #[.int .i64 p.kind, .int .i64 p.vid, .int .u64 p.mac, .int .i64 p.tk, .int .u32 p.tn, .int .i64 p.now] 44) (alloc_below w (.cells #[.int .i64 o.kind, .int .i64 o.vid, .int .u64 o.mac, .int .i64 o.tk, .int .u32 o.tn, .int .i64 o.now] 44))
  have CM := hide (fun W => qmay_any o.vid o.mac W ho.1)
  rw [hm] at CM
  have CT := hide (fun W => qTarget_any o.tk o.tn true W ho.2.1 ⟨fun _ => ht, fun _ => rfl⟩)
  have C0 := hide (fnew_ok (w := w) 8 10 3 5 b0 (by unfold keepOk newOk; omega))
  obtain ⟨key, hkey⟩ : ∃ key, o.vid * 281474976710656 + o.mac = key := ⟨_, rfl⟩
  obtain ⟨val, hval⟩ : ∃ val, o.tk * 4294967296 + o.tn = val := ⟨_, rfl⟩
  have hd : val / 4294967296 = o.tk ∧ val % 4294967296 = o.tn := by
    have := tgt_rng ht
    have := ho.2
    omega
  have CX := hide (fun g pp bb mr v W (h : Fdb w g pp bb mr v 3 5 8 10 [] [] W) => fix_yes (vid := o.vid) (mac := o.mac) (k := o.tk) (n := o.tn) W h ho.1 ho.2 hm ht (by rw [hkey, hval, fix_first key val]))
  have CL := hide (fun g pp bb mr v W (h : Fdb w g pp bb mr v 3 5 8 10 [⟨key, val, 0, true⟩] [] W) => learn_fixed (vid := o.vid) (mac := o.mac) (k := p.tk) (n := p.tn) (now := 5) W h ho.1 hp.2 hm hq hkey rfl (by rw [told_fix 10 key val 5 rfl]; rfl) (put_fix 10 key val (p.tk * 4294967296 + p.tn) 5 rfl) (by decide))
  have CU := hide (fun g pp bb mr v W (h : Fdb w g pp bb mr v 3 5 8 10 [⟨key, val, 0, true⟩] [] W) => flush_yes (k := o.tk) (n := o.tn) W h ho.2 ht)
  have CI := hide (fun g pp bb mr v W (h : Fdb w g pp bb mr v 3 5 8 10 [⟨key, val, 0, true⟩] [] W) => find_may (vid := o.vid) (mac := o.mac) (now := 1099511627776) W h ho.1 hm)
  have CP := hide (fun g pp bb mr v W (h : Fdb w g pp bb mr v 3 5 8 10 [⟨key, val, 0, true⟩] [] W) => fexpire_none (now := 1099511627776) W h)
  have CG := hide (fun g pp bb mr v W (h : Fdb w g pp bb mr v 3 5 8 10 [⟨key, val, 0, true⟩] [] W) => forget_may (vid := o.vid) (mac := o.mac) W h ho.1 hm)
  rw [hval, kept_fix, Int.sub_self] at CU
  rw [hkey, told_fix 10 key val 1099511627776 rfl] at CI
  rw [exp_fix, Int.sub_self] at CP
  rw [hkey, is_fix, del_fix] at CG
  simp only [foundO, hd.1, hd.2] at CI
  have CE := hide (fun g p bb mr v W (h : Fdb w g p bb mr v 3 5 8 10 [] [] W) => places_any W 0 h rfl)
  have CF := hide (fun W => fixed_any W)
  have EQ := eql_target o.tk o.tk o.tn o.tn
  rw [beq_self_eq_true, beq_self_eq_true] at EQ
  have R0 := hide r0
  have P0 := hide r1
  clear r0 r1 b0 ho hp hm ht hkey hval hd
  go_enter Try.func6, Try.ntmps6
  go_wp2_with fail
  refine (unhide C0).mono ?_
  rintro e w1 ⟨g, rfl, ⟨pp, bb, h1⟩, b1, _⟩
  have R1 := hide (Below.row b1 (unhide R0))
  have P1 := hide (Below.row b1 (unhide P0))
  obtain ⟨s1, s2, s3, s4⟩ := cells6r (unhide R1)
  have H1 := hide h1
  clear h1 b1 C0 R0 P0
  go_wp2_with fail
  refine (unhide CM _).mono ?_
  rintro e w2 ⟨rfl, rfl⟩
  go_wp2_with fail
  refine (unhide CT _).mono ?_
  rintro e w3 ⟨rfl, b3⟩
  have R3 := hide (Below.row b3 (unhide R1))
  have P3 := hide (Below.row b3 (unhide P1))
  have H3 := hide ((unhide H1).below b3)
  clear s1 s2 s3 s4 b3 H1 R1 P1
  obtain ⟨s1, s2, s3, s4⟩ := cells6r (unhide R3)
  go_wp2_with fail
  refine (unhide CX _ _ _ _ _ _ (unhide H3)).mono ?_
  rintro e w4 ⟨rfl, h4, t4⟩
  have R4 := hide (t4 _ _ rfl ((unhide H3).ne (by decide) (unhide R3)) (unhide R3))
  have P4 := hide (t4 _ _ rfl ((unhide H3).ne (by decide) (unhide P3)) (unhide P3))
  have H4 := hide h4
  clear s1 s2 s3 s4 h4 t4 H3 R3 P3 CX
  obtain ⟨s1, s2, s3, s4⟩ := cells6r (unhide R4)
  obtain ⟨y1, y2, y3, y4⟩ := cells6r (unhide P4)
  go_wp2_with fail
  refine (unhide CL _ _ _ _ _ _ (unhide H4)).mono ?_
  rintro e w5 ⟨rfl, h5, t5⟩
  have R5 := hide (t5 _ _ rfl ((unhide H4).ne (by decide) (unhide R4)) (unhide R4))
  have H5 := hide h5
  clear h5 t5
  clear s1 s2 s3 s4 y1 y2 y3 y4 H4 R4 P4 CL
  obtain ⟨s1, s2, s3, s4⟩ := cells6r (unhide R5)
  go_wp2_with fail
  refine (unhide CU _ _ _ _ _ _ (unhide H5)).mono ?_
  rintro e w6 ⟨rfl, h6, t6⟩
  have R6 := hide (t6 _ _ rfl ((unhide H5).ne (by decide) (unhide R5)) (unhide R5))
  have H6 := hide h6
  clear s1 s2 s3 s4 h6 t6 H5 R5 CU
  obtain ⟨s1, s2, s3, s4⟩ := cells6r (unhide R6)
  go_wp2_with fail
  refine (unhide CI _ _ _ _ _ _ (unhide H6)).mono ?_
  rintro e w7 ⟨rfl, b7⟩
  have T7 := bthen b7 (alloc_below w7 (.cells #[.int .i64 o.tk, .int .u32 o.tn] 42))
  have R7 := hide (Below.row T7 (unhide R6))
  have H7 := hide ((unhide H6).below T7)
  have Z7 := hide (heap_alloc_new w7 (.cells #[.int .i64 o.tk, .int .u32 o.tn] 42))
  obtain ⟨z0, z1, _⟩ := cells2 (unhide Z7)
  clear s1 s2 s3 s4 b7 T7 H6 R6 CI
  obtain ⟨s1, s2, s3, s4⟩ := cells6r (unhide R7)
  go_wp2_with fail
  refine (unhide CP _ _ _ _ _ _ (unhide H7)).mono ?_
  rintro e w8 ⟨rfl, h8, t8⟩
  have R8 := hide (t8 _ _ rfl ((unhide H7).ne (by decide) (unhide R7)) (unhide R7))
  have H8 := hide h8
  clear s1 s2 s3 s4 z0 z1 h8 t8 H7 R7 Z7 CP EQ
  obtain ⟨s1, s2, s3, s4⟩ := cells6r (unhide R8)
  go_wp2_with fail
  refine (unhide CG _ _ _ _ _ _ (unhide H8)).mono ?_
  rintro e w9 ⟨rfl, h9, _⟩
  have H9 := hide h9
  clear s1 s2 s3 s4 h9 H8 R8 CG
  go_wp2_with fail
  refine (unhide CE _ _ _ _ _ _ (unhide H9)).mono ?_
  rintro e w10 ⟨r10, rfl, b10⟩
  have H10 := hide ((unhide H9).below b10)
  clear b10 H9 CE
  go_wp2_with fail
  refine (unhide CF _).mono ?_
  rintro e w11 ⟨rfl, b11⟩
  have H11 := hide ((unhide H10).below b11)
  clear b11 H10 CF
  go_wp2_with fail
  go_ret
  exact ⟨rfl, (unhide H11).has.1⟩
set_option maxHeartbeats 2000000 in
set_option maxRecDepth 100000 in
theorem walk_fix2 (o p : Op6) (w : World) (ho : o.ok) (hp : p.ok) (hm : mayB o.vid o.mac = true) (ht : Tgt o.tk o.tn) (hq : ¬ Tgt p.tk p.tn) : Calls Try.prog 6 #[.agg #[.int .i64 o.kind, .int .i64 o.vid, .int .u64 o.mac, .int .i64 o.tk, .int .u32 o.tn, .int .i64 o.now], .agg #[.int .i64 p.kind, .int .i64 p.vid, .int .u64 p.mac, .int .i64 p.tk, .int .u32 p.tn, .int .i64 p.now]] w fun e w' => e = .returned (.bool true) ∧ Below w.heap.size w w' := by
  have r0 := heap_alloc2_old w (.cells #[.int .i64 o.kind, .int .i64 o.vid, .int .u64 o.mac, .int .i64 o.tk, .int .u32 o.tn, .int .i64 o.now] 44) (.cells #[.int .i64 p.kind, .int .i64 p.vid, .int .u64 p.mac, .int .i64 p.tk, .int .u32 p.tn, .int .i64 p.now] 44)
  have r1 := heap_alloc2_new w (.cells #[.int .i64 o.kind, .int .i64 o.vid, .int .u64 o.mac, .int .i64 o.tk, .int .u32 o.tn, .int .i64 o.now] 44) (.cells #[.int .i64 p.kind, .int .i64 p.vid, .int .u64 p.mac, .int .i64 p.tk, .int .u32 p.tn, .int .i64 p.now] 44)
  have b0 := alloc_then (o := .cells #[.int .i64 p.kind, .int .i64 p.vid, .int .u64 p.mac, .int .i64 p.tk, .int .u32 p.tn, .int .i64 p.now] 44) (alloc_below w (.cells #[.int .i64 o.kind, .int .i64 o.vid, .int .u64 o.mac, .int .i64 o.tk, .int .u32 o.tn, .int .i64 o.now] 44))
  have CM := hide (fun W => qmay_any o.vid o.mac W ho.1)
  rw [hm] at CM
  have CT := hide (fun W => qTarget_any o.tk o.tn true W ho.2.1 ⟨fun _ => ht, fun _ => rfl⟩)
  have C0 := hide (fnew_ok (w := w) 8 10 3 5 b0 (by unfold keepOk newOk; omega))
  obtain ⟨key, hkey⟩ : ∃ key, o.vid * 281474976710656 + o.mac = key := ⟨_, rfl⟩
  obtain ⟨val, hval⟩ : ∃ val, o.tk * 4294967296 + o.tn = val := ⟨_, rfl⟩
  have hd : val / 4294967296 = o.tk ∧ val % 4294967296 = o.tn := by
    have := tgt_rng ht
    have := ho.2
    omega
  have CX := hide (fun g pp bb mr v W (h : Fdb w g pp bb mr v 3 5 8 10 [] [] W) => fix_yes (vid := o.vid) (mac := o.mac) (k := o.tk) (n := o.tn) W h ho.1 ho.2 hm ht (by rw [hkey, hval, fix_first key val]))
  have CL := hide (fun g pp bb mr v W (h : Fdb w g pp bb mr v 3 5 8 10 [⟨key, val, 0, true⟩] [] W) => learn_no_target (vid := o.vid) (mac := o.mac) (k := p.tk) (n := p.tn) (now := 5) g W ho.1 hp.2.1 hm hq)
  have CU := hide (fun g pp bb mr v W (h : Fdb w g pp bb mr v 3 5 8 10 [⟨key, val, 0, true⟩] [] W) => flush_yes (k := o.tk) (n := o.tn) W h ho.2 ht)
  have CI := hide (fun g pp bb mr v W (h : Fdb w g pp bb mr v 3 5 8 10 [⟨key, val, 0, true⟩] [] W) => find_may (vid := o.vid) (mac := o.mac) (now := 1099511627776) W h ho.1 hm)
  have CP := hide (fun g pp bb mr v W (h : Fdb w g pp bb mr v 3 5 8 10 [⟨key, val, 0, true⟩] [] W) => fexpire_none (now := 1099511627776) W h)
  have CG := hide (fun g pp bb mr v W (h : Fdb w g pp bb mr v 3 5 8 10 [⟨key, val, 0, true⟩] [] W) => forget_may (vid := o.vid) (mac := o.mac) W h ho.1 hm)
  rw [hval, kept_fix, Int.sub_self] at CU
  rw [hkey, told_fix 10 key val 1099511627776 rfl] at CI
  rw [exp_fix, Int.sub_self] at CP
  rw [hkey, is_fix, del_fix] at CG
  simp only [foundO, hd.1, hd.2] at CI
  have CE := hide (fun g p bb mr v W (h : Fdb w g p bb mr v 3 5 8 10 [] [] W) => places_any W 0 h rfl)
  have CF := hide (fun W => fixed_any W)
  have EQ := eql_target o.tk o.tk o.tn o.tn
  rw [beq_self_eq_true, beq_self_eq_true] at EQ
  have R0 := hide r0
  have P0 := hide r1
  clear r0 r1 b0 ho hp hm ht hkey hval hd
  go_enter Try.func6, Try.ntmps6
  go_wp2_with fail
  refine (unhide C0).mono ?_
  rintro e w1 ⟨g, rfl, ⟨pp, bb, h1⟩, b1, _⟩
  have R1 := hide (Below.row b1 (unhide R0))
  have P1 := hide (Below.row b1 (unhide P0))
  obtain ⟨s1, s2, s3, s4⟩ := cells6r (unhide R1)
  have H1 := hide h1
  clear h1 b1 C0 R0 P0
  go_wp2_with fail
  refine (unhide CM _).mono ?_
  rintro e w2 ⟨rfl, rfl⟩
  go_wp2_with fail
  refine (unhide CT _).mono ?_
  rintro e w3 ⟨rfl, b3⟩
  have R3 := hide (Below.row b3 (unhide R1))
  have P3 := hide (Below.row b3 (unhide P1))
  have H3 := hide ((unhide H1).below b3)
  clear s1 s2 s3 s4 b3 H1 R1 P1
  obtain ⟨s1, s2, s3, s4⟩ := cells6r (unhide R3)
  go_wp2_with fail
  refine (unhide CX _ _ _ _ _ _ (unhide H3)).mono ?_
  rintro e w4 ⟨rfl, h4, t4⟩
  have R4 := hide (t4 _ _ rfl ((unhide H3).ne (by decide) (unhide R3)) (unhide R3))
  have P4 := hide (t4 _ _ rfl ((unhide H3).ne (by decide) (unhide P3)) (unhide P3))
  have H4 := hide h4
  clear s1 s2 s3 s4 h4 t4 H3 R3 P3 CX
  obtain ⟨s1, s2, s3, s4⟩ := cells6r (unhide R4)
  obtain ⟨y1, y2, y3, y4⟩ := cells6r (unhide P4)
  go_wp2_with fail
  refine (unhide CL _ _ _ _ _ _ (unhide H4)).mono ?_
  rintro e w5 ⟨rfl, b5⟩
  have R5 := hide (Below.row b5 (unhide R4))
  have H5 := hide ((unhide H4).below b5)
  clear b5
  clear s1 s2 s3 s4 y1 y2 y3 y4 H4 R4 P4 CL
  obtain ⟨s1, s2, s3, s4⟩ := cells6r (unhide R5)
  go_wp2_with fail
  refine (unhide CU _ _ _ _ _ _ (unhide H5)).mono ?_
  rintro e w6 ⟨rfl, h6, t6⟩
  have R6 := hide (t6 _ _ rfl ((unhide H5).ne (by decide) (unhide R5)) (unhide R5))
  have H6 := hide h6
  clear s1 s2 s3 s4 h6 t6 H5 R5 CU
  obtain ⟨s1, s2, s3, s4⟩ := cells6r (unhide R6)
  go_wp2_with fail
  refine (unhide CI _ _ _ _ _ _ (unhide H6)).mono ?_
  rintro e w7 ⟨rfl, b7⟩
  have T7 := bthen b7 (alloc_below w7 (.cells #[.int .i64 o.tk, .int .u32 o.tn] 42))
  have R7 := hide (Below.row T7 (unhide R6))
  have H7 := hide ((unhide H6).below T7)
  have Z7 := hide (heap_alloc_new w7 (.cells #[.int .i64 o.tk, .int .u32 o.tn] 42))
  obtain ⟨z0, z1, _⟩ := cells2 (unhide Z7)
  clear s1 s2 s3 s4 b7 T7 H6 R6 CI
  obtain ⟨s1, s2, s3, s4⟩ := cells6r (unhide R7)
  go_wp2_with fail
  refine (unhide CP _ _ _ _ _ _ (unhide H7)).mono ?_
  rintro e w8 ⟨rfl, h8, t8⟩
  have R8 := hide (t8 _ _ rfl ((unhide H7).ne (by decide) (unhide R7)) (unhide R7))
  have H8 := hide h8
  clear s1 s2 s3 s4 z0 z1 h8 t8 H7 R7 Z7 CP EQ
  obtain ⟨s1, s2, s3, s4⟩ := cells6r (unhide R8)
  go_wp2_with fail
  refine (unhide CG _ _ _ _ _ _ (unhide H8)).mono ?_
  rintro e w9 ⟨rfl, h9, _⟩
  have H9 := hide h9
  clear s1 s2 s3 s4 h9 H8 R8 CG
  go_wp2_with fail
  refine (unhide CE _ _ _ _ _ _ (unhide H9)).mono ?_
  rintro e w10 ⟨r10, rfl, b10⟩
  have H10 := hide ((unhide H9).below b10)
  clear b10 H9 CE
  go_wp2_with fail
  refine (unhide CF _).mono ?_
  rintro e w11 ⟨rfl, b11⟩
  have H11 := hide ((unhide H10).below b11)
  clear b11 H10 CF
  go_wp2_with fail
  go_ret
  exact ⟨rfl, (unhide H11).has.1⟩
theorem walk (o p : Op6) (w : World) (ho : o.ok) (hp : p.ok) : Calls Try.prog 6 #[.agg #[.int .i64 o.kind, .int .i64 o.vid, .int .u64 o.mac, .int .i64 o.tk, .int .u32 o.tn, .int .i64 o.now], .agg #[.int .i64 p.kind, .int .i64 p.vid, .int .u64 p.mac, .int .i64 p.tk, .int .u32 p.tn, .int .i64 p.now]] w fun e w' => e = .returned (.bool true) ∧ Below w.heap.size w w' := by
  cases hm : mayB o.vid o.mac with
  | false => exact walk_may o p w ho hm
  | true =>
    by_cases ht : Tgt o.tk o.tn
    · by_cases hq : Tgt p.tk p.tn
      · exact walk_fix1 o p w ho hp hm ht hq
      · exact walk_fix2 o p w ho hp hm ht hq
    · exact walk_tgt o p w ho hm ht
set_option maxRecDepth 100000 in
theorem lifted (os : Os) (started : os.Started) (H : Type) (enc : TypeId × Value → H) :
    ReturnsInHanded {} Try.checked os 6 .any (Rows.fdbFixedSpec.pre6 enc Try.prog Try.f6 Rows.fdbFixedRow.domain false) (Rows.fdbFixedSpec.post enc Try.prog Try.f6 false true false false) := by
  refine returnsInHanded_of_change (C := Try.checked) own started (by kernel_rfl) Try.func6
    (ChangeSpec.witness6 (enc := enc) (C := Try.checked) false ⟨#[], #[.agg #[.int .i64 0, .int .i64 0, .int .u64 0, .int .i64 0, .int .u32 0, .int .i64 0], .agg #[.int .i64 0, .int .i64 0, .int .u64 0, .int .i64 0, .int .u32 0, .int .i64 0]], []⟩ 8 (by kernel_rfl) (by kernel_rfl) (by kernel_rfl) (by kernel_rfl)) ?_
  intro W base args ds gs before hval0 hW _ _
  have hval : ∀ (j : Nat) t v, Try.f6.params[j]? = some t → args[j]? = some v → Value.okWide Try.prog W .any base t v := hval0
  have hW' := hW
  obtain ⟨p, q, hA0, hV, rfl, hfz, hnd⟩ := hW
  have hA : DataW.TrodAll enc Try.prog W 0 (fun _ => true) true Try.f6.params.toList args.toList ds p := hA0
  rw [Try.params6] at hA hval
  obtain ⟨v0, v1, d0, d1, p0, p1, rfl, rfl, rfl, h0, h1⟩ := trodAll_two hA
  obtain ⟨o0, rfl, rfl, rfl, w0⟩ := open_op (hval 0 44 v0 rfl rfl) h0
  obtain ⟨o1, rfl, rfl, rfl, w1⟩ := open_op (hval 1 44 v1 rfl rfl) h1
  obtain ⟨rfl, rfl⟩ := trodVars_none hV
  have e1 : Rows.fdbFixedSpec.fn H ([opD o0, opD o1] ++ []) = { results := [.lit (.bool true)], args := [opD o0, opD o1] } := by simp [Rows.fdbFixedSpec]
  refine (walk o0 o1 W w0.ok w1.ok).mono fun e W' ⟨he, hb⟩ => ?_
  subst he
  refine ⟨_, rfl, _, _, _, [], [], [], hW', ?_, ?_, ?_, hb.frame _, fun h => by cases h⟩
  · rw [e1]; exact trodAll_mk1 (shut_bool Try.underlying4 true)
  · rw [e1]; exact trodAll_mk2 (shut_op o0 w0) (shut_op o1 w1)
  · rw [e1]; rfl
theorem said : Rows.FdbFixedSaid :=
  OpenClaim.holds_of_wide 6 Try.f6 rfl rfl rfl rfl rfl rfl rfl ⟨rfl, rfl, rfl, rfl, rfl⟩ rfl rfl rfl rfl rfl (by kernel_rfl) Try.func6 (by kernel_rfl)
    (of_decide_eq_true (by kernel_rfl)) (by unfold Func.isWrapper; rw [if_neg (of_decide_eq_false (by kernel_rfl))]; exact ⟨rfl, rfl⟩)
    (fun os started H enc _ => lifted os started H enc)
end Go.Proofs.Ytpddbfdgaeldjaa.fdbFixed
namespace Go.Proofs.Ytpddbfdgaeldjaa
theorem fdbFixed_holds : Rows.FdbFixedSaid := fdbFixed.said
end Go.Proofs.Ytpddbfdgaeldjaa
