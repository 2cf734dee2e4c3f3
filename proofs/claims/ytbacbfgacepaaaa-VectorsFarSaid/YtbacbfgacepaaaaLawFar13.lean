/-
  VectorsFar: what is farther is not better, and farther still no better; the best one is not worse than any. No condition.
-/
import Derived.Test.YtbacbfgacepaaaaFixed13
import Derived.Test.YtbacbfgacepaaaaCut13
import Derived.Test.YtbacbfgacepaaaaVcRef3
import Derived.Test.YtbacbfgacepaaaaRow13
import Derived.BigQuiet
import Derived.Lib.QuietBelow
namespace Go.Proofs.Ytbacbfgacepaaaa.vectorsFar
open Go.ChangeShapes Go.WideShapes Go.ChangeAt Go.RowKit Go.Deep Go.Sort

/-- what a round knows of its vector -/
structure Knows (ra da rk dk : Nat) (ca pa oa ck pk ok cp cq x y t u t3 t4 : Int) (z : Bool) : Prop where
  f1 : ∀ W, Calls Try.prog 9 #[.agg #[.int .u64 (rk : Int), .int .i64 ck, .int .u64 (dk : Int), .int .i64 pk, .int .i64 ok], .agg #[.int .u64 (ra : Int), .int .i64 ca, .int .u64 (da : Int), .int .i64 pa, .int .i64 oa]] W fun e w' => e = .returned (.int .i64 t) ∧ Below W.heap.size W w'
  f2 : ∀ W, Calls Try.prog 9 #[.agg #[.int .u64 (ra : Int), .int .i64 ca, .int .u64 (da : Int), .int .i64 pa, .int .i64 oa], .agg #[.int .u64 (rk : Int), .int .i64 ck, .int .u64 (dk : Int), .int .i64 pk, .int .i64 ok]] W fun e w' => e = .returned (.int .i64 u) ∧ Below W.heap.size W w'
  fr : ∀ W, Calls Try.prog 11 #[.agg #[.int .u64 (ra : Int), .int .i64 ca, .int .u64 (da : Int), .int .i64 pa, .int .i64 oa]] W fun e w' => e = .returned (.bool z) ∧ Below W.heap.size W w'
  fp : ∀ W, Calls Try.prog 13 #[.agg #[.int .u64 (ra : Int), .int .i64 ca, .int .u64 (da : Int), .int .i64 pa, .int .i64 oa], .int .i64 x] W fun e w' => e = .returned (.agg #[.int .u64 (ra : Int), .int .i64 cp, .int .u64 (da : Int), .int .i64 pa, .int .i64 oa]) ∧ Below W.heap.size W w'
  fq : z = true → ∀ W, Calls Try.prog 13 #[.agg #[.int .u64 (ra : Int), .int .i64 cp, .int .u64 (da : Int), .int .i64 pa, .int .i64 oa], .int .i64 y] W fun e w' => e = .returned (.agg #[.int .u64 (ra : Int), .int .i64 cq, .int .u64 (da : Int), .int .i64 pa, .int .i64 oa]) ∧ Below W.heap.size W w'
  fs : ∀ W, Calls Try.prog 13 #[.agg #[.int .u64 (ra : Int), .int .i64 ca, .int .u64 (da : Int), .int .i64 pa, .int .i64 oa], .int .i64 (x + y)] W fun e w' => e = .returned (.agg #[.int .u64 (ra : Int), .int .i64 cq, .int .u64 (da : Int), .int .i64 pa, .int .i64 oa]) ∧ Below W.heap.size W w'
  f3 : ∀ W, Calls Try.prog 9 #[.agg #[.int .u64 (ra : Int), .int .i64 cp, .int .u64 (da : Int), .int .i64 pa, .int .i64 oa], .agg #[.int .u64 (ra : Int), .int .i64 ca, .int .u64 (da : Int), .int .i64 pa, .int .i64 oa]] W fun e w' => e = .returned (.int .i64 t3) ∧ Below W.heap.size W w'
  f4 : ∀ W, Calls Try.prog 9 #[.agg #[.int .u64 (ra : Int), .int .i64 cq, .int .u64 (da : Int), .int .i64 pa, .int .i64 oa], .agg #[.int .u64 (ra : Int), .int .i64 cp, .int .u64 (da : Int), .int .i64 pa, .int .i64 oa]] W fun e w' => e = .returned (.int .i64 t4) ∧ Below W.heap.size W w'
  fz : z = true → ∀ W, Calls Try.prog 11 #[.agg #[.int .u64 (ra : Int), .int .i64 cq, .int .u64 (da : Int), .int .i64 pa, .int .i64 oa]] W fun e w' => e = .returned (.bool true) ∧ Below W.heap.size W w'
  n0 : ¬ 0 < t
  n3 : z = true → ¬ t3 < 0
  n4 : z = true → ¬ t4 < 0
theorem knows (a k : Vc) (x y : Int) (ha : a.fits) (hk : k.fits) (hx : 0 ≤ x ∧ x ≤ 2147483647) (hy : 0 ≤ y ∧ y ≤ 2147483647) (hb : k.key ≤ a.key) :
    Knows a.root a.bridge k.root k.bridge a.cost a.port a.on k.cost k.port k.on (a.far x) (a.far (x + y)) x y (k.cmp a) (a.cmp k) ((a.plus x).cmp a) ((a.plus (x + y)).cmp (a.plus x)) a.right where
  f1 := fun W => vcmp_any k a W hk ha
  f2 := fun W => vcmp_any a k W ha hk
  fr := fun W => vright_any a W
  fp := fun W => vplus_any a x W
  fq := fun hz W => by
    have := vplus_any (a.plus x) y W
    rw [plus_plus hz (by omega) (by omega)] at this
    exact this
  fs := fun W => vplus_any a (x + y) W
  f3 := fun W => vcmp_any (a.plus x) a W (plus_fits ha x) ha
  f4 := fun W => vcmp_any (a.plus (x + y)) (a.plus x) W (plus_fits ha _) (plus_fits ha x)
  fz := fun hz W => by
    have := vright_any (a.plus (x + y)) W
    rw [(far_right hz (c := x + y) (by omega)).2] at this
    exact this
  n0 := by have := cmp_cases hk ha; omega
  n3 := fun hz => by have := plus_less ha hz (c := x) (by omega); omega
  n4 := fun hz => by
    have h1 := (far_right hz (c := x) (by omega)).2
    have := plus_less (plus_fits ha x) h1 (c := y) (by omega)
    rw [plus_plus hz (by omega) (by omega)] at this
    omega
set_option maxHeartbeats 8000000 in
set_option maxRecDepth 100000 in
theorem walk (ao : Option Addr) (n cap : Nat) (S : Nat → Vc) (x0 y0 : Int) (w : World) (h : VcsIn w ao n cap S) (_ : I64 x0) (_ : I64 y0) :
    Calls Try.prog 6 #[.slice ao n cap, .int .i64 x0, .int .i64 y0] w fun e w' => e = .returned (.bool true) ∧ Below w.heap.size w w' := by
  obtain ⟨m, ax, hm40, hmn, dm, ds, hs, -⟩ := first40 h
  have hcm : cap ≤ maxLen := h.2.1
  have hnc := h.1
  unfold maxLen at hcm
  have ex := i64_and_31bits x0
  have ey := i64_and_31bits y0
  obtain ⟨x, hx⟩ : ∃ x, x0 % 2147483648 = x := ⟨_, rfl⟩
  obtain ⟨y, hy⟩ : ∃ y, y0 % 2147483648 = y := ⟨_, rfl⟩
  have hxr : 0 ≤ x ∧ x ≤ 2147483647 := by omega
  have hyr : 0 ≤ y ∧ y ≤ 2147483647 := by omega
  rw [hx] at ex
  rw [hy] at ey
  have HV := hide hs
  have CB := hide (fun W (b : Below w.heap.size w W) => vbest_any ax m cap S W (hs.below b))
  have CF := hide fixed_any
  clear h hs hx hy
  go_enter Try.func6, Try.ntmps6
  go_wp2_with fail
  refine (unhide CB _ (Below.refl _ _)).mono ?_
  rintro e w1 ⟨rfl, b1⟩
  have HB1 := hide b1
  clear b1 CB
  by_cases h0 : m = 0
  · subst h0
    rw [best_none]
    clear HV
    go_wp2_with fail
    refine wp_loop_rounds 1 ?_
    rw [rounds_succ]
    go_wp2_with fail
    refine (unhide CF _).mono ?_
    rintro e w2 ⟨rfl, b2⟩
    have HB2 := hide (bthen (unhide HB1) b2)
    clear b2
    go_wp2_with fail
    go_ret
    exact ⟨rfl, unhide HB2⟩
  · obtain ⟨k, hk, hkm, hle, hlt⟩ := best_is (fun i hi => (unhide HV).fits i hi) (by omega : 0 < m)
    rw [hk]
    obtain ⟨b, o, rfl, hS⟩ := (unhide HV).2.2.resolve_left h0
    have HS := hide hS
    have HLE := hide hle
    have HLT := hide hlt
    have g1 : decide ((k : Int) < -1) = false := decide_eq_false (by omega)
    have g2 : decide ((m : Int) ≤ (k : Int)) = false := decide_eq_false (by omega)
    have g2n : decide (m ≤ k) = false := decide_eq_false (by omega)
    have g3 : decide ((k : Int) < 0) = false := decide_eq_false (by omega)
    have g4 : ((m : Int) == 0) = false := by rw [beq_eq_false_iff_ne]; omega
    have hkI : (k : Int) < (m : Int) := by omega
    have hmc : m ≤ cap := by omega
    clear hk hle hlt hS HV
    go_wp2_with fail
    go_loopw [10] (fun a wr => ∃ i : Nat, a = .int .i64 i ∧ i ≤ m ∧ Below w.heap.size w wr) (fun a _ => (m - intOf a).toNat)
    case atStart => exact ⟨0, rfl, Nat.zero_le _, unhide HB1⟩
    case round =>
      obtain ⟨i, rfl, him, hb⟩ := hrel
      have HB := hide hb
      clear hb HB1
      by_cases hi : i < m
      · have hiI : (i : Int) < (m : Int) := by omega
        obtain ⟨hvk, hfk⟩ := unhide HS k hkm
        obtain ⟨hva, hfa⟩ := unhide HS i hi
        have KN := knows (S i) (S k) x y hfa hfk hxr hyr (unhide HLE i hi)
        have hu : i < k → ((S i).cmp (S k) == 0) = false := fun q => by
          have h1 := unhide HLT i q
          have h2 := cmp_cases hfa hfk
          rw [beq_eq_false_iff_ne]; omega
        generalize (S k).cmp (S i) = t at KN
        generalize (S i).cmp (S k) = u at KN hu
        generalize ((S i).plus x).cmp (S i) = t3 at KN
        generalize ((S i).plus (x + y)).cmp ((S i).plus x) = t4 at KN
        generalize (S i).far x = cp at KN
        generalize (S i).far (x + y) = cq at KN
        generalize (S i).right = z at KN
        generalize S i = a at KN hva
        generalize S k = v at KN hvk
        obtain ⟨ra, ca, da, pa, oa⟩ := a
        obtain ⟨rk, ck, dk, pk, ok⟩ := v
        simp only at KN
        have ha := hva.below (unhide HB)
        have hv := hvk.below (unhide HB)
        have HVA := hide ha
        have k0 := cell_regrown ha.1
        have k1 := cell_regrown ha.2.1
        have k2 := cell_regrown ha.2.2.1
        have k3 := cell_regrown ha.2.2.2.1
        have k4 := cell_regrown ha.2.2.2.2
        have l0 := cell_regrown hv.1
        have l1 := cell_regrown hv.2.1
        have l2 := cell_regrown hv.2.2.1
        have l3 := cell_regrown hv.2.2.2.1
        have l4 := cell_regrown hv.2.2.2.2
        have c1 := at_grown KN.f1 wr
        have c2 := at_grown KN.f2 wr
        have n0 := KN.n0
        have KH := hide KN
        clear ha hv hva hvk hfa hfk KN
        have N0 := hide n0
        clear n0
        by_cases hik : i < k
        · have HIK := hide hik
          have HU := hide (hu hik)
          clear hu hik
          go_wp2_with fail
          have hkI2 : (k : Int) < (m : Int) := by omega
          have hiI2 : (i : Int) < (m : Int) := by omega
          have dt : decide (0 < t) = false := decide_eq_false (by have := unhide N0; omega)
          have di : decide ((i : Int) < (k : Int)) = true := decide_eq_true (by have := unhide HIK; omega)
          have di2 : decide (i < k) = true := decide_eq_true (by have := unhide HIK; omega)
          have hu0 := unhide HU
          refine wp_region_quiet_below (by kernel_rfl) (by kernel_rfl) ?_
          repeat (go_big_quiet_step (first | (go_at_call_of 9 (#[Value.agg #[Value.int IntKind.u64 (rk : Int), Value.int IntKind.i64 ck, Value.int IntKind.u64 (dk : Int), Value.int IntKind.i64 pk, Value.int IntKind.i64 ok], Value.agg #[Value.int IntKind.u64 (ra : Int), Value.int IntKind.i64 ca, Value.int IntKind.u64 (da : Int), Value.int IntKind.i64 pa, Value.int IntKind.i64 oa]] : Array Value); exact c1 _ _) | (go_at_call_of 9 (#[Value.agg #[Value.int IntKind.u64 (ra : Int), Value.int IntKind.i64 ca, Value.int IntKind.u64 (da : Int), Value.int IntKind.i64 pa, Value.int IntKind.i64 oa], Value.agg #[Value.int IntKind.u64 (rk : Int), Value.int IntKind.i64 ck, Value.int IntKind.u64 (dk : Int), Value.int IntKind.i64 pk, Value.int IntKind.i64 ok]] : Array Value); exact c2 _ _)))
          refine wpQuiet_nil ?_
          rintro _ ⟨⟨dq, osq⟩, rfl⟩
          have HB3 := hide (grown_then (unhide HB) dq osq)
          have HV3 := hide ((unhide HVA).below (below_regrown wr dq osq))
          clear k0 k1 k2 k3 k4 l0 l1 l2 l3 l4 c1 c2 dt di di2
          generalize grow (redrawn wr dq) osq = W3 at *
          obtain ⟨k0, k1, k2, k3, k4⟩ := unhide HV3
          have cr := hide (unhide KH).fr
          go_wp2_with fail
          refine (unhide cr _).mono ?_
          rintro e w4 ⟨rfl, b4⟩
          have HB4 := hide (bthen (unhide HB3) b4)
          have HV4 := hide ((unhide HV3).below b4)
          clear b4 HB3 HV3 k0 k1 k2 k3 k4 cr HB HVA
          cases z with
          | false =>
            clear KH HV4
            go_wp2_with fail
            go_roundw
            case rel => exact ⟨i + 1, by go_num, by omega, unhide HB4⟩
            case measure => simp [intOf]; omega
          | true =>
            obtain ⟨k0, k1, k2, k3, k4⟩ := unhide HV4
            have cp' := hide (unhide KH).fp
            go_wp2_with fail
            refine (unhide cp' _).mono ?_
            rintro e w5 ⟨rfl, b5⟩
            have HB5 := hide (alloc_then (o := (.cells #[.int .u64 (ra : Int), .int .i64 cp, .int .u64 (da : Int), .int .i64 pa, .int .i64 oa] 24)) (bthen (unhide HB4) b5))
            have HV5 := hide (((unhide HV4).below b5).below (alloc_below w5 (.cells #[.int .u64 (ra : Int), .int .i64 cp, .int .u64 (da : Int), .int .i64 pa, .int .i64 oa] 24)))
            have HP5 := hide (heap_alloc_new w5 (.cells #[.int .u64 (ra : Int), .int .i64 cp, .int .u64 (da : Int), .int .i64 pa, .int .i64 oa] 24))
            clear b5 HB4 HV4 k0 k1 k2 k3 k4 cp'
            have cq' := hide ((unhide KH).fq rfl)
            obtain ⟨q0, q1, q2, q3, q4, -⟩ := vcells (unhide HP5)
            go_wp2_with fail
            refine (unhide cq' _).mono ?_
            rintro e w6 ⟨rfl, b6⟩
            have HB6 := hide (alloc_then (o := (.cells #[.int .u64 (ra : Int), .int .i64 cq, .int .u64 (da : Int), .int .i64 pa, .int .i64 oa] 24)) (bthen (unhide HB5) b6))
            have HV6 := hide (((unhide HV5).below b6).below (alloc_below w6 (.cells #[.int .u64 (ra : Int), .int .i64 cq, .int .u64 (da : Int), .int .i64 pa, .int .i64 oa] 24)))
            have HP6 := hide (Below.row (alloc_below w6 (.cells #[.int .u64 (ra : Int), .int .i64 cq, .int .u64 (da : Int), .int .i64 pa, .int .i64 oa] 24)) (Below.row b6 (unhide HP5)))
            have HQ6 := hide (heap_alloc_new w6 (.cells #[.int .u64 (ra : Int), .int .i64 cq, .int .u64 (da : Int), .int .i64 pa, .int .i64 oa] 24))
            clear b6 HB5 HV5 HP5 q0 q1 q2 q3 q4 cq'
            go_wp2_with fail
            generalize w6.alloc (.cells #[.int .u64 (ra : Int), .int .i64 cq, .int .u64 (da : Int), .int .i64 pa, .int .i64 oa] 24) = W7 at *
            have wxy : IntKind.i64.wrap (x + y) = x + y := by rw [IntKind.wrap_i64]; omega
            have hV := unhide HV6
            have k0 := cell_regrown hV.1
            have k1 := cell_regrown hV.2.1
            have k2 := cell_regrown hV.2.2.1
            have k3 := cell_regrown hV.2.2.2.1
            have k4 := cell_regrown hV.2.2.2.2
            have hP := vcells (unhide HP6)
            have p0 := cell_regrown hP.1
            have p1 := cell_regrown hP.2.1
            have p2 := cell_regrown hP.2.2.1
            have p3 := cell_regrown hP.2.2.2.1
            have p4 := cell_regrown hP.2.2.2.2.1
            have hQ := vcells (unhide HQ6)
            have q0 := cell_regrown hQ.1
            have q1 := cell_regrown hQ.2.1
            have q2 := cell_regrown hQ.2.2.1
            have q3 := cell_regrown hQ.2.2.2.1
            have q4 := cell_regrown hQ.2.2.2.2.1
            have c3 := at_grown (unhide KH).f3 W7
            have c4 := at_grown (unhide KH).f4 W7
            have cs := at_grown (unhide KH).fs W7
            have rq := at_grown ((unhide KH).fz rfl) W7
            have d3 : decide (t3 < 0) = false := decide_eq_false ((unhide KH).n3 rfl)
            have d4 : decide (t4 < 0) = false := decide_eq_false ((unhide KH).n4 rfl)
            have EN := neq_vec_same (ra : Int) cq (da : Int) pa oa
            clear hV hP hQ KH HV6 HP6 HQ6
            have hiI3 : (i : Int) < (m : Int) := by omega
            refine wp_region_quiet_below (by kernel_rfl) (by kernel_rfl) ?_
            repeat (go_big_quiet_step (first | (go_at_call_of 9 (#[Value.agg #[Value.int IntKind.u64 (ra : Int), Value.int IntKind.i64 cp, Value.int IntKind.u64 (da : Int), Value.int IntKind.i64 pa, Value.int IntKind.i64 oa], Value.agg #[Value.int IntKind.u64 (ra : Int), Value.int IntKind.i64 ca, Value.int IntKind.u64 (da : Int), Value.int IntKind.i64 pa, Value.int IntKind.i64 oa]] : Array Value); exact c3 _ _) | (go_at_call_of 9 (#[Value.agg #[Value.int IntKind.u64 (ra : Int), Value.int IntKind.i64 cq, Value.int IntKind.u64 (da : Int), Value.int IntKind.i64 pa, Value.int IntKind.i64 oa], Value.agg #[Value.int IntKind.u64 (ra : Int), Value.int IntKind.i64 cp, Value.int IntKind.u64 (da : Int), Value.int IntKind.i64 pa, Value.int IntKind.i64 oa]] : Array Value); exact c4 _ _) | (go_at_call 13; exact cs _ _) | (go_at_call 11; exact rq _ _)))
            refine wpQuiet_nil ?_
            rintro _ ⟨⟨dq2, osq2⟩, rfl⟩
            have HB8 := hide (grown_then (unhide HB6) dq2 osq2)
            clear k0 k1 k2 k3 k4 p0 p1 p2 p3 p4 q0 q1 q2 q3 q4 c3 c4 cs rq
            go_wp2_with fail
            go_roundw
            case rel => exact ⟨i + 1, by go_num, by omega, unhide HB8⟩
            case measure => simp [intOf]; omega
        · have HIK := hide hik
          clear hu hik
          go_wp2_with fail
          have hkI2 : (k : Int) < (m : Int) := by omega
          have hiI2 : (i : Int) < (m : Int) := by omega
          have dt : decide (0 < t) = false := decide_eq_false (by have := unhide N0; omega)
          have di : decide ((i : Int) < (k : Int)) = false := decide_eq_false (by have := unhide HIK; omega)
          have di2 : decide (i < k) = false := decide_eq_false (by have := unhide HIK; omega)
          refine wp_region_quiet_below (by kernel_rfl) (by kernel_rfl) ?_
          repeat (go_big_quiet_step (first | (go_at_call_of 9 (#[Value.agg #[Value.int IntKind.u64 (rk : Int), Value.int IntKind.i64 ck, Value.int IntKind.u64 (dk : Int), Value.int IntKind.i64 pk, Value.int IntKind.i64 ok], Value.agg #[Value.int IntKind.u64 (ra : Int), Value.int IntKind.i64 ca, Value.int IntKind.u64 (da : Int), Value.int IntKind.i64 pa, Value.int IntKind.i64 oa]] : Array Value); exact c1 _ _) | (go_at_call_of 9 (#[Value.agg #[Value.int IntKind.u64 (ra : Int), Value.int IntKind.i64 ca, Value.int IntKind.u64 (da : Int), Value.int IntKind.i64 pa, Value.int IntKind.i64 oa], Value.agg #[Value.int IntKind.u64 (rk : Int), Value.int IntKind.i64 ck, Value.int IntKind.u64 (dk : Int), Value.int IntKind.i64 pk, Value.int IntKind.i64 ok]] : Array Value); exact c2 _ _)))
          refine wpQuiet_nil ?_
          rintro _ ⟨⟨dq, osq⟩, rfl⟩
          have HB3 := hide (grown_then (unhide HB) dq osq)
          have HV3 := hide ((unhide HVA).below (below_regrown wr dq osq))
          clear k0 k1 k2 k3 k4 l0 l1 l2 l3 l4 c1 c2 dt di di2
          generalize grow (redrawn wr dq) osq = W3 at *
          obtain ⟨k0, k1, k2, k3, k4⟩ := unhide HV3
          have cr := hide (unhide KH).fr
          go_wp2_with fail
          refine (unhide cr _).mono ?_
          rintro e w4 ⟨rfl, b4⟩
          have HB4 := hide (bthen (unhide HB3) b4)
          have HV4 := hide ((unhide HV3).below b4)
          clear b4 HB3 HV3 k0 k1 k2 k3 k4 cr HB HVA
          cases z with
          | false =>
            clear KH HV4
            go_wp2_with fail
            go_roundw
            case rel => exact ⟨i + 1, by go_num, by omega, unhide HB4⟩
            case measure => simp [intOf]; omega
          | true =>
            obtain ⟨k0, k1, k2, k3, k4⟩ := unhide HV4
            have cp' := hide (unhide KH).fp
            go_wp2_with fail
            refine (unhide cp' _).mono ?_
            rintro e w5 ⟨rfl, b5⟩
            have HB5 := hide (alloc_then (o := (.cells #[.int .u64 (ra : Int), .int .i64 cp, .int .u64 (da : Int), .int .i64 pa, .int .i64 oa] 24)) (bthen (unhide HB4) b5))
            have HV5 := hide (((unhide HV4).below b5).below (alloc_below w5 (.cells #[.int .u64 (ra : Int), .int .i64 cp, .int .u64 (da : Int), .int .i64 pa, .int .i64 oa] 24)))
            have HP5 := hide (heap_alloc_new w5 (.cells #[.int .u64 (ra : Int), .int .i64 cp, .int .u64 (da : Int), .int .i64 pa, .int .i64 oa] 24))
            clear b5 HB4 HV4 k0 k1 k2 k3 k4 cp'
            have cq' := hide ((unhide KH).fq rfl)
            obtain ⟨q0, q1, q2, q3, q4, -⟩ := vcells (unhide HP5)
            go_wp2_with fail
            refine (unhide cq' _).mono ?_
            rintro e w6 ⟨rfl, b6⟩
            have HB6 := hide (alloc_then (o := (.cells #[.int .u64 (ra : Int), .int .i64 cq, .int .u64 (da : Int), .int .i64 pa, .int .i64 oa] 24)) (bthen (unhide HB5) b6))
            have HV6 := hide (((unhide HV5).below b6).below (alloc_below w6 (.cells #[.int .u64 (ra : Int), .int .i64 cq, .int .u64 (da : Int), .int .i64 pa, .int .i64 oa] 24)))
            have HP6 := hide (Below.row (alloc_below w6 (.cells #[.int .u64 (ra : Int), .int .i64 cq, .int .u64 (da : Int), .int .i64 pa, .int .i64 oa] 24)) (Below.row b6 (unhide HP5)))
            have HQ6 := hide (heap_alloc_new w6 (.cells #[.int .u64 (ra : Int), .int .i64 cq, .int .u64 (da : Int), .int .i64 pa, .int .i64 oa] 24))
            clear b6 HB5 HV5 HP5 q0 q1 q2 q3 q4 cq'
            go_wp2_with fail
            generalize w6.alloc (.cells #[.int .u64 (ra : Int), .int .i64 cq, .int .u64 (da : Int), .int .i64 pa, .int .i64 oa] 24) = W7 at *
            have wxy : IntKind.i64.wrap (x + y) = x + y := by rw [IntKind.wrap_i64]; omega
            have hV := unhide HV6
            have k0 := cell_regrown hV.1
            have k1 := cell_regrown hV.2.1
            have k2 := cell_regrown hV.2.2.1
            have k3 := cell_regrown hV.2.2.2.1
            have k4 := cell_regrown hV.2.2.2.2
            have hP := vcells (unhide HP6)
            have p0 := cell_regrown hP.1
            have p1 := cell_regrown hP.2.1
            have p2 := cell_regrown hP.2.2.1
            have p3 := cell_regrown hP.2.2.2.1
            have p4 := cell_regrown hP.2.2.2.2.1
            have hQ := vcells (unhide HQ6)
            have q0 := cell_regrown hQ.1
            have q1 := cell_regrown hQ.2.1
            have q2 := cell_regrown hQ.2.2.1
            have q3 := cell_regrown hQ.2.2.2.1
            have q4 := cell_regrown hQ.2.2.2.2.1
            have c3 := at_grown (unhide KH).f3 W7
            have c4 := at_grown (unhide KH).f4 W7
            have cs := at_grown (unhide KH).fs W7
            have rq := at_grown ((unhide KH).fz rfl) W7
            have d3 : decide (t3 < 0) = false := decide_eq_false ((unhide KH).n3 rfl)
            have d4 : decide (t4 < 0) = false := decide_eq_false ((unhide KH).n4 rfl)
            have EN := neq_vec_same (ra : Int) cq (da : Int) pa oa
            clear hV hP hQ KH HV6 HP6 HQ6
            have hiI3 : (i : Int) < (m : Int) := by omega
            refine wp_region_quiet_below (by kernel_rfl) (by kernel_rfl) ?_
            repeat (go_big_quiet_step (first | (go_at_call_of 9 (#[Value.agg #[Value.int IntKind.u64 (ra : Int), Value.int IntKind.i64 cp, Value.int IntKind.u64 (da : Int), Value.int IntKind.i64 pa, Value.int IntKind.i64 oa], Value.agg #[Value.int IntKind.u64 (ra : Int), Value.int IntKind.i64 ca, Value.int IntKind.u64 (da : Int), Value.int IntKind.i64 pa, Value.int IntKind.i64 oa]] : Array Value); exact c3 _ _) | (go_at_call_of 9 (#[Value.agg #[Value.int IntKind.u64 (ra : Int), Value.int IntKind.i64 cq, Value.int IntKind.u64 (da : Int), Value.int IntKind.i64 pa, Value.int IntKind.i64 oa], Value.agg #[Value.int IntKind.u64 (ra : Int), Value.int IntKind.i64 cp, Value.int IntKind.u64 (da : Int), Value.int IntKind.i64 pa, Value.int IntKind.i64 oa]] : Array Value); exact c4 _ _) | (go_at_call 13; exact cs _ _) | (go_at_call 11; exact rq _ _)))
            refine wpQuiet_nil ?_
            rintro _ ⟨⟨dq2, osq2⟩, rfl⟩
            have HB8 := hide (grown_then (unhide HB6) dq2 osq2)
            clear k0 k1 k2 k3 k4 p0 p1 p2 p3 p4 q0 q1 q2 q3 q4 c3 c4 cs rq
            go_wp2_with fail
            go_roundw
            case rel => exact ⟨i + 1, by go_num, by omega, unhide HB8⟩
            case measure => simp [intOf]; omega
      · obtain rfl : i = m := by omega
        clear HS HLE HLT
        go_wp2_with fail
        refine (unhide CF _).mono ?_
        rintro e w2 ⟨rfl, b2⟩
        have HB2 := hide (bthen (unhide HB) b2)
        clear b2
        go_wp2_with fail
        go_ret
        exact ⟨rfl, unhide HB2⟩
set_option maxRecDepth 100000 in
theorem lifted (os : Os) (started : os.Started) (H : Type) (enc : TypeId × Value → H) :
    ReturnsInHanded {} Try.checked os 6 .any (Rows.vectorsFarSpec.pre6 enc Try.prog Try.f6 Rows.vectorsFarRow.domain false) (Rows.vectorsFarSpec.post enc Try.prog Try.f6 false true false false) := by
  refine returnsInHanded_of_change (C := Try.checked) own started (by kernel_rfl) Try.func6
    (ChangeSpec.witness6 (enc := enc) (C := Try.checked) false ⟨#[], #[.slice none 0 0, .int .i64 0, .int .i64 0], []⟩ 8 (by kernel_rfl) (by kernel_rfl) (by kernel_rfl) (by kernel_rfl)) ?_
  intro W base args ds gs before hval0 hW _ _
  have hval : ∀ (j : Nat) t v, Try.f6.params[j]? = some t → args[j]? = some v → Value.okWide Try.prog W .any base t v := hval0
  have hW' := hW
  obtain ⟨p, q, hA0, hV, rfl, hfz, hnd⟩ := hW
  have hA : DataW.TrodAll enc Try.prog W 0 (fun _ => true) true Try.f6.params.toList args.toList ds p := hA0
  rw [Try.params6] at hA hval
  obtain ⟨v0, v1, v2, d0, d1, d2, p0, p1, p2, rfl, rfl, rfl, h0, h1, h2⟩ := trodAll_three hA
  have y0 : ∀ x ∈ p0, x.block < W.heap.size := fun x hx => hW'.lt x (by simp [hx])
  obtain ⟨ao0, n0, cap0, S0, rfl, hs0, hz0⟩ := open_vecs (hval 0 29 v0 rfl rfl) h0
  obtain ⟨a1, rfl, rfl, rfl, w1⟩ := open_int Try.underlying3 (hval 1 3 v1 rfl rfl) h1
  obtain ⟨a2, rfl, rfl, rfl, w2⟩ := open_int Try.underlying3 (hval 2 3 v2 rfl rfl) h2
  obtain ⟨rfl, rfl⟩ := trodVars_none hV
  have e1 : Rows.vectorsFarSpec.fn H ([d0, .lit (.int .i64 a1), .lit (.int .i64 a2)] ++ []) = { results := [.lit (.bool true)], args := [d0, .lit (.int .i64 a1), .lit (.int .i64 a2)] } := by simp [Rows.vectorsFarSpec]
  refine (walk ao0 n0 cap0 S0 a1 a2 W hs0 (bnd_i64 w1) (bnd_i64 w2)).mono fun e W' ⟨he, hb⟩ => ?_
  subst he
  refine ⟨_, rfl, _, _, _, [], p0 ++ ([] ++ []), [], hW', ?_, ?_, ?_, hb.frame _, fun h => by cases h⟩
  · rw [e1]; exact trodAll_mk1 (shut_bool Try.underlying4 true)
  · rw [e1]; exact trodAll_mk3 (stay h0 y0 hb) (shut_int Try.underlying3 w1) (shut_int Try.underlying3 w2)
  · rw [e1]; rfl
theorem said : Rows.VectorsFarSaid :=
  OpenClaim.holds_of_wide 6 Try.f6 rfl rfl rfl rfl rfl rfl rfl ⟨rfl, rfl, rfl, rfl, rfl⟩ rfl rfl rfl rfl rfl (by kernel_rfl) Try.func6 (by kernel_rfl)
    (of_decide_eq_true (by kernel_rfl)) (by unfold Func.isWrapper; rw [if_neg (of_decide_eq_false (by kernel_rfl))]; exact ⟨rfl, rfl⟩)
    (fun os started H enc _ => lifted os started H enc)
end Go.Proofs.Ytbacbfgacepaaaa.vectorsFar
namespace Go.Proofs.Ytbacbfgacepaaaa
theorem vectorsFar_holds : Rows.VectorsFarSaid := vectorsFar.said
end Go.Proofs.Ytbacbfgacepaaaa
