/-
  The contracts of gangwayref14.Role and All: what the document says of ports.
-/
import Derived.Test.YtagfaaciakbnbaaVwRef3
namespace Go.Proofs.Ytagfaaciakbnbaa
open Go.RowKit Go.Sort

/-- a view in a block of its own -/
def VwHas (W : World) (g : Nat) (x : Vw) : Prop := W.heap[g]? = some (.cells #[.bool x.up, .int .i64 x.cost, .bool x.told, .int .u64 (x.v.root : Int), .int .i64 x.v.cost, .int .u64 (x.v.bridge : Int), .int .i64 x.v.port, .int .i64 x.v.on] 34 (0, 0))
set_option maxHeartbeats 2000000 in
set_option maxRecDepth 100000 in
theorem srole_at (b : Nat) (sb so n cap i : Nat) (S : Nat → Vw) (up told : Bool) (s r c d p o ru cu du pu ou t y : Int) (w : World) (hin : i < n) (hn : n ≤ 4000)
    (hx : VwAt w sb (so + i * 8) (S i)) (hS : (S i).val = .agg #[.bool up, .int .i64 s, .bool told, .int .u64 r, .int .i64 c, .int .u64 d, .int .i64 p, .int .i64 o])
    (CR : Hid (Calls Try.prog 9 #[.int .u64 (b : Int), .slice (some ⟨sb, so, none⟩) n cap] w fun e w' => e = .returned (.tuple #[.agg #[.int .u64 ru, .int .i64 cu, .int .u64 du, .int .i64 pu, .int .i64 ou], .int .i64 ou]) ∧ Below w.heap.size w w'))
    (CS : Hid (∀ W, Below w.heap.size w W → Calls Try.prog 11 #[.int .u64 (b : Int), .slice (some ⟨sb, so, none⟩) n cap, .int .i64 ((i : Int) + 1)] W fun e w' => e = .returned (.agg #[.int .u64 ru, .int .i64 cu, .int .u64 (b : Int), .int .i64 ((i : Int) + 1), .int .i64 ((i : Int) + 1)]) ∧ Below W.heap.size W w'))
    (CC : Hid (∀ W, Calls Try.prog 18 #[.agg #[.int .u64 r, .int .i64 c, .int .u64 d, .int .i64 p, .int .i64 ((i : Int) + 1)], .agg #[.int .u64 ru, .int .i64 cu, .int .u64 (b : Int), .int .i64 ((i : Int) + 1), .int .i64 ((i : Int) + 1)]] W fun e w' => e = .returned (.int .i64 t) ∧ Below W.heap.size W w'))
    (h : (up = false ∧ y = 0) ∨ (up = true ∧ (i : Int) + 1 = ou ∧ y = 4) ∨ (up = true ∧ (i : Int) + 1 ≠ ou ∧ told = false ∧ y = 3) ∨ (up = true ∧ (i : Int) + 1 ≠ ou ∧ told = true ∧ 0 ≤ t ∧ y = 3) ∨ (up = true ∧ (i : Int) + 1 ≠ ou ∧ told = true ∧ t < 0 ∧ (d = (b : Int) ∧ y = 1 ∨ d ≠ (b : Int) ∧ y = 2))) :
    Calls Try.prog 24 #[.int .u64 (b : Int), .slice (some ⟨sb, so, none⟩) n cap, .int .i64 ((i : Int) + 1)] w fun e w' => e = .returned (.int .i64 y) ∧ Below w.heap.size w w' := by
  have hwi : wrap64 ((i : Int) + 1 - 1) = (i : Int) := by unfold wrap64; omega
  have hiI : (i : Int) < (n : Int) := by omega
  have HX := hide hx
  have HY := hide h
  unfold Vw.val at hS
  simp only [Value.agg.injEq, Array.mk.injEq, List.cons.injEq, Value.bool.injEq, Value.int.injEq, true_and, and_true] at hS
  have HE := hide hS
  clear hx h hS
  go_enter Try.func24, Try.ntmps24
  go_wp2_with fail
  refine (unhide CR).mono ?_
  rintro e w1 ⟨rfl, b1⟩
  have HB1 := hide (alloc_then (o := .cells #[.int .u64 ru, .int .i64 cu, .int .u64 du, .int .i64 pu, .int .i64 ou] 25) b1)
  have hv := (unhide HX).below (unhide HB1)
  unfold VwAt at hv
  rw [(unhide HE).1, (unhide HE).2.1, (unhide HE).2.2.1, (unhide HE).2.2.2.1, (unhide HE).2.2.2.2.1, (unhide HE).2.2.2.2.2.1, (unhide HE).2.2.2.2.2.2.1, (unhide HE).2.2.2.2.2.2.2] at hv
  obtain ⟨k0, k1, k2, k3, k4, k5, k6, k7⟩ := hv
  clear b1 HX HE CR
  go_upto_region 3 with fail
  obtain ⟨q0, q1, q2, q3, q4, q5, q6, q7, z0, z1, z2, z3, z4, z5, z6, z7⟩ := xcells (heap_alloc2_new w1 (.cells #[.int .u64 ru, .int .i64 cu, .int .u64 du, .int .i64 pu, .int .i64 ou] 25) (.cells #[.bool up, .int .i64 s, .bool told, .int .u64 r, .int .i64 c, .int .u64 d, .int .i64 p, .int .i64 o] 34))
  rcases unhide HY with ⟨rfl, rfl⟩ | ⟨rfl, h, rfl⟩ | ⟨rfl, h, rfl, rfl⟩ | h
  · have HB2 := hide (alloc_then (o := .cells #[.bool false, .int .i64 s, .bool told, .int .u64 r, .int .i64 c, .int .u64 d, .int .i64 p, .int .i64 o] 34) (unhide HB1))
    clear HY CS CC
    go_wp2_with fail
    go_ret
    exact ⟨rfl, unhide HB2⟩
  · subst h
    have HB2 := hide (alloc_then (o := .cells #[.bool true, .int .i64 s, .bool told, .int .u64 r, .int .i64 c, .int .u64 d, .int .i64 p, .int .i64 o] 34) (unhide HB1))
    clear HY CS CC
    go_wp2_with fail
    go_ret
    exact ⟨rfl, unhide HB2⟩
  · have e1 : ((i : Int) + 1 == ou) = false := beq_eq_false_iff_ne.2 h
    have e2 : decide ((i : Int) + 1 = ou) = false := decide_eq_false h
    clear HY CS CC h
    go_upto_region 8 with fail
    have hA := heap_alloc2_new w1 (.cells #[.int .u64 ru, .int .i64 cu, .int .u64 du, .int .i64 pu, .int .i64 ou] 25) (.cells #[.bool true, .int .i64 s, .bool false, .int .u64 r, .int .i64 c, .int .u64 d, .int .i64 p, .int .i64 ((i : Int) + 1)] 34)
    have hB := alloc_then (o := (.cells #[.bool true, .int .i64 s, .bool false, .int .u64 r, .int .i64 c, .int .u64 d, .int .i64 p, .int .i64 ((i : Int) + 1)] 34)) (unhide HB1)
    clear k0 k1 k2 k3 k4 k5 k6 k7 q0 q1 q2 q3 q4 q5 q6 q7 z0 z1 z2 z3 z4 z5 z6 z7 HB1
    generalize (w1.alloc (.cells #[.int .u64 ru, .int .i64 cu, .int .u64 du, .int .i64 pu, .int .i64 ou] 25)).alloc (.cells #[.bool true, .int .i64 s, .bool false, .int .u64 r, .int .i64 c, .int .u64 d, .int .i64 p, .int .i64 ((i : Int) + 1)] 34) = W4 at *
    obtain ⟨q0, q1, q2, q3, q4, q5, q6, q7, -⟩ := xcells hA
    have HA := hide hA
    have HB4 := hide hB
    have m0 := cell_regrown q0
    have m1 := cell_regrown q1
    have m2 := cell_regrown q2
    have m3 := cell_regrown q3
    have m4 := cell_regrown q4
    have m5 := cell_regrown q5
    have m6 := cell_regrown q6
    have m7 := cell_regrown q7
    clear hA hB q0 q1 q2 q3 q4 q5 q6 q7
    refine wp_region_quiet_below (by kernel_rfl) (by kernel_rfl) ?_
    repeat (go_big_quiet_step (fail))
    refine wpQuiet_nil ?_
    rintro _ ⟨⟨dq, osq⟩, rfl⟩
    have HB5 := hide (grown_then (unhide HB4) dq osq)
    clear m0 m1 m2 m3 m4 m5 m6 m7
    go_wp2_with fail
    go_ret
    exact ⟨rfl, unhide HB5⟩
  · obtain ⟨rfl, ho, rfl⟩ : up = true ∧ (i : Int) + 1 ≠ ou ∧ told = true := by
      rcases h with h | h <;> exact ⟨h.1, h.2.1, h.2.2.1⟩
    have HZ := hide h
    have e1 : ((i : Int) + 1 == ou) = false := beq_eq_false_iff_ne.2 ho
    have e2 : decide ((i : Int) + 1 = ou) = false := decide_eq_false ho
    clear HY h ho
    go_upto_region 8 with fail
    have hA := heap_alloc2_new w1 (.cells #[.int .u64 ru, .int .i64 cu, .int .u64 du, .int .i64 pu, .int .i64 ou] 25) (.cells #[.bool true, .int .i64 s, .bool true, .int .u64 r, .int .i64 c, .int .u64 d, .int .i64 p, .int .i64 ((i : Int) + 1)] 34)
    have hB := alloc_then (o := (.cells #[.bool true, .int .i64 s, .bool true, .int .u64 r, .int .i64 c, .int .u64 d, .int .i64 p, .int .i64 ((i : Int) + 1)] 34)) (unhide HB1)
    clear k0 k1 k2 k3 k4 k5 k6 k7 q0 q1 q2 q3 q4 q5 q6 q7 z0 z1 z2 z3 z4 z5 z6 z7 HB1
    generalize (w1.alloc (.cells #[.int .u64 ru, .int .i64 cu, .int .u64 du, .int .i64 pu, .int .i64 ou] 25)).alloc (.cells #[.bool true, .int .i64 s, .bool true, .int .u64 r, .int .i64 c, .int .u64 d, .int .i64 p, .int .i64 ((i : Int) + 1)] 34) = W4 at *
    obtain ⟨q0, q1, q2, q3, q4, q5, q6, q7, -⟩ := xcells hA
    have HA := hide hA
    have HB4 := hide hB
    have m0 := cell_regrown q0
    have m1 := cell_regrown q1
    have m2 := cell_regrown q2
    have m3 := cell_regrown q3
    have m4 := cell_regrown q4
    have m5 := cell_regrown q5
    have m6 := cell_regrown q6
    have m7 := cell_regrown q7
    clear hA hB q0 q1 q2 q3 q4 q5 q6 q7
    have CS4 : ∀ W, Below W4.heap.size W4 W → Calls Try.prog 11 #[.int .u64 (b : Int), .slice (some ⟨sb, so, none⟩) n cap, .int .i64 ((i : Int) + 1)] W fun e w' => e = .returned (.agg #[.int .u64 ru, .int .i64 cu, .int .u64 (b : Int), .int .i64 ((i : Int) + 1), .int .i64 ((i : Int) + 1)]) ∧ Below W.heap.size W w' := fun W hW => unhide CS W (bthen (unhide HB4) hW)
    have cs : ∀ d os, Calls Try.prog 11 #[.int .u64 (b : Int), .slice (some ⟨sb, so, none⟩) n cap, .int .i64 ((i : Int) + 1)] (grow (redrawn W4 d) os) fun e w'' => e = .returned (.agg #[.int .u64 ru, .int .i64 cu, .int .u64 (b : Int), .int .i64 ((i : Int) + 1), .int .i64 ((i : Int) + 1)]) ∧ ∃ p : Regrown, w'' = grow (redrawn W4 p.d) p.os := fun d os => Calls.regrown_of (CS4 _ (below_regrown W4 d os))
    have cc := at_grown (unhide CC) W4
    clear CS4 CS CC
    refine wp_region_quiet_below (by kernel_rfl) (by kernel_rfl) ?_
    repeat (go_big_quiet_step (first | (go_at_call 11; exact cs _ _) | (go_at_call 18; exact cc _ _)))
    refine wpQuiet_nil ?_
    rintro _ ⟨⟨dq, osq⟩, rfl⟩
    have HB5 := hide (grown_then (unhide HB4) dq osq)
    have HA5 := hide (Below.row (below_regrown W4 dq osq) (unhide HA))
    clear m0 m1 m2 m3 m4 m5 m6 m7 cs cc HA HB4
    generalize grow (redrawn W4 dq) osq = W5 at *
    obtain ⟨q0, q1, q2, q3, q4, q5, q6, q7, -⟩ := xcells (unhide HA5)
    rcases (unhide HZ) with ⟨-, -, -, ht, rfl⟩ | ⟨-, -, -, ht, hd⟩
    · have dt : decide (0 ≤ t) = true := decide_eq_true ht
      clear HZ
      go_wp2_with fail
      go_ret
      exact ⟨rfl, unhide HB5⟩
    · have dt : decide (0 ≤ t) = false := decide_eq_false (by omega)
      rcases hd with ⟨rfl, rfl⟩ | ⟨hd, rfl⟩
      · clear HZ
        go_wp2_with fail
        go_ret
        exact ⟨rfl, unhide HB5⟩
      · have e3 : (d == (b : Int)) = false := beq_eq_false_iff_ne.2 hd
        have e4 : decide (d = (b : Int)) = false := decide_eq_false hd
        clear HZ
        go_wp2_with fail
        go_ret
        exact ⟨rfl, unhide HB5⟩
theorem srole_any (b : Nat) (ao : Option Addr) (n cap i : Nat) (S : Nat → Vw) (w : World) (hb : b < 18446744073709551616) (hi : i < n) (hn : n ≤ 4000) (h : VwsIn w ao n cap S) :
    Calls Try.prog 24 #[.int .u64 (b : Int), .slice ao n cap, .int .i64 ((i : Int) + 1)] w fun e w' => e = .returned (.int .i64 (roleF b S n i)) ∧ Below w.heap.size w w' := by
  have CS := hide (fun (W : World) (hW : Below w.heap.size w W) => ssays_any b ao n cap S ((i : Int) + 1) W hb hn (h.below hW))
  have CR := hide (sroot_any b ao n cap S w hb hn h)
  obtain ⟨sb, so, rfl, hS⟩ := h.2.2.resolve_left (by omega)
  obtain ⟨hx, hf⟩ := hS i hi
  have CC := hide (fun W => wcmp_any ((S i).v.at ((i : Int) + 1)) (saysVc b (rootVc b S n) ((i : Int) + 1)) W)
  refine srole_at b sb so n cap i S (S i).up (S i).told (S i).cost (S i).v.root (S i).v.cost (S i).v.bridge (S i).v.port (S i).v.on (rootVc b S n).root (rootVc b S n).cost (rootVc b S n).bridge (rootVc b S n).port (rootVc b S n).on (((S i).v.at ((i : Int) + 1)).cmp (saysVc b (rootVc b S n) ((i : Int) + 1))) _ w hi hn hx rfl CR CS CC ?_
  have hsb : (saysVc b (rootVc b S n) ((i : Int) + 1)).bridge = b := rfl
  have hso : (saysVc b (rootVc b S n) ((i : Int) + 1)).on = (i : Int) + 1 := rfl
  unfold roleF roleOf
  rw [hso, hsb]
  cases hu : (S i).up with
  | false => exact .inl ⟨rfl, by simp⟩
  | true =>
    by_cases ho : (i : Int) + 1 = (rootVc b S n).on
    · exact .inr (.inl ⟨rfl, ho, by simp [ho]⟩)
    · cases ht : (S i).told with
      | false => exact .inr (.inr (.inl ⟨rfl, ho, rfl, by simp [ho]⟩))
      | true =>
        have hd : decide ((i : Int) + 1 = (rootVc b S n).on) = false := decide_eq_false ho
        rw [hd]
        by_cases hc : 0 ≤ ((S i).v.at ((i : Int) + 1)).cmp (saysVc b (rootVc b S n) ((i : Int) + 1))
        · exact .inr (.inr (.inr (.inl ⟨rfl, ho, rfl, hc, by simp [hc]⟩)))
        · refine .inr (.inr (.inr (.inr ⟨rfl, ho, rfl, by omega, ?_⟩)))
          by_cases hb2 : (S i).v.bridge = b
          · exact .inl ⟨by omega, by rw [if_neg (by simp), if_neg (by simp), if_neg (fun q => q.elim (fun q => by cases q) hc), if_pos hb2]⟩
          · exact .inr ⟨by omega, by rw [if_neg (by simp), if_neg (by simp), if_neg (fun q => q.elim (fun q => by cases q) hc), if_neg hb2]⟩
set_option maxHeartbeats 1000000 in
set_option maxRecDepth 100000 in
theorem sall_any (b : Nat) (ao : Option Addr) (n cap : Nat) (S : Nat → Vw) (w : World) (hb : b < 18446744073709551616) (hn : n ≤ 4000) (h : VwsIn w ao n cap S) :
    Calls Try.prog 14 #[.int .u64 (b : Int), .slice ao n cap] w fun e w' => (∃ v, e = .returned v ∧ Nums w.heap.size w' v n (roleF b S n)) ∧ Below w.heap.size w w' := by
  have hnc : n ≤ cap := h.1
  have hcm : cap ≤ maxLen := h.2.1
  unfold maxLen at hcm
  have CL := hide (fun (W : World) (i : Nat) (hi : i < n) (hW : Below w.heap.size w W) => srole_any b ao n cap i S W hb hi hn (h.below hW))
  obtain ⟨R, hR⟩ : ∃ R, roleF b S n = R := ⟨_, rfl⟩
  rw [hR] at CL ⊢
  have own : (w.alloc (.cells #[] 3)).ownsRow w.heap.size 3 1 (.slice (some ⟨w.heap.size, 0, none⟩) 0 0) 0 [] :=
    ⟨rfl, .inr ⟨w.heap.size, 0, #[], rfl, Nat.le_refl _, heap_alloc_new _ _, Nat.le_refl _, Nat.zero_le _, rfl, rfl⟩⟩
  have HN : Hid (Nums w.heap.size (w.alloc (.cells #[] 3)) (.slice (some ⟨w.heap.size, 0, none⟩) 0 0) 0 R) := hide ⟨_, _, rfl, own⟩
  have HB := hide (alloc_below w (.cells #[] 3))
  clear h hb hR own
  go_enter Try.func14, Try.ntmps14
  go_wp2_with fail
  go_loopw [5, 6] (fun v a wr => ∃ (i g c : Nat), v = .slice (some ⟨g, 0, none⟩) i c ∧ a = .int .i64 i ∧ i ≤ n ∧ Nums w.heap.size wr (.slice (some ⟨g, 0, none⟩) i c) i R ∧ Below w.heap.size w wr) (fun _ a _ => (n - intOf a).toNat)
  case atStart => exact ⟨0, _, _, rfl, rfl, Nat.zero_le _, unhide HN, unhide HB⟩
  case round =>
    obtain ⟨i, g, c, rfl, rfl, hin, hnm, hbl⟩ := hrel
    have HN2 := hide hnm
    have HB2 := hide hbl
    clear hnm hbl HN HB
    by_cases hlt : i < n
    · have hiI : (i : Int) < (n : Int) := by omega
      have hwi : wrap64 ((i : Int) + 1) = (i : Int) + 1 := by unfold wrap64; omega
      have C := hide (unhide CL wr i hlt (unhide HB2))
      generalize hx : R i = x at C
      have HX := hide hx
      clear hx
      go_wp2_with (first | (go_at_call 24; refine (unhide C).mono ?_; rintro e w2 ⟨rfl, b2⟩) | (at_builtin; refine wp_num rfl (.tmp 14) (.tmp 20) rfl w _ _ i R x (unhide HX).symm rfl ((unhide HN2).below b2) (bthen (unhide HB2) b2) rfl (by omega) ?_; intro r2 c2 w3 H3))
      go_roundw
      case rel => exact ⟨i + 1, r2, c2, rfl, by go_num, by omega, (unhide H3).1, (unhide H3).2⟩
      case measure => simp [intOf]; omega
    · obtain rfl : i = n := by omega
      go_wp2_with fail
      go_ret
      exact ⟨⟨_, rfl, unhide HN2⟩, unhide HB2⟩
end Go.Proofs.Ytagfaaciakbnbaa
