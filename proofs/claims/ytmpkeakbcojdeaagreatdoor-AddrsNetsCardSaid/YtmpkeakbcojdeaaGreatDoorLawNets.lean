/-
  The law gangwaylaw02.AddrsNets holds for every two nets and address: it answers true, and they are as they were.
-/
import Derived.Test.YtmpkeakbcojdeaaGreatDoorRowNet
import Derived.Deep.DeepCutAuto
namespace Go.Proofs.YtmpkeakbcojdeaaGreatDoor.addrsNets
open Go.ChangeShapes Go.WideShapes Go.ChangeAt Go.RowKit Go.Sort

/-- two nets with an address in common: the lesser one is in the other -/
theorem near_of (ip kp jp kq a : Nat) (h1 : ip % 2 ^ kp = 0) (h2 : jp % 2 ^ kq = 0) (hk : kp ≤ kq) (p1 : ip ≤ a) (p2 : a < ip + 2 ^ kp) (q1 : jp ≤ a) (q2 : a < jp + 2 ^ kq) : jp ≤ ip ∧ ip + 2 ^ kp ≤ jp + 2 ^ kq := by
  obtain ⟨d, rfl⟩ : ∃ d, kq = kp + d := ⟨kq - kp, by omega⟩
  rw [Nat.pow_add] at h2 q2 ⊢
  have hp : 0 < 2 ^ kp := Nat.two_pow_pos kp
  have hd : 0 < 2 ^ d := Nat.two_pow_pos d
  generalize 2 ^ kp = m at *
  generalize 2 ^ d = q at *
  obtain ⟨i, rfl⟩ : ∃ i, ip = m * i := ⟨ip / m, by have := Nat.div_add_mod ip m; omega⟩
  obtain ⟨j, rfl⟩ : ∃ j, jp = m * q * j := ⟨jp / (m * q), by have := Nat.div_add_mod jp (m * q); omega⟩
  have e1 : m * q * j = m * (q * j) := Nat.mul_assoc _ _ _
  rw [e1] at q1 q2 ⊢
  have e2 : m * i + m = m * (i + 1) := by rw [Nat.mul_add, Nat.mul_one]
  have e3 : m * (q * j) + m * q = m * (q * j + q) := by rw [Nat.mul_add]
  rw [e2] at p2 ⊢
  rw [e3] at q2 ⊢
  have f1 : m * (q * j) < m * (i + 1) := Nat.lt_of_le_of_lt q1 p2
  have f2 : m * i < m * (q * j + q) := Nat.lt_of_le_of_lt p1 q2
  have g1 : q * j < i + 1 := Nat.lt_of_mul_lt_mul_left f1
  have g2 : i < q * j + q := Nat.lt_of_mul_lt_mul_left f2
  exact ⟨Nat.mul_le_mul_left m (by omega), Nat.mul_le_mul_left m (by omega)⟩
theorem near_or (ip : Nat) (b : Int) (jp : Nat) (c : Int) (a : Nat) (hp : InNet ip b a) (hq : InNet jp c a) : NearNet ip b jp c ∨ NearNet jp c ip b := by
  obtain ⟨h1, p1, p2⟩ := hp
  obtain ⟨h2, q1, q2⟩ := hq
  by_cases hk : 32 - b.toNat ≤ 32 - c.toNat
  · obtain ⟨x, y⟩ := near_of ip _ jp _ a h1.2.2 h2.2.2 hk p1 p2 q1 q2
    exact Or.inl ⟨h1, h2, x, y⟩
  · obtain ⟨x, y⟩ := near_of jp _ ip _ a h2.2.2 h1.2.2 (by omega) q1 q2 p1 p2
    exact Or.inr ⟨h2, h1, x, y⟩
theorem near_in (ip : Nat) (b : Int) (jp : Nat) (c : Int) (a : Nat) (h : NearNet ip b jp c) (hp : InNet ip b a) : InNet jp c a := by
  obtain ⟨h1, h2, h3, h4⟩ := h
  obtain ⟨_, p1, p2⟩ := hp
  exact ⟨h2, by omega, by omega⟩
theorem near_self (ip : Nat) (b : Int) (h : IsNet ip b) : NearNet ip b ip b := ⟨h, h, Nat.le_refl _, Nat.le_refl _⟩
theorem near_both (ip : Nat) (b : Int) (jp : Nat) (c : Int) (h1 : IsNet ip b) (h2 : IsNet jp c) : (NearNet ip b jp c ∧ NearNet jp c ip b) ↔ (ip = jp ∧ b = c) := by
  constructor
  · rintro ⟨⟨_, _, x, y⟩, ⟨_, _, z, u⟩⟩
    obtain rfl : ip = jp := by omega
    refine ⟨rfl, ?_⟩
    have e : wide b = wide c := by omega
    unfold wide at e
    have := (Nat.pow_right_inj (a := 2) (by omega)).1 e
    have := h1.1; have := h1.2.1; have := h2.1; have := h2.2.1
    omega
  · rintro ⟨rfl, rfl⟩
    exact ⟨near_self ip b h1, near_self ip b h1⟩
theorem in_last (ip : Nat) (b : Int) (a : Nat) (h : IsNet ip b) : InNet ip b a ↔ ip ≤ a ∧ a ≤ lastOf ip b := by
  have := wide_pos b
  rw [lastOf, if_pos h]
  constructor
  · rintro ⟨_, x, y⟩; exact ⟨x, by omega⟩
  · rintro ⟨x, y⟩; exact ⟨h, x, by omega⟩

/-- two nets in blocks of their own, in a world behind w -/
def Held (w : World) (A B ip : Nat) (b : Int) (jp : Nat) (c : Int) (W : World) : Prop :=
  W.cell? ⟨A, 0, none⟩ = some (.int .u32 ip) ∧ W.cell? ⟨A, 1, none⟩ = some (.int .i64 b) ∧ W.cell? ⟨B, 0, none⟩ = some (.int .u32 jp) ∧ W.cell? ⟨B, 1, none⟩ = some (.int .i64 c) ∧ Below w.heap.size w W
theorem Held.next {w : World} {A B ip : Nat} {b : Int} {jp : Nat} {c : Int} {W W' : World} (h : Held w A B ip b jp c W) (hb : Below W.heap.size W W') : Held w A B ip b jp c W' := by
  obtain ⟨h1, h2, h3, h4, h5⟩ := h
  exact ⟨(hb.cell (block_lt_of_cell h1)).trans h1, (hb.cell (block_lt_of_cell h2)).trans h2, (hb.cell (block_lt_of_cell h3)).trans h3, (hb.cell (block_lt_of_cell h4)).trans h4, bthen h5 hb⟩

theorem held1 (w : World) (o : Obj) (ip : Nat) (b : Int) (jp : Nat) (c : Int) (T : TypeId) : Held w (w.heap.size + 1) (w.heap.size + 1 + 1) ip b jp c (((w.alloc o).alloc (.cells #[.int .u32 ip, .int .i64 b] T)).alloc (.cells #[.int .u32 jp, .int .i64 c] T)).drew := by
  refine ⟨?_, ?_, ?_, ?_, ?_⟩
  · show (((w.alloc o).alloc _).alloc _).cell? _ = _
    rw [World.cell?_alloc_old _ _ _ (by simp), World.cell?_alloc_at _ _ _ _ (by simp)]; rfl
  · show (((w.alloc o).alloc _).alloc _).cell? _ = _
    rw [World.cell?_alloc_old _ _ _ (by simp), World.cell?_alloc_at _ _ _ _ (by simp)]; rfl
  · show (((w.alloc o).alloc _).alloc _).cell? _ = _
    rw [World.cell?_alloc_at _ _ _ _ (by simp)]; rfl
  · show (((w.alloc o).alloc _).alloc _).cell? _ = _
    rw [World.cell?_alloc_at _ _ _ _ (by simp)]; rfl
  · exact ((((Below.refl w.heap.size w).alloc (Nat.le_refl _) _).alloc (by simp) _).alloc (by simp; omega) _).trans ⟨rfl, rfl, rfl, Nat.le_refl _, fun _ _ => rfl⟩
theorem held2 (w : World) (o : Obj) (ip : Nat) (b : Int) (jp : Nat) (c : Int) (T : TypeId) : Held w (w.heap.size + 1 + 1) (w.heap.size + 1) ip b jp c (((w.alloc o).alloc (.cells #[.int .u32 jp, .int .i64 c] T)).alloc (.cells #[.int .u32 ip, .int .i64 b] T)).drew := by
  obtain ⟨h1, h2, h3, h4, h5⟩ := held1 w o jp c ip b T
  exact ⟨h3, h4, h1, h2, h5⟩
section
variable {w : World} {A B ip : Nat} {b : Int} {jp : Nat} {c : Int}
theorem net_is (pp : Nat) (bb : Int) (hi : pp < 4294967296) (t : Bool) (h : decide (IsNet pp bb) = t) (W : World) (hH : Held w A B ip b jp c W) :
    Calls Tryz.prog 22 #[.agg #[.int .u32 pp, .int .i64 bb]] W fun e W' => e = .returned (.bool t) ∧ Held w A B ip b jp c W' :=
  (net_any pp bb W hi).mono fun _ _ ⟨he, hb⟩ => ⟨by rw [he, h], hH.next hb⟩
theorem in_is (pp : Nat) (bb : Int) (a : Nat) (hi : pp < 4294967296) (ha : a < 4294967296) (t : Bool) (h : decide (InNet pp bb a) = t) (W : World) (hH : Held w A B ip b jp c W) :
    Calls Tryz.prog 24 #[.agg #[.int .u32 pp, .int .i64 bb], .int .u32 a] W fun e W' => e = .returned (.bool t) ∧ Held w A B ip b jp c W' :=
  (in_any pp bb a W hi ha).mono fun _ _ ⟨he, hb⟩ => ⟨by rw [he, h], hH.next hb⟩
theorem near_is (pp : Nat) (bb : Int) (qp : Nat) (cc : Int) (hi : pp < 4294967296) (hj : qp < 4294967296) (t : Bool) (h : decide (NearNet pp bb qp cc) = t) (W : World) (hH : Held w A B ip b jp c W) :
    Calls Tryz.prog 28 #[.agg #[.int .u32 pp, .int .i64 bb], .agg #[.int .u32 qp, .int .i64 cc]] W fun e W' => e = .returned (.bool t) ∧ Held w A B ip b jp c W' :=
  (near_any pp bb qp cc W hi hj).mono fun _ _ ⟨he, hb⟩ => ⟨by rw [he, h], hH.next hb⟩
theorem fixed_is (hw : St w) (W : World) (hH : Held w A B ip b jp c W) :
    Calls Tryz.prog 13 #[] W fun e W' => e = .returned (.bool true) ∧ Held w A B ip b jp c W' :=
  (fixed_any W (hw.next hH.2.2.2.2)).mono fun _ _ ⟨he, hb⟩ => ⟨he, hH.next hb⟩
end
set_option maxRecDepth 20000 in
set_option maxHeartbeats 8000000 in
theorem walk (ip : Nat) (b : Int) (jp : Nat) (c : Int) (a : Nat) (w : World) (hw : St w) (hi : ip < 4294967296) (hj : jp < 4294967296) (ha : a < 4294967296) :
    Calls Tryz.prog 6 #[.agg #[.int .u32 ip, .int .i64 b, .int .u32 jp, .int .i64 c], .int .u32 a] w fun e w' => e = .returned (.bool true) ∧ Below w.heap.size w w' := by
  go_enter Tryz.func6, Tryz.ntmps6
  go_upto_region 1 with fail
  go_cut [5, 6] (fun x y wx => ∃ A B : Nat, x = .pointer (some ⟨A, 0, none⟩) ∧ y = .pointer (some ⟨B, 0, none⟩) ∧ Held w A B ip b jp c wx)
  case first =>
    go_region
    all_goals
      go_wp2_with fail
      go_meet
    · exact ⟨_, _, rfl, rfl, held1 w _ ip b jp c _⟩
    · exact ⟨_, _, rfl, rfl, held2 w _ ip b jp c _⟩
  case rest =>
    obtain ⟨A, B, rfl, rfl, H⟩ := hcut
    have G := H
    obtain ⟨k0, k1, k2, k3, _⟩ := G
    by_cases hp : IsNet ip b
    · by_cases hq : IsNet jp c
      · have c1 := hide (net_is (w := w) (A := A) (B := B) (ip := ip) (b := b) (jp := jp) (c := c) ip b hi true (decide_eq_true hp))
        have c2 := hide (net_is (w := w) (A := A) (B := B) (ip := ip) (b := b) (jp := jp) (c := c) jp c hj true (decide_eq_true hq))
        obtain ⟨x, hx⟩ : ∃ x, decide (InNet ip b a) = x := ⟨_, rfl⟩
        obtain ⟨y, hy⟩ : ∃ y, decide (InNet jp c a) = y := ⟨_, rfl⟩
        obtain ⟨u, hu⟩ : ∃ u, decide (NearNet ip b jp c) = u := ⟨_, rfl⟩
        obtain ⟨v, hv⟩ : ∃ v, decide (NearNet jp c ip b) = v := ⟨_, rfl⟩
        have f1 : (x && y && !u && !v) = false := by
          cases x <;> cases y <;> cases u <;> cases v <;> first | rfl | (exfalso; have n1 := near_or ip b jp c a (of_decide_eq_true hx) (of_decide_eq_true hy); exact n1.elim (of_decide_eq_false hu) (of_decide_eq_false hv))
        have f2 : (u && x && !y) = false := by
          cases x <;> cases y <;> cases u <;> first | rfl | (exfalso; exact of_decide_eq_false hy (near_in ip b jp c a (of_decide_eq_true hu) (of_decide_eq_true hx)))
        have cX := hide (in_is (w := w) (A := A) (B := B) (ip := ip) (b := b) (jp := jp) (c := c) ip b a hi ha x hx)
        have cY := hide (in_is (w := w) (A := A) (B := B) (ip := ip) (b := b) (jp := jp) (c := c) jp c a hj ha y hy)
        have cU := hide (near_is (w := w) (A := A) (B := B) (ip := ip) (b := b) (jp := jp) (c := c) ip b jp c hi hj u hu)
        have cV := hide (near_is (w := w) (A := A) (B := B) (ip := ip) (b := b) (jp := jp) (c := c) jp c ip b hj hi v hv)
        go_wp2_with fail
        refine (unhide c1 _ H).mono ?_
        rintro e w2 ⟨rfl, H2⟩
        have G2 := H2
        obtain ⟨k0, k1, k2, k3, _⟩ := G2
        go_wp2_with fail
        refine (unhide c2 _ H2).mono ?_
        rintro e w3 ⟨rfl, H3⟩
        have G3 := H3
        obtain ⟨k0, k1, k2, k3, _⟩ := G3
        clear c1 c2
        go_upto_region 4 with fail
        go_cut [7] (fun s wx => s = .bool (x && y) ∧ Held w A B ip b jp c wx)
        case first =>
          go_wp2_with fail
          refine (unhide cX _ H3).mono ?_
          rintro e w4 ⟨rfl, H4⟩
          have G4 := H4
          obtain ⟨k0, k1, k2, k3, _⟩ := G4
          cases x
          · go_wp2_with fail
            go_meet
            exact ⟨rfl, H4⟩
          · go_wp2_with fail
            refine (unhide cY _ H4).mono ?_
            rintro e w5 ⟨rfl, H5⟩
            go_wp2_with fail
            go_meet
            exact ⟨rfl, H5⟩
        case rest =>
          obtain ⟨rfl, H4⟩ := hcut
          have G4 := H4
          obtain ⟨k0, k1, k2, k3, _⟩ := G4
          clear H H2 H3
          go_upto_region 5 with fail
          go_cut [69] (fun s wx => s = .bool false ∧ Held w A B ip b jp c wx)
          case first =>
            clear hx hy hu hv
            cases x <;> cases y <;> cases u <;> cases v
            all_goals first | (cases f1; done) | (cases f2; done) | skip
            all_goals
              go_wp2_with (first
                | (go_at_call_of 28 (#[Value.agg #[Value.int IntKind.u32 (ip : Int), Value.int IntKind.i64 b], Value.agg #[Value.int IntKind.u32 (jp : Int), Value.int IntKind.i64 c]]); refine (unhide cU _ (by assumption)).mono ?_; rintro e w5 ⟨rfl, H5⟩; have G5 := H5; obtain ⟨k0, k1, k2, k3, _⟩ := G5)
                | (go_at_call_of 28 (#[Value.agg #[Value.int IntKind.u32 (jp : Int), Value.int IntKind.i64 c], Value.agg #[Value.int IntKind.u32 (ip : Int), Value.int IntKind.i64 b]]); refine (unhide cV _ (by assumption)).mono ?_; rintro e w5 ⟨rfl, H5⟩; have G5 := H5; obtain ⟨k0, k1, k2, k3, _⟩ := G5)
                | (go_at_call_of 24 (#[Value.agg #[Value.int IntKind.u32 (ip : Int), Value.int IntKind.i64 b], Value.int IntKind.u32 (a : Int)]); refine (unhide cX _ (by assumption)).mono ?_; rintro e w5 ⟨rfl, H5⟩; have G5 := H5; obtain ⟨k0, k1, k2, k3, _⟩ := G5)
                | (go_at_call_of 24 (#[Value.agg #[Value.int IntKind.u32 (jp : Int), Value.int IntKind.i64 c], Value.int IntKind.u32 (a : Int)]); refine (unhide cY _ (by assumption)).mono ?_; rintro e w5 ⟨rfl, H5⟩; have G5 := H5; obtain ⟨k0, k1, k2, k3, _⟩ := G5))
              go_meet
              exact ⟨rfl, by assumption⟩
          case rest =>
            obtain ⟨rfl, H5⟩ := hcut
            have G5 := H5
            obtain ⟨k0, k1, k2, k3, hb5⟩ := G5
            clear H4 cX cY cU cV f1 f2
            have cX := in_at wc ip b a hi ha x hx
            have cL := last_at wc ip b hi
            have cS := near_at wc ip b ip b hi hi true (decide_eq_true (near_self ip b hp))
            have cU := near_at wc ip b jp c hi hj u hu
            have cV := near_at wc jp c ip b hj hi v hv
            have cF := fixed_at wc (hw.next hb5)
            have s0 := cell_regrown k0
            have s1 := cell_regrown k1
            have s2 := cell_regrown k2
            have s3 := cell_regrown k3
            have hil := in_last ip b a hp
            generalize lastOf ip b = L at cL hil
            obtain ⟨t1, h1⟩ : ∃ t, decide ((ip : Int) ≤ (a : Int)) = t := ⟨_, rfl⟩
            obtain ⟨t2, h2⟩ : ∃ t, decide ((a : Int) ≤ (L : Int)) = t := ⟨_, rfl⟩
            have h1n : decide (ip ≤ a) = t1 := by rw [← h1]; exact decide_eq_decide.2 (by omega)
            have h2n : decide (a ≤ L) = t2 := by rw [← h2]; exact decide_eq_decide.2 (by omega)
            have hxt : x = (t1 && t2) := by
              rw [← hx, ← h1, ← h2, ← Bool.decide_and]
              exact decide_eq_decide.2 (hil.trans ⟨fun z => ⟨by omega, by omega⟩, fun z => ⟨by omega, by omega⟩⟩)
            have hsm := same_net ip b jp c
            have hgd := guard_net
            rw [show decide (ip = jp ∧ b = c) = (u && v) by
              rw [← hu, ← hv, ← Bool.decide_and]
              exact (decide_eq_decide.2 (near_both ip b jp c hp hq)).symm] at hsm
            clear hx hu hv hil k0 k1 k2 k3 H5 hp hq hw
            cases t1
            · obtain rfl : x = false := hxt
              cases u
              · rw [Bool.false_and] at hsm
                go_wp2_with fail
                refine wp_region_quiet_below (by kernel_rfl) (by kernel_rfl) ?_
                repeat (go_big_quiet_step (first | (go_at_call 24; exact cX _ _) | (go_at_call 26; exact cL _ _) | (go_at_call_of 28 (#[Value.agg #[Value.int IntKind.u32 (ip : Int), Value.int IntKind.i64 b], Value.agg #[Value.int IntKind.u32 (ip : Int), Value.int IntKind.i64 b]]); exact cS _ _) | (go_at_call_of 28 (#[Value.agg #[Value.int IntKind.u32 (ip : Int), Value.int IntKind.i64 b], Value.agg #[Value.int IntKind.u32 (jp : Int), Value.int IntKind.i64 c]]); exact cU _ _) | (go_at_call_of 28 (#[Value.agg #[Value.int IntKind.u32 (jp : Int), Value.int IntKind.i64 c], Value.agg #[Value.int IntKind.u32 (ip : Int), Value.int IntKind.i64 b]]); exact cV _ _) | (go_at_call 13; exact cF _ _)))
                refine wpQuiet_nil ?_
                rintro _ ⟨⟨d7, o7⟩, rfl⟩
                go_wp2_with fail
                go_ret
                exact ⟨rfl, below_then w wc hb5 d7 o7⟩
              · rw [Bool.true_and] at hsm
                cases v
                all_goals
                  go_wp2_with fail
                  refine wp_region_quiet_below (by kernel_rfl) (by kernel_rfl) ?_
                  repeat (go_big_quiet_step (first | (go_at_call 24; exact cX _ _) | (go_at_call 26; exact cL _ _) | (go_at_call_of 28 (#[Value.agg #[Value.int IntKind.u32 (ip : Int), Value.int IntKind.i64 b], Value.agg #[Value.int IntKind.u32 (ip : Int), Value.int IntKind.i64 b]]); exact cS _ _) | (go_at_call_of 28 (#[Value.agg #[Value.int IntKind.u32 (ip : Int), Value.int IntKind.i64 b], Value.agg #[Value.int IntKind.u32 (jp : Int), Value.int IntKind.i64 c]]); exact cU _ _) | (go_at_call_of 28 (#[Value.agg #[Value.int IntKind.u32 (jp : Int), Value.int IntKind.i64 c], Value.agg #[Value.int IntKind.u32 (ip : Int), Value.int IntKind.i64 b]]); exact cV _ _) | (go_at_call 13; exact cF _ _)))
                  refine wpQuiet_nil ?_
                  rintro _ ⟨⟨d7, o7⟩, rfl⟩
                  go_wp2_with fail
                  go_ret
                  exact ⟨rfl, below_then w wc hb5 d7 o7⟩
            · obtain rfl : x = t2 := hxt
              cases x
              all_goals
                cases u
                · rw [Bool.false_and] at hsm
                  go_wp2_with fail
                  refine wp_region_quiet_below (by kernel_rfl) (by kernel_rfl) ?_
                  repeat (go_big_quiet_step (first | (go_at_call 24; exact cX _ _) | (go_at_call 26; exact cL _ _) | (go_at_call_of 28 (#[Value.agg #[Value.int IntKind.u32 (ip : Int), Value.int IntKind.i64 b], Value.agg #[Value.int IntKind.u32 (ip : Int), Value.int IntKind.i64 b]]); exact cS _ _) | (go_at_call_of 28 (#[Value.agg #[Value.int IntKind.u32 (ip : Int), Value.int IntKind.i64 b], Value.agg #[Value.int IntKind.u32 (jp : Int), Value.int IntKind.i64 c]]); exact cU _ _) | (go_at_call_of 28 (#[Value.agg #[Value.int IntKind.u32 (jp : Int), Value.int IntKind.i64 c], Value.agg #[Value.int IntKind.u32 (ip : Int), Value.int IntKind.i64 b]]); exact cV _ _) | (go_at_call 13; exact cF _ _)))
                  refine wpQuiet_nil ?_
                  rintro _ ⟨⟨d7, o7⟩, rfl⟩
                  go_wp2_with fail
                  go_ret
                  exact ⟨rfl, below_then w wc hb5 d7 o7⟩
                · rw [Bool.true_and] at hsm
                  cases v
                  all_goals
                    go_wp2_with fail
                    refine wp_region_quiet_below (by kernel_rfl) (by kernel_rfl) ?_
                    repeat (go_big_quiet_step (first | (go_at_call 24; exact cX _ _) | (go_at_call 26; exact cL _ _) | (go_at_call_of 28 (#[Value.agg #[Value.int IntKind.u32 (ip : Int), Value.int IntKind.i64 b], Value.agg #[Value.int IntKind.u32 (ip : Int), Value.int IntKind.i64 b]]); exact cS _ _) | (go_at_call_of 28 (#[Value.agg #[Value.int IntKind.u32 (ip : Int), Value.int IntKind.i64 b], Value.agg #[Value.int IntKind.u32 (jp : Int), Value.int IntKind.i64 c]]); exact cU _ _) | (go_at_call_of 28 (#[Value.agg #[Value.int IntKind.u32 (jp : Int), Value.int IntKind.i64 c], Value.agg #[Value.int IntKind.u32 (ip : Int), Value.int IntKind.i64 b]]); exact cV _ _) | (go_at_call 13; exact cF _ _)))
                    refine wpQuiet_nil ?_
                    rintro _ ⟨⟨d7, o7⟩, rfl⟩
                    go_wp2_with fail
                    go_ret
                    exact ⟨rfl, below_then w wc hb5 d7 o7⟩
      · have c1 := hide (net_is (w := w) (A := A) (B := B) (ip := ip) (b := b) (jp := jp) (c := c) ip b hi true (decide_eq_true hp))
        have c2 := hide (net_is (w := w) (A := A) (B := B) (ip := ip) (b := b) (jp := jp) (c := c) jp c hj false (decide_eq_false hq))
        have cU := hide (near_is (w := w) (A := A) (B := B) (ip := ip) (b := b) (jp := jp) (c := c) ip b jp c hi hj false (decide_eq_false fun h => hq h.2.1))
        have cV := hide (near_is (w := w) (A := A) (B := B) (ip := ip) (b := b) (jp := jp) (c := c) jp c ip b hj hi false (decide_eq_false fun h => hq h.1))
        go_wp2_with fail
        refine (unhide c1 _ H).mono ?_
        rintro e w2 ⟨rfl, H2⟩
        have G2 := H2
        obtain ⟨k0, k1, k2, k3, _⟩ := G2
        go_wp2_with fail
        refine (unhide c2 _ H2).mono ?_
        rintro e w3 ⟨rfl, H3⟩
        have G3 := H3
        obtain ⟨k0, k1, k2, k3, _⟩ := G3
        go_wp2_with fail
        refine (unhide cU _ H3).mono ?_
        rintro e w4 ⟨rfl, H4⟩
        have G4 := H4
        obtain ⟨k0, k1, k2, k3, _⟩ := G4
        go_wp2_with fail
        refine (unhide cV _ H4).mono ?_
        rintro e w5 ⟨rfl, H5⟩
        go_wp2_with fail
        refine (fixed_is hw _ H5).mono ?_
        rintro e w6 ⟨rfl, H6⟩
        go_wp2_with fail
        go_ret
        exact ⟨rfl, H6.2.2.2.2⟩
    · have c1 := hide (net_is (w := w) (A := A) (B := B) (ip := ip) (b := b) (jp := jp) (c := c) ip b hi false (decide_eq_false hp))
      have cU := hide (near_is (w := w) (A := A) (B := B) (ip := ip) (b := b) (jp := jp) (c := c) ip b jp c hi hj false (decide_eq_false fun h => hp h.1))
      have cV := hide (near_is (w := w) (A := A) (B := B) (ip := ip) (b := b) (jp := jp) (c := c) jp c ip b hj hi false (decide_eq_false fun h => hp h.2.1))
      go_wp2_with fail
      refine (unhide c1 _ H).mono ?_
      rintro e w2 ⟨rfl, H2⟩
      have G2 := H2
      obtain ⟨k0, k1, k2, k3, _⟩ := G2
      go_wp2_with fail
      refine (unhide cU _ H2).mono ?_
      rintro e w3 ⟨rfl, H3⟩
      have G3 := H3
      obtain ⟨k0, k1, k2, k3, _⟩ := G3
      go_wp2_with fail
      refine (unhide cV _ H3).mono ?_
      rintro e w4 ⟨rfl, H4⟩
      go_wp2_with fail
      refine (fixed_is hw _ H4).mono ?_
      rintro e w5 ⟨rfl, H5⟩
      go_wp2_with fail
      go_ret
      exact ⟨rfl, H5.2.2.2.2⟩

set_option maxRecDepth 100000 in
theorem lifted (os : Os) (started : os.Started) (H : Type) (enc : TypeId × Value → H) :
    ReturnsInHanded {} Tryz.checked os 6 .any (fun w args => (Rows.addrsNetsSpec.pre enc Tryz.prog Tryz.f6 [] false w args ∧ laidMetH Tryz.prog Rows.addrsTextsRow.laid w) ∧ sizedMet enc Tryz.prog Tryz.f6 (OpenSpec.ofChange Rows.addrsNetsSpec) false w args)
      (Rows.addrsNetsSpec.post enc Tryz.prog Tryz.f6 false true false false) := by
  refine handed_shaped (C := Tryz.checked) (X := fun w _ => laidMetH Tryz.prog Rows.addrsTextsRow.laid w) (fun _ _ _ hh h => h.of_heap hh) own started (by kernel_rfl) Tryz.func6
    (ChangeSpec.witness_shaped (enc := enc) (C := Tryz.checked) (os := os) (X := fun w _ => laidMetH Tryz.prog Rows.addrsTextsRow.laid w) false
      (({ World.holding Tryz.prog os ⟨#[], #[], []⟩ with heap := (World.holding Tryz.prog os ⟨#[], #[], []⟩).heap.modify 0 fun
        | .cells _ t frozen => .cells #[.iface 121 (.agg #[.pointer (some ⟨9, 64, none⟩)])] t frozen
        | o => o } : World).layVars Tryz.prog (Rows.addrsTextsRow.laid.filter fun x => x.2.handleName?.isNone)) #[.agg #[.int .u32 0, .int .i64 0, .int .u32 0, .int .i64 0], .int .u32 0] 8 (World.layVars_os _ _ _)
      (World.shaped_of_ZipB (by kernel_rfl) (by kernel_rfl)) (by kernel_rfl) (by kernel_rfl) (by kernel_rfl) (laid_met os _)) ?_
  intro W base args ds gs before hval0 hW hL hsh
  have hval : ∀ (j : Nat) t v, Tryz.f6.params[j]? = some t → args[j]? = some v → Value.okWide Tryz.prog W .any base t v := hval0
  have hW' := hW
  obtain ⟨p, q, hA0, hV0, rfl, hfz, hnd⟩ := hW
  have hA : DataW.TrodAll enc Tryz.prog W 0 (fun _ => true) true Tryz.f6.params.toList args.toList ds p := hA0
  have hV : DataW.TrodVars enc Tryz.prog W (fun _ => true) [] gs q := hV0
  rw [Tryz.params6] at hA hval
  obtain ⟨v0, v1, d0, d1, p0, p1, rfl, rfl, rfl, h0, h1⟩ := trodAll_two hA
  obtain ⟨i0, n0, j0, o0, rfl, rfl, rfl, l0, x0, y0, k0, z0, u0⟩ := open_two (hval 0 36 v0 rfl rfl) h0
  obtain ⟨a1, rfl, rfl, rfl, w1⟩ := open_int Tryz.underlying23 (hval 1 23 v1 rfl rfl) h1
  have b1 := bounds_u32 w1
  obtain ⟨m1, rfl⟩ : ∃ m : Nat, a1 = m := ⟨a1.toNat, by omega⟩
  obtain ⟨rfl, rfl⟩ := trodVars_none hV
  have hg := st_of_laid hL hsh
  have e1 : Rows.addrsNetsSpec.fn H ([.agg [netD i0 n0, netD j0 o0], .lit (.int .u32 (m1 : Int))] ++ []) = { results := [.lit (.bool true)], args := [.agg [netD i0 n0, netD j0 o0], .lit (.int .u32 (m1 : Int))] } := by simp [Rows.addrsNetsSpec]
  refine (walk i0 n0 j0 o0 m1 W hg l0 k0 (by omega)).mono fun e W' ⟨he, hb⟩ => ?_
  subst he
  refine ⟨_, rfl, _, _, _, [], [], [], hW', ?_, ?_, ?_, hb.frame _, fun h => by cases h⟩
  · rw [e1]; exact trodAll_mk1 (shut_bool Tryz.underlying4 true)
  · rw [e1]; exact trodAll_mk2 (shut_two i0 n0 j0 o0 x0 y0 z0 u0) (shut_int Tryz.underlying23 w1)
  · rw [e1]; rfl

theorem said : Rows.AddrsNetsSaid :=
  OpenClaim.holds_of_wide 6 Tryz.f6 rfl rfl rfl rfl rfl rfl rfl ⟨rfl, rfl, rfl, rfl, rfl⟩ rfl rfl rfl rfl rfl (by kernel_rfl) Tryz.func6 (by kernel_rfl)
    (of_decide_eq_true (by kernel_rfl)) (by unfold Func.isWrapper; rw [if_neg (of_decide_eq_false (by kernel_rfl))]; exact ⟨rfl, rfl⟩)
    (fun os started H enc _ => lifted os started H enc)

theorem plain (f : FuncId) (fn : Func) (hf : Tryz.pinned.checked.prog.funcNamed Rows.addrsNetsRow.func = some f) (hfn : Tryz.pinned.checked.prog.funcs[f]? = some fn) :
    true = Tryz.pinned.checked.prog.looks [] ∧ ∀ (j : Nat) t, fn.params[j]? = some t → Tryz.pinned.checked.prog.wantsStandIn t = false := by
  obtain rfl : f = 6 := Option.some.inj ((show Tryz.prog.funcNamed Rows.addrsNetsRow.func = some 6 by kernel_rfl).symm.trans hf) |>.symm
  obtain rfl : fn = Tryz.f6 := (Option.some.inj (Tryz.func6.symm.trans hfn)).symm
  refine ⟨by kernel_rfl, fun j t ht => ?_⟩
  rw [Tryz.params6] at ht
  have hm := Array.mem_of_getElem? ht
  simp only [List.mem_toArray, List.mem_cons, List.not_mem_nil, or_false] at hm
  rcases hm with rfl | rfl
  · exact (show Tryz.prog.wantsStandIn 36 = false by kernel_rfl)
  · exact (show Tryz.prog.wantsStandIn 23 = false by kernel_rfl)

theorem card : Rows.AddrsNetsCardSaid :=
  Claim7.holds_tied_plain_at .later [] _ _ _ _ said (fun _ h => by cases h) (by kernel_rfl) (fun _ h => by cases h) addrsNets_row_tie rfl ⟨rfl, rfl⟩ (by kernel_rfl) rfl plain (by kernel_rfl)
end Go.Proofs.YtmpkeakbcojdeaaGreatDoor.addrsNets
namespace Go.Proofs.YtmpkeakbcojdeaaGreatDoor
theorem addrsNets_card_holds : Rows.AddrsNetsCardSaid := addrsNets.card
end Go.Proofs.YtmpkeakbcojdeaaGreatDoor

