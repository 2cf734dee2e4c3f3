/-
  The contract of udp.Build: a datagram's bytes; no cell that was there before has turned.
-/
import Derived.Test.YtcgilcofcjehmaaDoorUdp1
import Derived.Deep.RegionHeld3
namespace Go.Proofs.YtcgilcofcjehmaaDoor
open Go.RowKit Go.Sort

theorem keepU {W W' : World} {g : Nat} {t : TypeId} {a0 a1 a2 a3 : Value} (b : Below W.heap.size W W') (h : W.heap[g]? = some (.cells #[a0, a1, a2, a3] t (0, 0))) : W'.cell? ⟨g, 3, none⟩ = some a3 := by
  obtain ⟨c0, c1, c2, c3, _⟩ := cells4 (Below.row b h)
  exact c3
set_option maxRecDepth 100000 in
set_option maxHeartbeats 4000000 in
theorem build_sum (a b n s d c t : Nat) (B A0 A1 A2 X1 F H Z T X3 X4 : ByteArray) (w : World) (hB : B.size = n) (hn : (n : Int) ≤ 1700)
    (k : Hid (∀ W, Calls Tryd.prog 12 #[.agg #[.int .i64 (a : Int), .int .i64 (b : Int), .bool false, .string B]] W fun e W' => e = .returned (.int .i64 0) ∧ Below W.heap.size W W'))
    (c0 : ∀ W, Calls Tryd.prog 16 #[.int .i64 (a : Int)] W fun e W' => e = .returned (.string A0) ∧ Below W.heap.size W W')
    (c1 : ∀ W, Calls Tryd.prog 16 #[.int .i64 (b : Int)] W fun e W' => e = .returned (.string A1) ∧ Below W.heap.size W W')
    (c2 : ∀ W, Calls Tryd.prog 16 #[.int .i64 (8 + (n : Int))] W fun e W' => e = .returned (.string A2) ∧ Below W.heap.size W W')
    (g1 : ∀ W, (Op.stringOp .add A0 A1).run Tryd.prog W = .ok (.string X1) W) (g2 : ∀ W, (Op.stringOp .add X1 A2).run Tryd.prog W = .ok (.string F) W)
    (ch : Hid (∀ W, Calls Tryd.prog 19 #[.int .u32 (s : Int), .int .u32 (d : Int), .int .i64 17, .int .i64 (8 + (n : Int))] W fun e W' => e = .returned (.string H) ∧ Below W.heap.size W W'))
    (cz : Hid (∀ W, Calls Tryd.prog 16 #[.int .i64 0] W fun e W' => e = .returned (.string Z) ∧ Below W.heap.size W W'))
    (co : Hid (∀ W g, W.heap[g]? = some (.cells #[.string H, .string F, .string Z, .string B] 9 (0, 0)) → Calls Tryd.prog 18 #[.slice (some ⟨g, 0, none⟩) 4 4] W fun e W' => e = .returned (.int .i64 (c : Int)) ∧ W' = W))
    (ct : Hid (∀ W, Calls Tryd.prog 17 #[.int .i64 (c : Int)] W fun e W' => e = .returned (.int .i64 (t : Int)) ∧ W' = W))
    (cs : ∀ W, Calls Tryd.prog 16 #[.int .i64 (t : Int)] W fun e W' => e = .returned (.string T) ∧ Below W.heap.size W W')
    (g3 : ∀ W, (Op.stringOp .add F T).run Tryd.prog W = .ok (.string X3) W) (g4 : ∀ W, (Op.stringOp .add X3 B).run Tryd.prog W = .ok (.string X4) W) :
    Calls Tryd.prog 9 #[.int .u32 (s : Int), .int .u32 (d : Int), .agg #[.int .i64 (a : Int), .int .i64 (b : Int), .bool false, .string B]] w fun e w' => e = .returned (.tuple #[.string X4, .int .i64 0]) ∧ Below w.heap.size w w' := by
  go_enter Tryd.func9, Tryd.ntmps9
  go_wp2_with fail
  refine (unhide k _).mono ?_
  rintro e w1 ⟨rfl, b1⟩
  have hb := bthen (alloc_below w _) b1
  have hr := Below.row b1 (heap_alloc_new w _)
  clear b1 k
  obtain ⟨k0, k1, k2, k3, _⟩ := cells4 hr
  go_wp2_with fail
  have d0 := at_grown c0 w1
  have d1 := at_grown c1 w1
  have d2 := at_grown c2 w1
  have q0 := cell_regrown k0
  have q1 := cell_regrown k1
  have q2 := cell_regrown k2
  have q3 := cell_regrown k3
  clear k0 k1 k2 k3 c0 c1 c2
  refine wp_region_quiet_below (by kernel_rfl) (by kernel_rfl) ?_
  repeat (go_big_quiet_step (first | (go_at_call_of 16 a; exact d0 _ _) | (go_at_call_of 16 b; exact d1 _ _) | (go_at_call 16; exact d2 _ _)))
  refine wpQuiet_nil ?_
  rintro _ ⟨⟨dq, osq⟩, rfl⟩
  have hb2 := grown_then hb dq osq
  have hr2 := Below.row (below_regrown w1 dq osq) hr
  generalize grow (redrawn w1 dq) osq = w2 at *
  clear q0 q1 q2 q3 d0 d1 d2 hr hb
  obtain ⟨k0, k1, k2, k3, _⟩ := cells4 hr2
  go_wp2_with fail
  have HR := hide hr2
  clear k0 k1 k2 k3 hr2
  go_region_held3 (fun w' => w'.cell? ⟨w.heap.size, 3, none⟩ = some (.string B)) ((refine keepU ?_ (unhide HR); (repeat (first | (with_reducible exact Below.refl _ _) | (with_reducible refine Below.drew ?_) | (with_reducible refine alloc_then ?_) | (with_reducible refine bthen ?_ B6) | (with_reducible refine bthen ?_ B5))); done))
    (first | (go_at_call 19; refine (unhide ch _).mono ?_; rintro e5 w5 ⟨rfl, B5⟩) | (go_at_call 16; refine (unhide cz _).mono ?_; rintro e6 w6 ⟨rfl, B6⟩) | (go_at_call 18; refine (unhide co _ _ (heap_alloc_new _ _)).mono ?_; rintro e7 w7 ⟨rfl, rfl⟩) | (go_at_call 17; refine (unhide ct _).mono ?_; rintro e8 w8 ⟨rfl, rfl⟩))
  have hb4 : Below w.heap.size w (w6.alloc (.cells #[.string H, .string F, .string Z, .string B] 9)) := alloc_then (bthen (bthen hb2.drew B5) B6)
  have hr4 : (w6.alloc (.cells #[.string H, .string F, .string Z, .string B] 9)).heap[w.heap.size]? = some (.cells #[.int .i64 (a : Int), .int .i64 (b : Int), .bool false, .string B] 26 (0, 0)) := Below.row (alloc_then (bthen (bthen (Below.refl _ _).drew B5) B6)) (unhide HR)
  generalize w6.alloc (.cells #[.string H, .string F, .string Z, .string B] 9) = w4 at *
  clear HR hb2 B5 B6
  obtain ⟨k0, k1, k2, k3, _⟩ := cells4 hr4
  go_wp2_with fail
  have d0 := at_grown cs w4
  have q3 := cell_regrown k3
  clear k0 k1 k2 k3 cs hr4
  refine wp_region_quiet_below (by kernel_rfl) (by kernel_rfl) ?_
  repeat (go_big_quiet_step ((go_at_call 16; exact d0 _ _)))
  refine wpQuiet_nil ?_
  rintro _ ⟨⟨dq, osq⟩, rfl⟩
  go_wp2
  go_ret2
  exact ⟨rfl, grown_then hb4 dq osq⟩
set_option maxRecDepth 100000 in
set_option maxHeartbeats 4000000 in
theorem build_bare (a b n s d : Nat) (B A0 A1 A2 X1 F T X3 X4 : ByteArray) (w : World) (hB : B.size = n) (hn : (n : Int) ≤ 1700)
    (k : Hid (∀ W, Calls Tryd.prog 12 #[.agg #[.int .i64 (a : Int), .int .i64 (b : Int), .bool true, .string B]] W fun e W' => e = .returned (.int .i64 0) ∧ Below W.heap.size W W'))
    (c0 : ∀ W, Calls Tryd.prog 16 #[.int .i64 (a : Int)] W fun e W' => e = .returned (.string A0) ∧ Below W.heap.size W W')
    (c1 : ∀ W, Calls Tryd.prog 16 #[.int .i64 (b : Int)] W fun e W' => e = .returned (.string A1) ∧ Below W.heap.size W W')
    (c2 : ∀ W, Calls Tryd.prog 16 #[.int .i64 (8 + (n : Int))] W fun e W' => e = .returned (.string A2) ∧ Below W.heap.size W W')
    (g1 : ∀ W, (Op.stringOp .add A0 A1).run Tryd.prog W = .ok (.string X1) W) (g2 : ∀ W, (Op.stringOp .add X1 A2).run Tryd.prog W = .ok (.string F) W)
    (cs : ∀ W, Calls Tryd.prog 16 #[.int .i64 0] W fun e W' => e = .returned (.string T) ∧ Below W.heap.size W W')
    (g3 : ∀ W, (Op.stringOp .add F T).run Tryd.prog W = .ok (.string X3) W) (g4 : ∀ W, (Op.stringOp .add X3 B).run Tryd.prog W = .ok (.string X4) W) :
    Calls Tryd.prog 9 #[.int .u32 (s : Int), .int .u32 (d : Int), .agg #[.int .i64 (a : Int), .int .i64 (b : Int), .bool true, .string B]] w fun e w' => e = .returned (.tuple #[.string X4, .int .i64 0]) ∧ Below w.heap.size w w' := by
  go_enter Tryd.func9, Tryd.ntmps9
  go_wp2_with fail
  refine (unhide k _).mono ?_
  rintro e w1 ⟨rfl, b1⟩
  have hb := bthen (alloc_below w _) b1
  have hr := Below.row b1 (heap_alloc_new w _)
  clear b1 k
  obtain ⟨k0, k1, k2, k3, _⟩ := cells4 hr
  go_wp2_with fail
  have d0 := at_grown c0 w1
  have d1 := at_grown c1 w1
  have d2 := at_grown c2 w1
  have q0 := cell_regrown k0
  have q1 := cell_regrown k1
  have q2 := cell_regrown k2
  have q3 := cell_regrown k3
  clear k0 k1 k2 k3 c0 c1 c2
  refine wp_region_quiet_below (by kernel_rfl) (by kernel_rfl) ?_
  repeat (go_big_quiet_step (first | (go_at_call_of 16 a; exact d0 _ _) | (go_at_call_of 16 b; exact d1 _ _) | (go_at_call 16; exact d2 _ _)))
  refine wpQuiet_nil ?_
  rintro _ ⟨⟨dq, osq⟩, rfl⟩
  have hb2 := grown_then hb dq osq
  have hr2 := Below.row (below_regrown w1 dq osq) hr
  generalize grow (redrawn w1 dq) osq = w2 at *
  clear q0 q1 q2 q3 d0 d1 d2 hr hb
  obtain ⟨k0, k1, k2, k3, _⟩ := cells4 hr2
  go_wp2_with fail
  have hb4 := hb2
  have hr4 := hr2
  generalize w2 = w4 at *
  have d0 := at_grown cs w4
  have q3 := cell_regrown k3
  clear k0 k1 k2 k3 cs hr4
  refine wp_region_quiet_below (by kernel_rfl) (by kernel_rfl) ?_
  repeat (go_big_quiet_step ((go_at_call 16; exact d0 _ _)))
  refine wpQuiet_nil ?_
  rintro _ ⟨⟨dq, osq⟩, rfl⟩
  go_wp2
  go_ret2
  exact ⟨rfl, grown_then hb4 dq osq⟩
theorem of_four (x y z u : List UInt8) (W : World) (g : Nat) (h : W.heap[g]? = some (.cells #[.string (bs x), .string (bs y), .string (bs z), .string (bs u)] 9 (0, 0))) (hl : x.length + (y.length + (z.length + u.length)) ≤ 10000) :
    Calls Tryd.prog 18 #[.slice (some ⟨g, 0, none⟩) 4 4] W fun e W' => e = .returned (.int .i64 (ck (x ++ (y ++ (z ++ u))) : Nat)) ∧ W' = W := by
  obtain ⟨c0, c1, c2, c3, _⟩ := cells4 h
  have := of_any g 0 4 [x, y, z, u] W (by simp; omega) (by simp) (fun j hj => by
    match j, hj with
    | 0, _ => exact c0
    | 1, _ => exact c1
    | 2, _ => exact c2
    | 3, _ => exact c3)
  simpa using this
theorem u64_of (n : Nat) (h : n ≤ 10000) : IntKind.u64.wrap (8 + (n : Int)) = ((8 + n : Nat) : Int) := by rw [IntKind.wrap_u64]; omega
theorem udpBuild_ok (u : Ud) (s d : Nat) (w : World) (h : u.body.length ≤ 1700) (hs : s < 4294967296) (hd : d < 4294967296) (hc : u.check = 0) :
    Calls Tryd.prog 9 #[.int .u32 (s : Int), .int .u32 (d : Int), u.val] w fun e w' => e = .returned (.tuple #[.string (bs (u.bytes s d)), .int .i64 0]) ∧ Below w.heap.size w w' := by
  have ho := check_ok.1 hc
  have k := fun W => udpCheck_any u W h
  rw [hc] at k
  have e : u.bytes s d = u.fore ++ be (u.sum s d) 2 ++ u.body := by unfold Ud.bytes Ud.with; simp only [List.append_assoc]
  have ef : u.fore = be u.src.toNat 2 ++ be u.dst.toNat 2 ++ be (8 + u.body.length) 2 := by unfold Ud.fore; simp only [List.append_assoc]
  have lf := u.fore_length
  have c2 := fun W => uput_any (8 + u.body.length) W (by omega)
  rw [show ((8 + u.body.length : Nat) : Int) = 8 + (u.body.length : Int) by omega] at c2
  have cs := fun W => uput_any (u.sum s d) W (by have := u.sum_le s d; omega)
  have g2 := fun W => add_bs (be u.src.toNat 2 ++ be u.dst.toNat 2) (be (8 + u.body.length) 2) (by simp [be_length]) W
  rw [← ef] at g2
  have g3 := fun W => add_bs u.fore (be (u.sum s d) 2) (by rw [lf, be_length]; decide) W
  have g4 := fun W => add_bs (u.fore ++ be (u.sum s d) 2) u.body (by rw [List.length_append, lf, be_length]; omega) W
  rw [e]
  have c0 := fun W => uput_any u.src.toNat W (by omega)
  have c1 := fun W => uput_any u.dst.toNat W (by omega)
  rw [show ((u.src.toNat : Nat) : Int) = u.src by omega] at c0
  rw [show ((u.dst.toNat : Nat) : Int) = u.dst by omega] at c1
  have ev : u.val = .agg #[.int .i64 ((u.src.toNat : Nat) : Int), .int .i64 ((u.dst.toNat : Nat) : Int), .bool u.noSum, .string (bs u.body)] := by
    rw [show ((u.src.toNat : Nat) : Int) = u.src by omega, show ((u.dst.toNat : Nat) : Int) = u.dst by omega]; rfl
  rw [← show ((u.src.toNat : Nat) : Int) = u.src by omega] at c0
  rw [← show ((u.dst.toNat : Nat) : Int) = u.dst by omega] at c1
  rw [ev] at k ⊢
  by_cases hn : u.noSum = true
  · have hz := (u.sum_zero s d).2 hn
    rw [hz] at cs g3 g4 ⊢
    rw [hn] at k ⊢
    exact build_bare _ _ u.body.length s d (bs u.body) _ _ _ _ _ _ _ _ w (bs_size _) (by omega) (hide k) c0 c1 c2 (fun W => add_bs _ _ (by simp [be_length]) W) g2 cs g3 g4
  · have hn : u.noSum = false := by simpa using hn
    have hz : u.sum s d = told (ck (headB s d 17 (8 + u.body.length) ++ (u.fore ++ (be 0 2 ++ u.body)))) := by
      unfold Ud.sum Ud.over
      rw [if_neg (by rw [hn]; decide)]
    rw [hz] at cs g3 g4 ⊢
    rw [hn] at k ⊢
    exact build_sum _ _ u.body.length s d _ _ (bs u.body) _ _ _ _ _ _ _ _ _ _ w (bs_size _) (by omega) (hide k) c0 c1 c2 (fun W => add_bs _ _ (by simp [be_length]) W) g2
      (hide fun W => head_any s d 17 (8 + u.body.length) 17 _ W hs hd (by decide) (u64_of _ (by omega))) (hide fun W => uput_any 0 W (by decide))
      (hide fun W g hg => of_four _ _ _ _ W g hg (by rw [headB_length, lf, be_length]; omega)) (hide fun W => told_any _ W) cs g3 g4
theorem udpBuild_bad (u : Ud) (s d : Int) (w : World) (h : u.body.length ≤ 1700) (hc : u.check ≠ 0) : Calls Tryd.prog 9 #[.int .u32 s, .int .u32 d, u.val] w fun e w' => e = .returned (.tuple #[.string ByteArray.empty, .int .i64 u.check]) ∧ Below w.heap.size w w' := by
  have C := hide fun W => udpCheck_any u W h
  have hz : (u.check == 0) = false := by rw [beq_eq_false_iff_ne]; exact hc
  clear h hc
  obtain ⟨a, b, x, l⟩ := u
  unfold Ud.val at *
  simp only at *
  generalize (Ud.mk a b x l).check = c at *
  go_enter Tryd.func9, Tryd.ntmps9
  go_wp2_with fail
  refine (unhide C _).mono ?_
  rintro e w1 ⟨rfl, b1⟩
  have hb := bthen (alloc_below w _) b1
  clear b1 C
  have hz2 : (c != 0) = true := by rw [bne, hz]; rfl
  go_wp2_with fail
  go_ret2
  exact ⟨rfl, hb⟩
end Go.Proofs.YtcgilcofcjehmaaDoor
