/-
  The contracts of inet.opening and Build: a packet's bytes; no cell that was there before has turned.
-/
import Derived.Test.YtojipoifjioglaaDoorInet1
import Derived.Test.YtojipoifjioglaaDoorSum6
import Derived.Deep.RegionHeld3
namespace Go.Proofs.YtojipoifjioglaaDoor
open Go.RowKit Go.Sort

set_option maxRecDepth 100000 in
set_option maxHeartbeats 4000000 in
theorem opening_at (a b o t q s d n f : Nat) (x y : Bool) (B A0 A1 A2 A3 A4 A5 A6 X1 X2 X3 X4 X5 X6 : ByteArray) (w : World) (hB : B.size = n) (hn : n ≤ 1700)
    (c0 : ∀ W, Calls Tryd.prog 23 #[.int .i64 69, .int .i64 1] W fun e W' => e = .returned (.string A0) ∧ Below W.heap.size W W')
    (c1 : ∀ W, Calls Tryd.prog 23 #[.int .i64 a, .int .i64 1] W fun e W' => e = .returned (.string A1) ∧ Below W.heap.size W W')
    (c2 : ∀ W, Calls Tryd.prog 23 #[.int .i64 (20 + (n : Int)), .int .i64 2] W fun e W' => e = .returned (.string A2) ∧ Below W.heap.size W W')
    (c3 : ∀ W, Calls Tryd.prog 23 #[.int .i64 b, .int .i64 2] W fun e W' => e = .returned (.string A3) ∧ Below W.heap.size W W')
    (cf : ∀ W, Calls Tryd.prog 37 #[.agg #[.int .i64 a, .int .i64 b, .bool x, .bool y, .int .i64 o, .int .i64 t, .int .i64 q, .int .u32 s, .int .u32 d, .string B]] W fun e W' => e = .returned (.int .i64 f) ∧ Below W.heap.size W W')
    (c4 : ∀ W, Calls Tryd.prog 23 #[.int .i64 f, .int .i64 2] W fun e W' => e = .returned (.string A4) ∧ Below W.heap.size W W')
    (c5 : ∀ W, Calls Tryd.prog 23 #[.int .i64 t, .int .i64 1] W fun e W' => e = .returned (.string A5) ∧ Below W.heap.size W W')
    (c6 : ∀ W, Calls Tryd.prog 23 #[.int .i64 q, .int .i64 1] W fun e W' => e = .returned (.string A6) ∧ Below W.heap.size W W')
    (g1 : ∀ W, (Op.stringOp .add A0 A1).run Tryd.prog W = .ok (.string X1) W) (g2 : ∀ W, (Op.stringOp .add X1 A2).run Tryd.prog W = .ok (.string X2) W)
    (g3 : ∀ W, (Op.stringOp .add X2 A3).run Tryd.prog W = .ok (.string X3) W) (g4 : ∀ W, (Op.stringOp .add X3 A4).run Tryd.prog W = .ok (.string X4) W)
    (g5 : ∀ W, (Op.stringOp .add X4 A5).run Tryd.prog W = .ok (.string X5) W) (g6 : ∀ W, (Op.stringOp .add X5 A6).run Tryd.prog W = .ok (.string X6) W) :
    Calls Tryd.prog 22 #[.agg #[.int .i64 a, .int .i64 b, .bool x, .bool y, .int .i64 o, .int .i64 t, .int .i64 q, .int .u32 s, .int .u32 d, .string B]] w fun e w' => e = .returned (.string X6) ∧ Below w.heap.size w w' := by
  go_enter Tryd.func22, Tryd.ntmps22
  go_wp2_with fail
  have hr := heap_alloc_new w (.cells #[.int .i64 a, .int .i64 b, .bool x, .bool y, .int .i64 o, .int .i64 t, .int .i64 q, .int .u32 s, .int .u32 d, .string B] 24)
  have hb := alloc_below w (.cells #[.int .i64 a, .int .i64 b, .bool x, .bool y, .int .i64 o, .int .i64 t, .int .i64 q, .int .u32 s, .int .u32 d, .string B] 24)
  generalize w.alloc (.cells #[.int .i64 a, .int .i64 b, .bool x, .bool y, .int .i64 o, .int .i64 t, .int .i64 q, .int .u32 s, .int .u32 d, .string B] 24) = w1 at *
  obtain ⟨k0, k1, k2, k3, k4, k5, k6, k7, k8, k9, _⟩ := cells10 hr
  have d0 := at_grown c0 w1
  have d1 := at_grown c1 w1
  have d2 := at_grown c2 w1
  have d3 := at_grown c3 w1
  have df := at_grown cf w1
  have d4 := at_grown c4 w1
  have d5 := at_grown c5 w1
  have d6 := at_grown c6 w1
  have q0 := cell_regrown k0
  have q1 := cell_regrown k1
  have q2 := cell_regrown k2
  have q3 := cell_regrown k3
  have q4 := cell_regrown k4
  have q5 := cell_regrown k5
  have q6 := cell_regrown k6
  have q7 := cell_regrown k7
  have q8 := cell_regrown k8
  have q9 := cell_regrown k9
  clear k0 k1 k2 k3 k4 k5 k6 k7 k8 k9 c0 c1 c2 c3 c4 c5 c6 cf hr
  refine wp_region_quiet_below (by kernel_rfl) (by kernel_rfl) ?_
  repeat (go_big_quiet_step (first | (go_at_call 37; exact df _ _) | (go_at_call_of 23 (#[.int .i64 69, .int .i64 1] : Array Value); exact d0 _ _) | (go_at_call_of 23 a; exact d1 _ _) | (go_at_call_of 23 b; exact d3 _ _) | (go_at_call_of 23 f; exact d4 _ _) | (go_at_call_of 23 t; exact d5 _ _) | (go_at_call_of 23 q; exact d6 _ _) | (go_at_call 23; exact d2 _ _)))
  refine wpQuiet_nil ?_
  rintro _ ⟨⟨dq, osq⟩, rfl⟩
  go_wp2
  go_ret
  exact ⟨rfl, grown_then hb dq osq⟩
theorem opening_any (p : Pk) (w : World) (h : p.fits) (ho : p.ok) : Calls Tryd.prog 22 #[p.val] w fun e w' => e = .returned (.string (bs p.fore)) ∧ Below w.heap.size w w' := by
  have hf := flags_lt ho
  have cf := fun W => flags_any p W ho.2.2.2.2.1
  obtain ⟨_, _, hl⟩ := h
  obtain ⟨h1, h2, h3, h4, h5, h6⟩ := ho
  have e : p.fore = be 69 1 ++ be p.tos.toNat 1 ++ be (20 + p.body.length) 2 ++ be p.id.toNat 2 ++ be p.flags 2 ++ be p.ttl.toNat 1 ++ be p.proto.toNat 1 := by
    unfold Pk.fore; simp only [List.append_assoc]
  rw [e]
  generalize p.flags = f at *
  obtain ⟨a, b, x, y, o, t, q, s, d, l⟩ := p
  unfold Pk.val at *
  simp only at *
  obtain ⟨a, rfl⟩ : ∃ k : Nat, a = k := ⟨a.toNat, by omega⟩
  obtain ⟨b, rfl⟩ : ∃ k : Nat, b = k := ⟨b.toNat, by omega⟩
  obtain ⟨o, rfl⟩ : ∃ k : Nat, o = k := ⟨o.toNat, by omega⟩
  obtain ⟨t, rfl⟩ : ∃ k : Nat, t = k := ⟨t.toNat, by omega⟩
  obtain ⟨q, rfl⟩ : ∃ k : Nat, q = k := ⟨q.toNat, by omega⟩
  simp only [Int.toNat_natCast]
  have c2 := fun W => iput_any (20 + l.length) 2 W (by decide) (by decide) (by omega) (by omega)
  rw [show ((20 + l.length : Nat) : Int) = 20 + (l.length : Int) by omega] at c2
  exact opening_at a b o t q s d l.length f x y (bs l) _ _ _ _ _ _ _ _ _ _ _ _ _ w (bs_size l) hl (fun W => iput_any 69 1 W (by decide) (by decide) (by decide) (by decide)) (fun W => iput_any a 1 W (by decide) (by decide) (by omega) (by omega)) c2 (fun W => iput_any b 2 W (by decide) (by decide) (by omega) (by omega)) cf
    (fun W => iput_any f 2 W (by decide) (by decide) (by omega) (by omega)) (fun W => iput_any t 1 W (by decide) (by decide) (by omega) (by omega)) (fun W => iput_any q 1 W (by decide) (by decide) (by omega) (by omega))
    (fun W => add_bs _ _ (by simp [be_length]) W) (fun W => add_bs _ _ (by simp [be_length]) W) (fun W => add_bs _ _ (by simp [be_length]) W) (fun W => add_bs _ _ (by simp [be_length]) W) (fun W => add_bs _ _ (by simp [be_length]) W) (fun W => add_bs _ _ (by simp [be_length]) W)
set_option maxRecDepth 100000 in
set_option maxHeartbeats 4000000 in
theorem build_at (a b o t q : Int) (s d c : Nat) (x y : Bool) (B F A1 A2 A Z C0 X1 X2 X3 : ByteArray) (w : World) (hs : s < 4294967296) (hd : d < 4294967296)
    (k : Hid (∀ W, Calls Tryd.prog 20 #[.agg #[.int .i64 a, .int .i64 b, .bool x, .bool y, .int .i64 o, .int .i64 t, .int .i64 q, .int .u32 s, .int .u32 d, .string B]] W fun e W' => ∃ E, e = .returned E ∧ Fl 0 E ∧ Below W.heap.size W W'))
    (c0 : ∀ W, Calls Tryd.prog 22 #[.agg #[.int .i64 a, .int .i64 b, .bool x, .bool y, .int .i64 o, .int .i64 t, .int .i64 q, .int .u32 s, .int .u32 d, .string B]] W fun e W' => e = .returned (.string F) ∧ Below W.heap.size W W')
    (c1 : ∀ W, Calls Tryd.prog 23 #[.int .i64 s, .int .i64 4] W fun e W' => e = .returned (.string A1) ∧ Below W.heap.size W W')
    (c2 : ∀ W, Calls Tryd.prog 23 #[.int .i64 d, .int .i64 4] W fun e W' => e = .returned (.string A2) ∧ Below W.heap.size W W')
    (g0 : ∀ W, (Op.stringOp .add A1 A2).run Tryd.prog W = .ok (.string A) W)
    (cz : Hid (∀ W, Calls Tryd.prog 23 #[.int .i64 0, .int .i64 2] W fun e W' => e = .returned (.string Z) ∧ Below W.heap.size W W'))
    (co : Hid (∀ W g, W.heap[g]? = some (.cells #[.string F, .string Z, .string A] 9 (0, 0)) → Calls Tryd.prog 24 #[.slice (some ⟨g, 0, none⟩) 3 3] W fun e W' => e = .returned (.int .i64 c) ∧ W' = W))
    (cs : ∀ W, Calls Tryd.prog 23 #[.int .i64 c, .int .i64 2] W fun e W' => e = .returned (.string C0) ∧ Below W.heap.size W W')
    (g1 : ∀ W, (Op.stringOp .add F C0).run Tryd.prog W = .ok (.string X1) W) (g2 : ∀ W, (Op.stringOp .add X1 A).run Tryd.prog W = .ok (.string X2) W)
    (g3 : ∀ W, (Op.stringOp .add X2 B).run Tryd.prog W = .ok (.string X3) W) :
    Calls Tryd.prog 10 #[.agg #[.int .i64 a, .int .i64 b, .bool x, .bool y, .int .i64 o, .int .i64 t, .int .i64 q, .int .u32 s, .int .u32 d, .string B]] w fun e w' => e = .returned (.tuple #[.string X3, .int .i64 0]) ∧ Below w.heap.size w w' := by
  have e1 : IntKind.i64.wrap (s : Int) = (s : Int) := by rw [IntKind.wrap_i64]; omega
  have e2 : IntKind.i64.wrap (d : Int) = (d : Int) := by rw [IntKind.wrap_i64]; omega
  clear hs hd
  go_enter Tryd.func10, Tryd.ntmps10
  go_wp2_with fail
  refine (unhide k _).mono ?_
  rintro e w1 ⟨E, rfl, hE, b1⟩
  obtain rfl := hE.nil rfl
  have hb := bthen (alloc_below w _) b1
  have hr := Below.row b1 (heap_alloc_new w _)
  clear b1 k hE
  obtain ⟨k0, k1, k2, k3, k4, k5, k6, k7, k8, k9, _⟩ := cells10 hr
  go_wp2_with fail
  have d0 := at_grown c0 w1
  have d1 := at_grown c1 w1
  have d2 := at_grown c2 w1
  have q0 := cell_regrown k0
  have q1 := cell_regrown k1
  have q2 := cell_regrown k2
  have q3 := cell_regrown k3
  have q4 := cell_regrown k4
  have q5 := cell_regrown k5
  have q6 := cell_regrown k6
  have q7 := cell_regrown k7
  have q8 := cell_regrown k8
  have q9 := cell_regrown k9
  clear k0 k1 k2 k3 k4 k5 k6 k7 k8 k9 c0 c1 c2
  refine wp_region_quiet_below (by kernel_rfl) (by kernel_rfl) ?_
  repeat (go_big_quiet_step (first | (go_at_call 22; exact d0 _ _) | (go_at_call_of 23 s; exact d1 _ _) | (go_at_call_of 23 d; exact d2 _ _)))
  refine wpQuiet_nil ?_
  rintro _ ⟨⟨dq, osq⟩, rfl⟩
  have hb2 := grown_then hb dq osq
  have hr2 := Below.row (below_regrown w1 dq osq) hr
  generalize grow (redrawn w1 dq) osq = w2 at *
  clear q0 q1 q2 q3 q4 q5 q6 q7 q8 q9 d0 d1 d2 hr hb
  go_wp2_with fail
  refine (unhide cz _).mono ?_
  rintro e w3 ⟨rfl, b3⟩
  have hb3 := bthen hb2 b3
  have hr3 := Below.row b3 hr2
  clear b3 cz hb2 hr2
  go_wp2_with fail
  refine (unhide co _ _ (heap_alloc_new w3 _)).mono ?_
  rintro e w4 ⟨rfl, rfl⟩
  have hb4 := alloc_then (o := .cells #[.string F, .string Z, .string A] 9) hb3
  have hr4 := Below.row (alloc_below w3 (.cells #[.string F, .string Z, .string A] 9)) hr3
  clear hb3 hr3 co
  generalize w3.alloc (.cells #[.string F, .string Z, .string A] 9) = w4 at *
  go_wp2_with fail
  obtain ⟨k0, k1, k2, k3, k4, k5, k6, k7, k8, k9, _⟩ := cells10 hr4
  have d0 := at_grown cs w4
  have q9 := cell_regrown k9
  clear k0 k1 k2 k3 k4 k5 k6 k7 k8 k9 cs hr4
  refine wp_region_quiet_below (by kernel_rfl) (by kernel_rfl) ?_
  repeat (go_big_quiet_step ((go_at_call 23; exact d0 _ _)))
  refine wpQuiet_nil ?_
  rintro _ ⟨⟨dq, osq⟩, rfl⟩
  go_wp2
  go_ret2
  exact ⟨rfl, grown_then hb4 dq osq⟩
theorem of_three (x y z : List UInt8) (W : World) (g : Nat) (h : W.heap[g]? = some (.cells #[.string (bs x), .string (bs y), .string (bs z)] 9 (0, 0))) (hl : x.length + (y.length + z.length) ≤ 10000) :
    Calls Tryd.prog 24 #[.slice (some ⟨g, 0, none⟩) 3 3] W fun e W' => e = .returned (.int .i64 (ck (x ++ (y ++ z)) : Nat)) ∧ W' = W := by
  obtain ⟨c0, c1, c2, _⟩ := cells3 h
  have := of_any g 0 3 [x, y, z] W (by simp; omega) (by simp) (fun j hj => by
    match j, hj with
    | 0, _ => exact c0
    | 1, _ => exact c1
    | 2, _ => exact c2)
  simpa using this
theorem sum_ck (p : Pk) : ck (p.fore ++ (be 0 2 ++ p.aft)) = p.sum := by
  have := Pk.tot_head p 0 (by decide)
  unfold Pk.head at this
  unfold ck
  rw [this, Nat.add_zero]
  rfl
theorem inetBuild_ok (p : Pk) (w : World) (h : p.fits) (hc : p.check = 0) : Calls Tryd.prog 10 #[p.val] w fun e w' => e = .returned (.tuple #[.string (bs p.bytes), .int .i64 0]) ∧ Below w.heap.size w w' := by
  have ho := check_ok.1 hc
  have k := fun W => wrong_any p W h
  rw [hc] at k
  have hl := h.2.2
  have e : p.bytes = p.fore ++ be p.sum 2 ++ p.aft ++ p.body := by unfold Pk.bytes Pk.head; simp only [List.append_assoc]
  rw [e]
  have lf := p.fore_length
  have la := p.aft_length
  exact build_at p.tos p.id p.off p.ttl p.proto p.src p.dst p.sum p.whole p.more (bs p.body) (bs p.fore) (bs (be p.src 4)) (bs (be p.dst 4)) (bs p.aft) (bs (be 0 2)) (bs (be p.sum 2)) _ _ _ w h.1 h.2.1 (hide k) (fun W => opening_any p W h ho)
    (fun W => iput_any p.src 4 W (by decide) (by decide) (by have := h.1; omega) h.1) (fun W => iput_any p.dst 4 W (by decide) (by decide) (by have := h.2.1; omega) h.2.1) (fun W => add_bs _ _ (by simp [be_length]) W)
    (hide fun W => iput_any 0 2 W (by decide) (by decide) (by decide) (by decide)) (hide fun W g hg => by rw [← sum_ck]; exact of_three _ _ _ W g hg (by rw [lf, la, be_length]; decide))
    (fun W => iput_any p.sum 2 W (by decide) (by decide) (by have := p.sum_le; omega) (by have := p.sum_le; omega)) (fun W => add_bs _ _ (by rw [lf, be_length]; decide) W) (fun W => add_bs _ _ (by rw [List.length_append, lf, be_length, la]; decide) W) (fun W => add_bs _ _ (by rw [List.length_append, List.length_append, lf, be_length, la]; omega) W)
theorem inetBuild_bad (p : Pk) (w : World) (h : p.fits) (hg : Et w) (hc : p.check ≠ 0) : Calls Tryd.prog 10 #[p.val] w fun e w' => e = .returned (.tuple #[.string ByteArray.empty, .int .i64 p.check]) ∧ Below w.heap.size w w' := by
  have C := hide fun W => wrong_any p W h
  clear h
  obtain ⟨a, b, x, y, o, t, q, s, d, l⟩ := p
  unfold Pk.val at *
  simp only at *
  generalize (Pk.mk a b x y o t q s d l).check = c at *
  go_enter Tryd.func10, Tryd.ntmps10
  go_wp2_with fail
  refine (unhide C _).mono ?_
  rintro e w1 ⟨E, rfl, hE, b1⟩
  have hb := bthen (alloc_below w _) b1
  have hg1 : Et w1 := hg.next hb
  have N := number_fl c E w1 hE hg1
  obtain ⟨part, rfl⟩ := hE.some hc
  clear b1 C hE hc
  go_wp2_with fail
  refine N.mono ?_
  rintro e w2 ⟨rfl, b2⟩
  have hb2 := bthen hb b2
  go_wp2_with fail
  go_ret2
  exact ⟨rfl, hb2⟩
theorem inetBuild_any (p : Pk) (w : World) (h : p.fits) (hg : Et w) : Calls Tryd.prog 10 #[p.val] w fun e w' => e = .returned (.tuple #[.string (bs p.built), .int .i64 p.check]) ∧ Below w.heap.size w w' := by
  unfold Pk.built
  by_cases c : p.check = 0
  · rw [if_pos c, c]; exact inetBuild_ok p w h c
  · rw [if_neg c]; exact inetBuild_bad p w h hg c
end Go.Proofs.YtojipoifjioglaaDoor
