/-
  The contracts of arp.Parse, whole, frame, Ask, Tell and Of: frames with messages in them; no cell that was there before has turned.
-/
import Derived.Test.YtljhgehlaehgnaaDoorArp3
import Derived.Deep.RegionHeld3
namespace Go.Proofs.YtljhgehlaehgnaaDoor
open Go.RowKit Go.Sort

theorem prefix_head (l : List UInt8) (h : 28 ≤ l.length) : Lib.hasPrefix l [0, 1, 8, 0, 6, 4] = decide (l.take 6 = arpHead) := by
  rw [← Lib.hasPrefix_of_take]
  have e : decide (([0, 1, 8, 0, 6, 4] : List UInt8).length ≤ l.length) = true := decide_eq_true (by simp; omega)
  rw [e, Bool.true_and]
  show (l.take 6 == arpHead) = _
  rw [Bool.eq_iff_iff]
  simp
theorem arpParse_any (l : List UInt8) (w : World) (hl : l.length ≤ 10000) : ParseTells (bs l) (Ar.parse l).1 (Ar.parse l).2 w := by
  have hz := bs_size l
  unfold Ar.parse
  by_cases h : l.length < 28
  · rw [if_pos h]; exact parse_short (bs l) w (by omega)
  · rw [if_neg h]
    have hp := prefix_head l (by omega)
    by_cases h1 : l.take 6 = arpHead
    · have hp' : Lib.hasPrefix (bs l).data.toList [0, 1, 8, 0, 6, 4] = true := by rw [bs_toList, hp]; exact decide_eq_true h1
      have R := hide fun W => read_any l W (by omega) hl
      have K := hide fun W => arpCheck_any (Ar.of l) W (Ar.of_fits l (by omega))
      by_cases h2 : (Ar.of l).check = 0
      · rw [if_neg (by simp [h1, h2])]
        rw [h2] at K
        exact parse_good (bs l) _ _ _ _ _ w (by omega) (by omega) hp' R K
      · rw [if_pos (Or.inr h2)]
        have h3 : (Ar.of l).check = 51 := by
          unfold Ar.check at h2 ⊢
          split
          · rfl
          · rename_i h4; rw [if_neg h4] at h2; exact absurd rfl h2
        rw [h3] at K
        exact parse_bad (bs l) _ _ _ _ _ 51 w (by omega) (by omega) hp' rfl R K
    · have hp' : Lib.hasPrefix (bs l).data.toList [0, 1, 8, 0, 6, 4] = false := by rw [bs_toList, hp]; exact decide_eq_false h1
      rw [if_pos (Or.inl h1)]
      exact parse_head (bs l) w (by omega) (by omega) hp'
/-- a frame as the program has it -/
def Fr.val (f : Fr) : Value := .agg #[.int .u64 (f.dst : Int), .int .u64 (f.src : Int), .bool f.has, .int .i64 f.pri, .bool f.dei, .int .i64 f.vid, .int .i64 f.ty, .string (bs f.body)]
/-- a message in a frame -/
def arpFr (d : Nat) (a : Ar) : Fr := ⟨d, a.smac, false, 0, false, 0, 2054, a.bytes⟩
theorem keep5 {W W' : World} {g : Nat} {t : TypeId} {a0 a1 a2 a3 a4 : Value} (b : Below W.heap.size W W') (h : W.heap[g]? = some (.cells #[a0, a1, a2, a3, a4] t (0, 0))) :
    W'.cell? ⟨g, 0, none⟩ = some a0 ∧ W'.cell? ⟨g, 1, none⟩ = some a1 ∧ W'.cell? ⟨g, 2, none⟩ = some a2 ∧ W'.cell? ⟨g, 3, none⟩ = some a3 ∧ W'.cell? ⟨g, 4, none⟩ = some a4 := by
  obtain ⟨c0, c1, c2, c3, c4, _⟩ := cells5 (Below.row b h)
  exact ⟨c0, c1, c2, c3, c4⟩
theorem keepR {W : World} {g : Nat} {t : TypeId} {a0 a1 a2 a3 a4 : Value} (h : W.heap[g]? = some (.cells #[a0, a1, a2, a3, a4] t (0, 0))) :
    W.cell? ⟨g, 0, none⟩ = some a0 ∧ W.cell? ⟨g, 1, none⟩ = some a1 ∧ W.cell? ⟨g, 2, none⟩ = some a2 ∧ W.cell? ⟨g, 3, none⟩ = some a3 ∧ W.cell? ⟨g, 4, none⟩ = some a4 := by
  obtain ⟨c0, c1, c2, c3, c4, _⟩ := cells5 h
  exact ⟨c0, c1, c2, c3, c4⟩
set_option maxRecDepth 100000 in
theorem frame_at (d op s i t j : Int) (R : ByteArray) (w : World)
    (cW : Hid (∀ W, Calls Tryd.prog 39 #[.agg #[.int .i64 op, .int .u64 s, .int .u32 i, .int .u64 t, .int .u32 j]] W fun e W' => e = .returned (.string R) ∧ Below W.heap.size W W')) :
    Calls Tryd.prog 28 #[.int .u64 d, .agg #[.int .i64 op, .int .u64 s, .int .u32 i, .int .u64 t, .int .u32 j]] w fun e w' => e = .returned (.agg #[.int .u64 d, .int .u64 s, .bool false, .int .i64 0, .bool false, .int .i64 0, .int .i64 2054, .string R]) ∧ Below w.heap.size w w' := by
  go_enter Tryd.func28, Tryd.ntmps28
  go_wp2_with fail
  have hA := heap_alloc2_old w (.cells #[.int .i64 op, .int .u64 s, .int .u32 i, .int .u64 t, .int .u32 j] 37) (.cells #[.int .u64 0, .int .u64 0, .bool false, .int .i64 0, .bool false, .int .i64 0, .int .i64 0, .string ⟨#[]⟩] 44)
  have hF := heap_alloc2_new w (.cells #[.int .i64 op, .int .u64 s, .int .u32 i, .int .u64 t, .int .u32 j] 37) (.cells #[.int .u64 0, .int .u64 0, .bool false, .int .i64 0, .bool false, .int .i64 0, .int .i64 0, .string ⟨#[]⟩] 44)
  have hb := alloc_then (o := .cells #[.int .u64 0, .int .u64 0, .bool false, .int .i64 0, .bool false, .int .i64 0, .int .i64 0, .string ⟨#[]⟩] 44) (alloc_below w (.cells #[.int .i64 op, .int .u64 s, .int .u32 i, .int .u64 t, .int .u32 j] 37))
  generalize (w.alloc (.cells #[.int .i64 op, .int .u64 s, .int .u32 i, .int .u64 t, .int .u32 j] 37)).alloc (.cells #[.int .u64 0, .int .u64 0, .bool false, .int .i64 0, .bool false, .int .i64 0, .int .i64 0, .string ⟨#[]⟩] 44) = W2 at *
  have HA := hide hA
  have HF := hide hF
  clear hA hF
  go_region_held3 (fun w' => w'.cell? ⟨w.heap.size, 0, none⟩ = some (.int .i64 op) ∧ w'.cell? ⟨w.heap.size, 1, none⟩ = some (.int .u64 s) ∧ w'.cell? ⟨w.heap.size, 2, none⟩ = some (.int .u32 i) ∧ w'.cell? ⟨w.heap.size, 3, none⟩ = some (.int .u64 t) ∧ w'.cell? ⟨w.heap.size, 4, none⟩ = some (.int .u32 j))
    ((first | (with_reducible exact unhide K5) | (refine keep5 ?_ (unhide HA); (repeat (first | (with_reducible exact Below.refl _ _) | (with_reducible refine Below.drew ?_) | (with_reducible refine bthen ?_ B5))); done)))
    ((go_at_call 39; refine (unhide cW _).mono ?_; rintro e5 w5 ⟨rfl, B5⟩; have r5 := Below.row B5 (unhide HF); obtain ⟨x0, x1, x2, x3, x4, x5, x6, x7, u0, u1, u2, u3, u4, u5, u6, u7⟩ := cells8 r5; have K5 := hide (keepR (W := ((((((((w5.setCell ⟨w.heap.size + 1, 0, none⟩ (.int .u64 d)).setCell ⟨w.heap.size + 1, 1, none⟩ (.int .u64 s)).setCell ⟨w.heap.size + 1, 2, none⟩ (.bool false)).setCell ⟨w.heap.size + 1, 3, none⟩ (.int .i64 0)).setCell ⟨w.heap.size + 1, 4, none⟩ (.bool false)).setCell ⟨w.heap.size + 1, 5, none⟩ (.int .i64 0)).setCell ⟨w.heap.size + 1, 6, none⟩ (.int .i64 2054)).setCell ⟨w.heap.size + 1, 7, none⟩ (.string R))) (other8 (Nat.ne_of_lt (Nat.lt_succ_self _)) (Below.row B5 (unhide HA))))))
  go_wp2_with fail
  refine bodyPost_ret ?_ rfl ⟨rfl, below8 (bthen hb.drew B5) (Nat.le_succ _)⟩
  exact results_cell_row rfl _ _ (w.heap.size + 1) 44 _ _ _ rfl (set8 r5) Tryd.underlying44 rfl (by kernel_rfl)
theorem frame_any (d : Nat) (a : Ar) (w : World) (h : a.fits) (ho : 0 ≤ a.op) : Calls Tryd.prog 28 #[.int .u64 d, a.val] w fun e w' => e = .returned (arpFr d a).val ∧ Below w.heap.size w w' :=
  frame_at d a.op a.smac a.sip a.tmac a.tip (bs a.bytes) w (hide fun W => written_any a W h ho)
/-- the message that asks -/
def askAr (mac ip want : Nat) : Ar := ⟨1, mac, ip, 0, want⟩
/-- the message that tells -/
def tellAr (a : Ar) (mac : Nat) : Ar := ⟨2, mac, a.tip, a.smac, a.sip⟩
set_option maxRecDepth 100000 in
theorem tell_op (op s i t j m : Int) (w : World) (h : (op != 1) = true) :
    Calls Tryd.prog 20 #[.agg #[.int .i64 op, .int .u64 s, .int .u32 i, .int .u64 t, .int .u32 j], .int .u64 m] w fun e w' => e = .returned (.tuple #[.agg #[.int .u64 0, .int .u64 0, .bool false, .int .i64 0, .bool false, .int .i64 0, .int .i64 0, .string ⟨#[]⟩], .int .i64 51]) ∧ Below w.heap.size w w' := by
  go_enter Tryd.func20, Tryd.ntmps20
  go_wp2_with fail
  refine bodyPost_ret ?_ rfl ⟨rfl, alloc_then (alloc_below _ _)⟩
  exact results_row2 rfl _ _ (w.heap.size + 1) 44 _ _ _ _ rfl rfl (heap_last _ _ _ (by simp)) Tryd.underlying44 rfl (by kernel_rfl)
set_option maxRecDepth 100000 in
theorem tell_check (op s i t j m c : Int) (w : World) (h : (op != 1) = false) (hc : (c != 0) = true)
    (K : Hid (∀ W, Calls Tryd.prog 10 #[.agg #[.int .i64 op, .int .u64 s, .int .u32 i, .int .u64 t, .int .u32 j]] W fun e W' => e = .returned (.int .i64 c) ∧ Below W.heap.size W W')) :
    Calls Tryd.prog 20 #[.agg #[.int .i64 op, .int .u64 s, .int .u32 i, .int .u64 t, .int .u32 j], .int .u64 m] w fun e w' => e = .returned (.tuple #[.agg #[.int .u64 0, .int .u64 0, .bool false, .int .i64 0, .bool false, .int .i64 0, .int .i64 0, .string ⟨#[]⟩], .int .i64 51]) ∧ Below w.heap.size w w' := by
  go_enter Tryd.func20, Tryd.ntmps20
  go_wp2_with fail
  refine (unhide K _).mono ?_
  rintro e w1 ⟨rfl, b1⟩
  have hb := bthen (alloc_then (alloc_below w _)) b1
  have hr := Below.row b1 (heap_alloc2_new w _ _)
  clear b1 K
  obtain ⟨c0, c1, c2, c3, c4, c5, c6, c7, f0, f1, f2, f3, f4, f5, f6, f7⟩ := cells8 hr
  have HR := hide hr
  clear hr
  go_wp2_with fail
  refine bodyPost_ret ?_ rfl ⟨rfl, below8 hb (Nat.le_succ _)⟩
  exact results_row2 rfl _ _ (w.heap.size + 1) 44 _ _ _ _ rfl rfl (set8 (unhide HR)) Tryd.underlying44 rfl (by kernel_rfl)
set_option maxRecDepth 100000 in
theorem tell_own (op s i t j m : Int) (w : World) (h : (op != 1) = false)
    (K : Hid (∀ W, Calls Tryd.prog 10 #[.agg #[.int .i64 op, .int .u64 s, .int .u32 i, .int .u64 t, .int .u32 j]] W fun e W' => e = .returned (.int .i64 0) ∧ Below W.heap.size W W'))
    (O : Hid (∀ W, Calls Tryd.prog 21 #[.int .u64 m] W fun e W' => e = .returned (.bool false) ∧ W' = W)) :
    Calls Tryd.prog 20 #[.agg #[.int .i64 op, .int .u64 s, .int .u32 i, .int .u64 t, .int .u32 j], .int .u64 m] w fun e w' => e = .returned (.tuple #[.agg #[.int .u64 0, .int .u64 0, .bool false, .int .i64 0, .bool false, .int .i64 0, .int .i64 0, .string ⟨#[]⟩], .int .i64 51]) ∧ Below w.heap.size w w' := by
  go_enter Tryd.func20, Tryd.ntmps20
  go_wp2_with fail
  refine (unhide K _).mono ?_
  rintro e w1 ⟨rfl, b1⟩
  have hb := bthen (alloc_then (alloc_below w _)) b1
  have hr := Below.row b1 (heap_alloc2_new w _ _)
  clear b1 K
  obtain ⟨c0, c1, c2, c3, c4, c5, c6, c7, f0, f1, f2, f3, f4, f5, f6, f7⟩ := cells8 hr
  have HR := hide hr
  clear hr
  go_wp2_with fail
  refine (unhide O _).mono ?_
  rintro e w2 ⟨rfl, rfl⟩
  clear O
  go_wp2_with fail
  refine bodyPost_ret ?_ rfl ⟨rfl, below8 hb (Nat.le_succ _)⟩
  exact results_row2 rfl _ _ (w.heap.size + 1) 44 _ _ _ _ rfl rfl (set8 (unhide HR)) Tryd.underlying44 rfl (by kernel_rfl)
set_option maxRecDepth 100000 in
theorem tell_good (op s i t j m : Int) (R : ByteArray) (w : World) (h : (op != 1) = false)
    (K : Hid (∀ W, Calls Tryd.prog 10 #[.agg #[.int .i64 op, .int .u64 s, .int .u32 i, .int .u64 t, .int .u32 j]] W fun e W' => e = .returned (.int .i64 0) ∧ Below W.heap.size W W'))
    (O : Hid (∀ W, Calls Tryd.prog 21 #[.int .u64 m] W fun e W' => e = .returned (.bool true) ∧ W' = W))
    (cF : Hid (∀ W, Calls Tryd.prog 28 #[.int .u64 s, .agg #[.int .i64 2, .int .u64 m, .int .u32 j, .int .u64 s, .int .u32 i]] W fun e W' => e = .returned (.agg #[.int .u64 s, .int .u64 m, .bool false, .int .i64 0, .bool false, .int .i64 0, .int .i64 2054, .string R]) ∧ Below W.heap.size W W')) :
    Calls Tryd.prog 20 #[.agg #[.int .i64 op, .int .u64 s, .int .u32 i, .int .u64 t, .int .u32 j], .int .u64 m] w fun e w' => e = .returned (.tuple #[.agg #[.int .u64 s, .int .u64 m, .bool false, .int .i64 0, .bool false, .int .i64 0, .int .i64 2054, .string R], .int .i64 0]) ∧ Below w.heap.size w w' := by
  go_enter Tryd.func20, Tryd.ntmps20
  go_wp2_with fail
  refine (unhide K _).mono ?_
  rintro e w1 ⟨rfl, b1⟩
  have hb := bthen (alloc_then (alloc_below w _)) b1
  have hr := Below.row b1 (heap_alloc2_new w _ _)
  have hq := Below.row b1 (heap_alloc2_old w _ _)
  clear b1 K
  obtain ⟨k0, k1, k2, k3, k4, _⟩ := cells5 hq
  clear hq
  have HR := hide hr
  clear hr
  go_wp2_with fail
  refine (unhide O _).mono ?_
  rintro e w2 ⟨rfl, rfl⟩
  clear O
  go_wp2_with fail
  refine (unhide cF _).mono ?_
  rintro e w3 ⟨rfl, b3⟩
  have hb3 := bthen hb b3
  have hr3 := Below.row b3 (unhide HR)
  clear b3 cF k0 k1 k2 k3 k4 hb HR
  obtain ⟨c0, c1, c2, c3, c4, c5, c6, c7, f0, f1, f2, f3, f4, f5, f6, f7⟩ := cells8 hr3
  have HR := hide hr3
  clear hr3
  go_wp2_with fail
  refine bodyPost_ret ?_ rfl ⟨rfl, below8 hb3 (Nat.le_succ _)⟩
  exact results_row2 rfl _ _ (w.heap.size + 1) 44 _ _ _ _ rfl rfl (set8 (unhide HR)) Tryd.underlying44 rfl (by kernel_rfl)
/-- what Tell tells -/
def tells (a : Ar) (m : Nat) : Fr × Int := if a.op = 1 ∧ a.check = 0 ∧ ownH m = true then (arpFr a.smac (tellAr a m), 0) else (Fr.none, 51)
theorem tell_any (a : Ar) (m : Nat) (w : World) (h : a.fits) (hm : m < 18446744073709551616) :
    Calls Tryd.prog 20 #[a.val, .int .u64 m] w fun e w' => e = .returned (.tuple #[(tells a m).1.val, .int .i64 (tells a m).2]) ∧ Below w.heap.size w w' := by
  have K := fun W => arpCheck_any a W h
  have O := fun W => own_any m W hm
  unfold tells
  by_cases h1 : a.op = 1
  · by_cases h2 : a.check = 0
    · rw [h2] at K
      by_cases h3 : ownH m = true
      · rw [h3] at O
        rw [if_pos ⟨h1, h2, h3⟩]
        exact tell_good a.op a.smac a.sip a.tmac a.tip m (bs (tellAr a m).bytes) w (by rw [h1]; rfl) (hide K) (hide O) (hide fun W => frame_any a.smac (tellAr a m) W ⟨by unfold tellAr; simp, hm, h.2.2.2.2, h.2.1, h.2.2.1⟩ (by unfold tellAr; simp))
      · have h4 : ownH m = false := by simpa using h3
        rw [h4] at O
        rw [if_neg (fun q => h3 q.2.2)]
        exact tell_own a.op a.smac a.sip a.tmac a.tip m w (by rw [h1]; rfl) (hide K) (hide O)
    · rw [if_neg (fun q => h2 q.2.1)]
      exact tell_check a.op a.smac a.sip a.tmac a.tip m a.check w (by rw [h1]; rfl) (by simpa using h2) (hide K)
  · rw [if_neg (fun q => h1 q.1)]
    exact tell_op a.op a.smac a.sip a.tmac a.tip m w (by simpa using h1)
end Go.Proofs.YtljhgehlaehgnaaDoor
