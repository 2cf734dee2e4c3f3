/-
  The contracts of bpdu.Frame and Of: the frame that a message goes in, and the message in a frame, if there is one; no cell that was there before has turned.
-/
import Derived.Test.YtchgmbbcfjfhoaaDoorBp2
import Derived.Test.YtchgmbbcfjfhoaaDoorBp5
import Derived.Test.YtchgmbbcfjfhoaaDoorOwnMac5
namespace Go.Proofs.YtchgmbbcfjfhoaaDoor
open Go.RowKit Go.Sort

/-- a frame as the program has it -/
def Fr.val (f : Fr) : Value := .agg #[.int .u64 (f.dst : Int), .int .u64 (f.src : Int), .bool f.has, .int .i64 f.pri, .bool f.dei, .int .i64 f.vid, .int .i64 f.ty, .string (bs f.body)]
set_option maxRecDepth 100000 in
set_option maxHeartbeats 4000000 in
theorem frame_not (s : Int) (k : Int) (c p l f a x : Bool) (r R C B P A M H D : Int) (X : ByteArray) (E : Int) (w : World) (hE : (E != 0) = true)
    (k1 : Hid (∀ W, Calls Tryd.prog 9 #[.agg #[.int .i64 k, .bool c, .bool p, .bool l, .bool f, .bool a, .bool x, .int .i64 r, .int .u64 R, .int .i64 C, .int .u64 B, .int .i64 P, .int .i64 A, .int .i64 M, .int .i64 H, .int .i64 D]] W fun e W' => e = .returned (.tuple #[.string X, .int .i64 E]) ∧ Below W.heap.size W W')) :
    Calls Tryd.prog 16 #[.int .u64 s, .agg #[.int .i64 k, .bool c, .bool p, .bool l, .bool f, .bool a, .bool x, .int .i64 r, .int .u64 R, .int .i64 C, .int .u64 B, .int .i64 P, .int .i64 A, .int .i64 M, .int .i64 H, .int .i64 D]] w fun e w' => e = .returned (.tuple #[.agg #[.int .u64 0, .int .u64 0, .bool false, .int .i64 0, .bool false, .int .i64 0, .int .i64 0, .string ⟨#[]⟩], .int .i64 E]) ∧ Below w.heap.size w w' := by
  go_enter Tryd.func16, Tryd.ntmps16
  go_wp2_with fail
  refine (unhide k1 _).mono ?_
  rintro e w1 ⟨rfl, b1⟩
  have hb := bthen (alloc_then (alloc_below w _)) b1
  have hr := Below.row b1 (heap_alloc2_new w _ _)
  obtain ⟨c0, c1, c2, c3, c4, c5, c6, c7, f0, f1, f2, f3, f4, f5, f6, f7⟩ := cells8 hr
  have HR := hide hr
  clear b1 k1 hr
  go_wp2_with fail
  refine bodyPost_ret (v := .tuple #[.agg #[.int .u64 0, .int .u64 0, .bool false, .int .i64 0, .bool false, .int .i64 0, .int .i64 0, .string ⟨#[]⟩], .int .i64 E]) ?_ rfl ⟨rfl, below8 hb (Nat.le_succ _)⟩
  exact results_row2 rfl _ _ (w.heap.size + 1) 37 _ _ _ _ rfl rfl (set8 (unhide HR)) Tryd.underlying37 rfl (by kernel_rfl)
set_option maxRecDepth 100000 in
set_option maxHeartbeats 4000000 in
theorem frame_own (s : Int) (k : Int) (c p l f a x : Bool) (r R C B P A M H D : Int) (X : ByteArray) (w : World) (k1 : Hid (∀ W, Calls Tryd.prog 9 #[.agg #[.int .i64 k, .bool c, .bool p, .bool l, .bool f, .bool a, .bool x, .int .i64 r, .int .u64 R, .int .i64 C, .int .u64 B, .int .i64 P, .int .i64 A, .int .i64 M, .int .i64 H, .int .i64 D]] W fun e W' => e = .returned (.tuple #[.string X, .int .i64 0]) ∧ Below W.heap.size W W'))
    (k2 : Hid (∀ W, Calls Tryd.prog 35 #[.int .u64 s] W fun e W' => e = .returned (.bool false) ∧ W' = W)) :
    Calls Tryd.prog 16 #[.int .u64 s, .agg #[.int .i64 k, .bool c, .bool p, .bool l, .bool f, .bool a, .bool x, .int .i64 r, .int .u64 R, .int .i64 C, .int .u64 B, .int .i64 P, .int .i64 A, .int .i64 M, .int .i64 H, .int .i64 D]] w fun e w' => e = .returned (.tuple #[.agg #[.int .u64 0, .int .u64 0, .bool false, .int .i64 0, .bool false, .int .i64 0, .int .i64 0, .string ⟨#[]⟩], .int .i64 91]) ∧ Below w.heap.size w w' := by
  go_enter Tryd.func16, Tryd.ntmps16
  go_wp2_with fail
  refine (unhide k1 _).mono ?_
  rintro e w1 ⟨rfl, b1⟩
  have hb := bthen (alloc_then (alloc_below w _)) b1
  have hr := Below.row b1 (heap_alloc2_new w _ _)
  obtain ⟨c0, c1, c2, c3, c4, c5, c6, c7, f0, f1, f2, f3, f4, f5, f6, f7⟩ := cells8 hr
  have HR := hide hr
  clear b1 k1 hr
  go_wp2_with fail
  refine (unhide k2 _).mono ?_
  rintro e w2 ⟨rfl, rfl⟩
  clear k2
  go_wp2_with fail
  refine bodyPost_ret (v := .tuple #[.agg #[.int .u64 0, .int .u64 0, .bool false, .int .i64 0, .bool false, .int .i64 0, .int .i64 0, .string ⟨#[]⟩], .int .i64 91]) ?_ rfl ⟨rfl, below8 hb (Nat.le_succ _)⟩
  exact results_row2 rfl _ _ (w.heap.size + 1) 37 _ _ _ _ rfl rfl (set8 (unhide HR)) Tryd.underlying37 rfl (by kernel_rfl)
set_option maxRecDepth 100000 in
set_option maxHeartbeats 4000000 in
theorem frame_good (s : Int) (k : Int) (c p l f a x : Bool) (r R C B P A M H D : Int) (X : ByteArray) (w : World) (k1 : Hid (∀ W, Calls Tryd.prog 9 #[.agg #[.int .i64 k, .bool c, .bool p, .bool l, .bool f, .bool a, .bool x, .int .i64 r, .int .u64 R, .int .i64 C, .int .u64 B, .int .i64 P, .int .i64 A, .int .i64 M, .int .i64 H, .int .i64 D]] W fun e W' => e = .returned (.tuple #[.string X, .int .i64 0]) ∧ Below W.heap.size W W'))
    (k2 : Hid (∀ W, Calls Tryd.prog 35 #[.int .u64 s] W fun e W' => e = .returned (.bool true) ∧ W' = W)) :
    Calls Tryd.prog 16 #[.int .u64 s, .agg #[.int .i64 k, .bool c, .bool p, .bool l, .bool f, .bool a, .bool x, .int .i64 r, .int .u64 R, .int .i64 C, .int .u64 B, .int .i64 P, .int .i64 A, .int .i64 M, .int .i64 H, .int .i64 D]] w fun e w' => e = .returned (.tuple #[.agg #[.int .u64 1652522221568, .int .u64 s, .bool false, .int .i64 0, .bool false, .int .i64 0, .int .i64 0, .string X], .int .i64 0]) ∧ Below w.heap.size w w' := by
  go_enter Tryd.func16, Tryd.ntmps16
  go_wp2_with fail
  refine (unhide k1 _).mono ?_
  rintro e w1 ⟨rfl, b1⟩
  have hb := bthen (alloc_then (alloc_below w _)) b1
  have hr := Below.row b1 (heap_alloc2_new w _ _)
  obtain ⟨c0, c1, c2, c3, c4, c5, c6, c7, f0, f1, f2, f3, f4, f5, f6, f7⟩ := cells8 hr
  have HR := hide hr
  clear b1 k1 hr
  go_wp2_with fail
  refine (unhide k2 _).mono ?_
  rintro e w2 ⟨rfl, rfl⟩
  clear k2
  go_wp2_with fail
  refine bodyPost_ret (v := .tuple #[.agg #[.int .u64 1652522221568, .int .u64 s, .bool false, .int .i64 0, .bool false, .int .i64 0, .int .i64 0, .string X], .int .i64 0]) ?_ rfl ⟨rfl, below8 hb (Nat.le_succ _)⟩
  exact results_row2 rfl _ _ (w.heap.size + 1) 37 _ _ _ _ rfl rfl (set8 (unhide HR)) Tryd.underlying37 rfl (by kernel_rfl)
/-- a frame that a message goes in -/
def bpFr (s : Nat) (b : Bp) : Fr := ⟨1652522221568, s, false, 0, false, 0, 0, b.bytes⟩
/-- what Frame tells -/
def framed (s : Nat) (b : Bp) : Fr × Int := if b.check = 0 ∧ ownH s = true then (bpFr s b, 0) else (Fr.none, 91)
theorem Bp.check_two (b : Bp) : b.check = 0 ∨ b.check = 91 := by
  unfold Bp.check; cases b.good <;> simp
theorem frame_any (s : Nat) (b : Bp) (w : World) (hs : s < 18446744073709551616) (hf : b.fits) :
    Calls Tryd.prog 16 #[.int .u64 (s : Int), b.val] w fun e w' => e = .returned (.tuple #[(framed s b).1.val, .int .i64 (framed s b).2]) ∧ Below w.heap.size w w' := by
  have k := fun W => bpBuild_any b W hf
  have kO := fun W => own_any s W hs
  unfold framed
  by_cases h : b.check = 0
  · rw [h] at k
    unfold Bp.built at k
    rw [if_pos h] at k
    cases ho : ownH s
    · rw [ho] at kO
      rw [if_neg (by simp)]
      exact frame_own s b.kind b.change b.propose b.learn b.forward b.agree b.ack b.role b.root b.cost b.bridge b.port b.age b.maxAge b.hello b.delay _ w (hide k) (hide kO)
    · rw [ho] at kO
      rw [if_pos ⟨h, rfl⟩]
      exact frame_good s b.kind b.change b.propose b.learn b.forward b.agree b.ack b.role b.root b.cost b.bridge b.port b.age b.maxAge b.hello b.delay _ w (hide k) (hide kO)
  · rw [if_neg (fun q => h q.1)]
    have e : b.check = 91 := by have := b.check_two; omega
    rw [e] at k
    exact frame_not s b.kind b.change b.propose b.learn b.forward b.agree b.ack b.role b.root b.cost b.bridge b.port b.age b.maxAge b.hello b.delay _ 91 w (by decide) (hide k)
set_option maxRecDepth 100000 in
set_option maxHeartbeats 4000000 in
theorem of_dst (d s : Int) (has : Bool) (pri : Int) (dei : Bool) (vid ty : Int) (Y : ByteArray) (w : World) (h1 : (d != 1652522221568) = true)  :
    Calls Tryd.prog 18 #[.agg #[.int .u64 d, .int .u64 s, .bool has, .int .i64 pri, .bool dei, .int .i64 vid, .int .i64 ty, .string Y]] w fun e w' => e = .returned (.tuple #[.agg #[.int .i64 0, .bool false, .bool false, .bool false, .bool false, .bool false, .bool false, .int .i64 0, .int .u64 0, .int .i64 0, .int .u64 0, .int .i64 0, .int .i64 0, .int .i64 0, .int .i64 0, .int .i64 0], .bool false]) ∧ Below w.heap.size w w' := by
  go_enter Tryd.func18, Tryd.ntmps18
  go_wp2_with fail
  refine bodyPost_ret (v := .tuple #[.agg #[.int .i64 0, .bool false, .bool false, .bool false, .bool false, .bool false, .bool false, .int .i64 0, .int .u64 0, .int .i64 0, .int .u64 0, .int .i64 0, .int .i64 0, .int .i64 0, .int .i64 0, .int .i64 0], .bool false]) ?_ rfl ⟨rfl, alloc_then (alloc_below _ _)⟩
  exact results_row2 rfl _ _ (w.heap.size + 1) 24 _ _ _ _ rfl rfl (heap_last _ _ _ (by simp)) Tryd.underlying24 rfl (by kernel_rfl)
set_option maxRecDepth 100000 in
set_option maxHeartbeats 4000000 in
theorem of_tag (d s : Int) (has : Bool) (pri : Int) (dei : Bool) (vid ty : Int) (Y : ByteArray) (w : World) (h1 : (d != 1652522221568) = false) (h2 : has = true)  :
    Calls Tryd.prog 18 #[.agg #[.int .u64 d, .int .u64 s, .bool has, .int .i64 pri, .bool dei, .int .i64 vid, .int .i64 ty, .string Y]] w fun e w' => e = .returned (.tuple #[.agg #[.int .i64 0, .bool false, .bool false, .bool false, .bool false, .bool false, .bool false, .int .i64 0, .int .u64 0, .int .i64 0, .int .u64 0, .int .i64 0, .int .i64 0, .int .i64 0, .int .i64 0, .int .i64 0], .bool false]) ∧ Below w.heap.size w w' := by
  go_enter Tryd.func18, Tryd.ntmps18
  go_wp2_with fail
  refine bodyPost_ret (v := .tuple #[.agg #[.int .i64 0, .bool false, .bool false, .bool false, .bool false, .bool false, .bool false, .int .i64 0, .int .u64 0, .int .i64 0, .int .u64 0, .int .i64 0, .int .i64 0, .int .i64 0, .int .i64 0, .int .i64 0], .bool false]) ?_ rfl ⟨rfl, alloc_then (alloc_below _ _)⟩
  exact results_row2 rfl _ _ (w.heap.size + 1) 24 _ _ _ _ rfl rfl (heap_last _ _ _ (by simp)) Tryd.underlying24 rfl (by kernel_rfl)
set_option maxRecDepth 100000 in
set_option maxHeartbeats 4000000 in
theorem of_type (d s : Int) (has : Bool) (pri : Int) (dei : Bool) (vid ty : Int) (Y : ByteArray) (w : World) (h1 : (d != 1652522221568) = false) (h2 : has = false) (h3 : (ty != 0) = true)  :
    Calls Tryd.prog 18 #[.agg #[.int .u64 d, .int .u64 s, .bool has, .int .i64 pri, .bool dei, .int .i64 vid, .int .i64 ty, .string Y]] w fun e w' => e = .returned (.tuple #[.agg #[.int .i64 0, .bool false, .bool false, .bool false, .bool false, .bool false, .bool false, .int .i64 0, .int .u64 0, .int .i64 0, .int .u64 0, .int .i64 0, .int .i64 0, .int .i64 0, .int .i64 0, .int .i64 0], .bool false]) ∧ Below w.heap.size w w' := by
  go_enter Tryd.func18, Tryd.ntmps18
  go_wp2_with fail
  refine bodyPost_ret (v := .tuple #[.agg #[.int .i64 0, .bool false, .bool false, .bool false, .bool false, .bool false, .bool false, .int .i64 0, .int .u64 0, .int .i64 0, .int .u64 0, .int .i64 0, .int .i64 0, .int .i64 0, .int .i64 0, .int .i64 0], .bool false]) ?_ rfl ⟨rfl, alloc_then (alloc_below _ _)⟩
  exact results_row2 rfl _ _ (w.heap.size + 1) 24 _ _ _ _ rfl rfl (heap_last _ _ _ (by simp)) Tryd.underlying24 rfl (by kernel_rfl)
set_option maxRecDepth 100000 in
set_option maxHeartbeats 4000000 in
theorem of_at (d s : Int) (has : Bool) (pri : Int) (dei : Bool) (vid ty : Int) (Y : ByteArray) (k : Int) (c p l f a x : Bool) (r R C B P A M H D : Int) (E : Int) (z : Bool) (w : World) (h1 : (d != 1652522221568) = false) (h2 : has = false) (h3 : (ty != 0) = false) (hz : (E == 0) = z)
    (k1 : Hid (∀ W, Calls Tryd.prog 14 #[.string Y] W fun e W' => e = .returned (.tuple #[.agg #[.int .i64 k, .bool c, .bool p, .bool l, .bool f, .bool a, .bool x, .int .i64 r, .int .u64 R, .int .i64 C, .int .u64 B, .int .i64 P, .int .i64 A, .int .i64 M, .int .i64 H, .int .i64 D], .int .i64 E]) ∧ Below W.heap.size W W')) :
    Calls Tryd.prog 18 #[.agg #[.int .u64 d, .int .u64 s, .bool has, .int .i64 pri, .bool dei, .int .i64 vid, .int .i64 ty, .string Y]] w fun e w' => e = .returned (.tuple #[.agg #[.int .i64 k, .bool c, .bool p, .bool l, .bool f, .bool a, .bool x, .int .i64 r, .int .u64 R, .int .i64 C, .int .u64 B, .int .i64 P, .int .i64 A, .int .i64 M, .int .i64 H, .int .i64 D], .bool z]) ∧ Below w.heap.size w w' := by
  go_enter Tryd.func18, Tryd.ntmps18
  go_wp2_with fail
  refine (unhide k1 _).mono ?_
  rintro e w1 ⟨rfl, b1⟩
  have hb := bthen (alloc_then (alloc_below w _)) b1
  have hr := Below.row b1 (heap_alloc2_new w _ _)
  have hr2 := Below.row (alloc_below w1 (.cells #[.int .i64 k, .bool c, .bool p, .bool l, .bool f, .bool a, .bool x, .int .i64 r, .int .u64 R, .int .i64 C, .int .u64 B, .int .i64 P, .int .i64 A, .int .i64 M, .int .i64 H, .int .i64 D] 24)) hr
  clear b1 k1 hr
  obtain ⟨c0, c1, c2, c3, c4, c5, c6, c7, c8, c9, c10, c11, c12, c13, c14, c15, f0, f1, f2, f3, f4, f5, f6, f7, f8, f9, f10, f11, f12, f13, f14, f15⟩ := cells16 hr2
  have HR := hide hr2
  clear hr2
  go_wp2_with fail
  refine bodyPost_ret (v := .tuple #[.agg #[.int .i64 k, .bool c, .bool p, .bool l, .bool f, .bool a, .bool x, .int .i64 r, .int .u64 R, .int .i64 C, .int .u64 B, .int .i64 P, .int .i64 A, .int .i64 M, .int .i64 H, .int .i64 D], .bool z]) ?_ rfl ⟨rfl, below16 (alloc_then hb) (Nat.le_succ _)⟩
  exact results_row2 rfl _ _ (w.heap.size + 1) 24 _ _ _ _ rfl rfl (set16 (unhide HR)) Tryd.underlying24 rfl (by kernel_rfl)
/-- the message in a frame, and whether there is one -/
def ofFr (f : Fr) : Bp × Bool := if f.dst = 1652522221568 ∧ f.has = false ∧ f.ty = 0 then ((Bp.parse f.body).1, (Bp.parse f.body).2 == 0) else (.none, false)
theorem of_any (f : Fr) (w : World) (hl : f.body.length ≤ 10000) : Calls Tryd.prog 18 #[f.val] w fun e w' => e = .returned (.tuple #[(ofFr f).1.val, .bool (ofFr f).2]) ∧ Below w.heap.size w w' := by
  unfold ofFr
  by_cases h : f.dst = 1652522221568
  · have q1 : ((f.dst : Int) != 1652522221568) = false := by rw [h]; rfl
    cases hh : f.has
    · by_cases ht : f.ty = 0
      · rw [if_pos ⟨h, rfl, ht⟩]
        exact of_at f.dst f.src f.has f.pri f.dei f.vid f.ty (bs f.body) _ _ _ _ _ _ _ _ _ _ _ _ _ _ _ _ _ _ w q1 hh (by rw [ht]; rfl) rfl (hide fun W => bpParse_any f.body W hl)
      · rw [if_neg (fun q => ht q.2.2)]
        exact of_type f.dst f.src f.has f.pri f.dei f.vid f.ty (bs f.body) w q1 hh (by simpa using ht)
    · rw [if_neg (by simp)]
      exact of_tag f.dst f.src f.has f.pri f.dei f.vid f.ty (bs f.body) w q1 hh
  · rw [if_neg (fun q => h q.1)]
    exact of_dst f.dst f.src f.has f.pri f.dei f.vid f.ty (bs f.body) w (by rw [bne_iff_ne]; omega)
end Go.Proofs.YtchgmbbcfjfhoaaDoor
