/-
  The contract of bpdu.long: the long message of bytes, or that they are too few; no cell that was there before has turned.
-/
import Derived.Test.YtchgmbbcfjfhoaaDoorBp3
namespace Go.Proofs.YtchgmbbcfjfhoaaDoor
open Go.RowKit Go.Sort

set_option maxRecDepth 100000 in
set_option maxHeartbeats 4000000 in
theorem long_short (S : ByteArray) (n K m : Int) (w : World) (h : (S.size : Int) < n) :
    Calls Tryd.prog 32 #[.string S, .int .i64 n, .int .i64 K, .int .i64 m] w fun e w' => e = .returned (.tuple #[.agg #[.int .i64 0, .bool false, .bool false, .bool false, .bool false, .bool false, .bool false, .int .i64 0, .int .u64 0, .int .i64 0, .int .u64 0, .int .i64 0, .int .i64 0, .int .i64 0, .int .i64 0, .int .i64 0], .int .i64 90]) ∧ Below w.heap.size w w' := by
  go_enter Tryd.func32, Tryd.ntmps32
  go_wp2_with fail
  refine bodyPost_ret (v := .tuple #[.agg #[.int .i64 0, .bool false, .bool false, .bool false, .bool false, .bool false, .bool false, .int .i64 0, .int .u64 0, .int .i64 0, .int .u64 0, .int .i64 0, .int .i64 0, .int .i64 0, .int .i64 0, .int .i64 0], .int .i64 90]) ?_ rfl ⟨rfl, alloc_below _ _⟩
  exact results_row2 rfl _ _ w.heap.size 24 _ _ _ _ rfl rfl (heap_last w _ _ rfl) Tryd.underlying24 rfl (by kernel_rfl)
set_option maxRecDepth 100000 in
set_option maxHeartbeats 4000000 in
theorem long_good (S : ByteArray) (n K m v V : Int) (c p l f a x : Bool) (q R C B P A M H D : Int) (w : World) (h : ¬ (S.size : Int) < n)
    (k7 : Hid (∀ W, Calls Tryd.prog 31 #[.string S, .int .i64 7, .int .i64 1] W fun e W' => e = .returned (.int .u64 v) ∧ W' = W)) (ev : IntKind.i64.wrap v = v) (hV : bits BinOp.and IntKind.i64 v m = V)
    (ku : Hid (∀ W, Calls Tryd.prog 48 #[.int .i64 V] W fun e W' => e = .returned (.agg #[.int .i64 0, .bool c, .bool p, .bool l, .bool f, .bool a, .bool x, .int .i64 q, .int .u64 0, .int .i64 0, .int .u64 0, .int .i64 0, .int .i64 0, .int .i64 0, .int .i64 0, .int .i64 0]) ∧ Below W.heap.size W W'))
    (k8 : Hid (∀ W, Calls Tryd.prog 31 #[.string S, .int .i64 8, .int .i64 8] W fun e W' => e = .returned (.int .u64 R) ∧ W' = W))
    (k16 : Hid (∀ W, Calls Tryd.prog 31 #[.string S, .int .i64 16, .int .i64 4] W fun e W' => e = .returned (.int .u64 C) ∧ W' = W)) (eC : IntKind.i64.wrap C = C)
    (k20 : Hid (∀ W, Calls Tryd.prog 31 #[.string S, .int .i64 20, .int .i64 8] W fun e W' => e = .returned (.int .u64 B) ∧ W' = W))
    (k28 : Hid (∀ W, Calls Tryd.prog 31 #[.string S, .int .i64 28, .int .i64 2] W fun e W' => e = .returned (.int .u64 P) ∧ W' = W)) (eP : IntKind.i64.wrap P = P)
    (k30 : Hid (∀ W, Calls Tryd.prog 31 #[.string S, .int .i64 30, .int .i64 2] W fun e W' => e = .returned (.int .u64 A) ∧ W' = W)) (eA : IntKind.i64.wrap A = A)
    (k32 : Hid (∀ W, Calls Tryd.prog 31 #[.string S, .int .i64 32, .int .i64 2] W fun e W' => e = .returned (.int .u64 M) ∧ W' = W)) (eM : IntKind.i64.wrap M = M)
    (k34 : Hid (∀ W, Calls Tryd.prog 31 #[.string S, .int .i64 34, .int .i64 2] W fun e W' => e = .returned (.int .u64 H) ∧ W' = W)) (eH : IntKind.i64.wrap H = H)
    (k36 : Hid (∀ W, Calls Tryd.prog 31 #[.string S, .int .i64 36, .int .i64 2] W fun e W' => e = .returned (.int .u64 D) ∧ W' = W)) (eD : IntKind.i64.wrap D = D) :
    Calls Tryd.prog 32 #[.string S, .int .i64 n, .int .i64 K, .int .i64 m] w fun e w' => e = .returned (.tuple #[.agg #[.int .i64 K, .bool c, .bool p, .bool l, .bool f, .bool a, .bool x, .int .i64 q, .int .u64 R, .int .i64 C, .int .u64 B, .int .i64 P, .int .i64 A, .int .i64 M, .int .i64 H, .int .i64 D], .int .i64 0]) ∧ Below w.heap.size w w' := by
  go_enter Tryd.func32, Tryd.ntmps32
  go_wp2_with fail
  refine (unhide k7 _).mono ?_
  rintro e w1 ⟨rfl, rfl⟩
  clear k7
  go_wp2_with fail
  refine (unhide ku _).mono ?_
  rintro e w2 ⟨rfl, b2⟩
  have hb := bthen (alloc_below w _) b2
  have hr := Below.row b2 (heap_alloc_new w _)
  have HR := hide (fun o => Below.row (alloc_below w2 o) hr)
  have cs := fun o => cells16 (Below.row (alloc_below w2 o) hr)
  clear ku b2 hr
  go_wp2_with fail
  refine (unhide k8 _).mono ?_
  rintro e w3 ⟨rfl, rfl⟩
  clear k8
  go_wp2_with fail
  refine (unhide k16 _).mono ?_
  rintro e w3 ⟨rfl, rfl⟩
  clear k16
  go_wp2_with fail
  refine (unhide k20 _).mono ?_
  rintro e w3 ⟨rfl, rfl⟩
  clear k20
  go_wp2_with fail
  refine (unhide k28 _).mono ?_
  rintro e w3 ⟨rfl, rfl⟩
  clear k28
  go_wp2_with fail
  refine (unhide k30 _).mono ?_
  rintro e w3 ⟨rfl, rfl⟩
  clear k30
  go_wp2_with fail
  refine (unhide k32 _).mono ?_
  rintro e w3 ⟨rfl, rfl⟩
  clear k32
  go_wp2_with fail
  refine (unhide k34 _).mono ?_
  rintro e w3 ⟨rfl, rfl⟩
  clear k34
  go_wp2_with fail
  refine (unhide k36 _).mono ?_
  rintro e w3 ⟨rfl, rfl⟩
  clear k36
  go_wp2_with fail
  refine bodyPost_ret (v := .tuple #[.agg #[.int .i64 K, .bool c, .bool p, .bool l, .bool f, .bool a, .bool x, .int .i64 q, .int .u64 R, .int .i64 C, .int .u64 B, .int .i64 P, .int .i64 A, .int .i64 M, .int .i64 H, .int .i64 D], .int .i64 0]) ?_ rfl ⟨rfl, below16 (alloc_then hb) (Nat.le_refl _)⟩
  exact results_row2 rfl _ _ w.heap.size 24 _ _ _ _ rfl rfl (set16 (unhide HR _)) Tryd.underlying24 rfl (by kernel_rfl)
end Go.Proofs.YtchgmbbcfjfhoaaDoor
