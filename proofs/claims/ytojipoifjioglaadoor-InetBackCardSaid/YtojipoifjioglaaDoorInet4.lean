/-
  The contracts of inet.read, Parse and Older: the packet of bytes, bytes with a Ttl 1 less; no cell that was there before has turned.
-/
import Derived.Test.YtojipoifjioglaaDoorInet3
namespace Go.Proofs.YtojipoifjioglaaDoor
open Go.RowKit Go.Sort

set_option maxRecDepth 100000 in
set_option maxHeartbeats 1000000 in
theorem read_at (S B : ByteArray) (f n a b o t q s d k1 k2 : Nat) (x y : Bool) (w : World) (hn : 20 ≤ n) (hn2 : n < 65536) (hs : s < 4294967296) (hd : d < 4294967296)
    (kf : Hid (∀ W, Calls Tryd.prog 31 #[.string S, .int .i64 6, .int .i64 2] W fun e W' => e = .returned (.int .i64 f) ∧ W' = W))
    (kn : Hid (∀ W, Calls Tryd.prog 31 #[.string S, .int .i64 2, .int .i64 2] W fun e W' => e = .returned (.int .i64 n) ∧ W' = W))
    (kc : Hid (∀ W, Calls Tryd.prog 43 #[.string S, .int .i64 20, .int .i64 ((n : Int) - 20)] W fun e W' => e = .returned (.tuple #[.string B, .int .i64 0]) ∧ Below W.heap.size W W'))
    (ka : Hid (∀ W, Calls Tryd.prog 31 #[.string S, .int .i64 1, .int .i64 1] W fun e W' => e = .returned (.int .i64 a) ∧ W' = W))
    (kb : Hid (∀ W, Calls Tryd.prog 31 #[.string S, .int .i64 4, .int .i64 2] W fun e W' => e = .returned (.int .i64 b) ∧ W' = W))
    (h1 : bits BinOp.and IntKind.i64 (f : Int) 16384 = (k1 : Int)) (x1 : ((k1 : Int) != 0) = x) (h2 : bits BinOp.and IntKind.i64 (f : Int) 8192 = (k2 : Int)) (x2 : ((k2 : Int) != 0) = y) (h3 : bits BinOp.and IntKind.i64 (f : Int) 8191 = (o : Int))
    (kt : Hid (∀ W, Calls Tryd.prog 31 #[.string S, .int .i64 8, .int .i64 1] W fun e W' => e = .returned (.int .i64 t) ∧ W' = W))
    (kq : Hid (∀ W, Calls Tryd.prog 31 #[.string S, .int .i64 9, .int .i64 1] W fun e W' => e = .returned (.int .i64 q) ∧ W' = W))
    (ks : Hid (∀ W, Calls Tryd.prog 31 #[.string S, .int .i64 12, .int .i64 4] W fun e W' => e = .returned (.int .i64 s) ∧ W' = W))
    (kd : Hid (∀ W, Calls Tryd.prog 31 #[.string S, .int .i64 16, .int .i64 4] W fun e W' => e = .returned (.int .i64 d) ∧ W' = W)) :
    Calls Tryd.prog 29 #[.string S] w fun e w' => e = .returned (.agg #[.int .i64 a, .int .i64 b, .bool x, .bool y, .int .i64 o, .int .i64 t, .int .i64 q, .int .u32 s, .int .u32 d, .string B]) ∧ Below w.heap.size w w' := by
  have e1 : IntKind.u32.wrap (s : Int) = (s : Int) := by rw [IntKind.wrap_u32]; omega
  have e2 : IntKind.u32.wrap (d : Int) = (d : Int) := by rw [IntKind.wrap_u32]; omega
  have hn' : wrap64 ((n : Int) - 20) = (n : Int) - 20 := wrap64_id (by omega) (by omega)
  clear hs hd hn hn2
  go_enter Tryd.func29, Tryd.ntmps29
  go_wp2_with fail
  refine (unhide kf _).mono ?_
  rintro e w1 ⟨rfl, rfl⟩
  go_wp2_with fail
  refine (unhide kn _).mono ?_
  rintro e w1 ⟨rfl, rfl⟩
  go_wp2_with fail
  refine (unhide kc _).mono ?_
  rintro e w2 ⟨rfl, b2⟩
  have hb2 := bthen (alloc_below w _) b2
  have hr2 := Below.row b2 (heap_alloc_new w _)
  clear b2 kc kn kf
  go_wp2_with fail
  refine (unhide ka _).mono ?_
  rintro e w1 ⟨rfl, rfl⟩
  go_wp2_with fail
  refine (unhide kb _).mono ?_
  rintro e w1 ⟨rfl, rfl⟩
  go_wp2_with fail
  refine (unhide kt _).mono ?_
  rintro e w1 ⟨rfl, rfl⟩
  go_wp2_with fail
  refine (unhide kq _).mono ?_
  rintro e w1 ⟨rfl, rfl⟩
  go_wp2_with fail
  refine (unhide ks _).mono ?_
  rintro e w1 ⟨rfl, rfl⟩
  go_wp2_with fail
  refine (unhide kd _).mono ?_
  rintro e w1 ⟨rfl, rfl⟩
  obtain ⟨c0, c1, c2, c3, c4, c5, c6, c7, c8, c9, f0, f1, f2, f3, f4, f5, f6, f7, f8, f9⟩ := cells10 hr2
  have HR := hide hr2
  clear hr2 ka kb kt kq ks kd
  go_wp2_with fail
  refine bodyPost_ret ?_ rfl ⟨rfl, below10 hb2 (Nat.le_refl _)⟩
  exact results_cell_row rfl _ _ w.heap.size 24 _ _ _ rfl (set10 (unhide HR)) Tryd.underlying24 rfl (by kernel_rfl)
end Go.Proofs.YtojipoifjioglaaDoor
