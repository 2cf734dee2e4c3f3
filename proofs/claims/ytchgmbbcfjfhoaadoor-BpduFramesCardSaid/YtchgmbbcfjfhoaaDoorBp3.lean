/-
  The contracts of bpdu.get and unflag: a number of bytes, and the message that has these flags; no cell that was there before has turned.
-/
import Derived.Test.YtchgmbbcfjfhoaaDoorBp1b
import Derived.Test.YtchgmbbcfjfhoaaDoorGet5
namespace Go.Proofs.YtchgmbbcfjfhoaaDoor
open Go.RowKit Go.Sort

theorem nm_extract (l : List UInt8) (a n : Nat) : num ((bs l).extract a (a + n)).data.toList = nm l a n := by
  rw [extract_toList, bs_toList, show a + n - a = n by omega]; rfl
theorem bget_any (l : List UInt8) (a n : Nat) (w : World) (hl : l.length ≤ 10000) (h1 : 1 ≤ n) (h2 : n ≤ 8) (h : a + n ≤ l.length) :
    Calls Tryd.prog 31 #[.string (bs l), .int .i64 (a : Int), .int .i64 (n : Int)] w fun e w' => e = .returned (.int .u64 (nm l a n : Nat)) ∧ w' = w := by
  have G := hide (fun W => get_ok (bs l) a n W (by rw [bs_size]; unfold maxLen; omega) h1 h2 (by rw [bs_size]; exact h))
  rw [nm_extract] at G
  generalize nm l a n = v at *
  generalize bs l = s at *
  clear h h1 h2
  go_enter Tryd.func31, Tryd.ntmps31
  go_wp2_with fail
  refine (unhide G _).mono ?_
  rintro e w1 ⟨rfl, rfl⟩
  go_wp2_with fail
  go_ret
  exact ⟨rfl, rfl⟩
set_option maxRecDepth 100000 in
set_option maxHeartbeats 4000000 in
theorem unflag_at (v b1 b2 b16 b32 b64 b128 b12 q : Int) (c p l f a x : Bool) (w : World)
    (h1 : bits BinOp.and IntKind.i64 v 1 = b1) (h2 : bits BinOp.and IntKind.i64 v 2 = b2) (h16 : bits BinOp.and IntKind.i64 v 16 = b16) (h32 : bits BinOp.and IntKind.i64 v 32 = b32) (h64 : bits BinOp.and IntKind.i64 v 64 = b64) (h128 : bits BinOp.and IntKind.i64 v 128 = b128) (h12 : bits BinOp.and IntKind.i64 v 12 = b12) (hq : IntKind.i64.wrap (b12.tdiv 4) = q)
    (z1 : (b1 != 0) = c) (z2 : (b2 != 0) = p) (z16 : (b16 != 0) = l) (z32 : (b32 != 0) = f) (z64 : (b64 != 0) = a) (z128 : (b128 != 0) = x) :
    Calls Tryd.prog 48 #[.int .i64 v] w fun e w' => e = .returned (.agg #[.int .i64 0, .bool c, .bool p, .bool l, .bool f, .bool a, .bool x, .int .i64 q, .int .u64 0, .int .i64 0, .int .u64 0, .int .i64 0, .int .i64 0, .int .i64 0, .int .i64 0, .int .i64 0]) ∧ Below w.heap.size w w' := by
  go_enter Tryd.func48, Tryd.ntmps48
  go_wp2_with fail
  refine bodyPost_ret (v := .agg #[.int .i64 0, .bool c, .bool p, .bool l, .bool f, .bool a, .bool x, .int .i64 q, .int .u64 0, .int .i64 0, .int .u64 0, .int .i64 0, .int .i64 0, .int .i64 0, .int .i64 0, .int .i64 0]) ?_ rfl ⟨rfl, alloc_below _ _⟩
  exact results_cell_row rfl _ _ w.heap.size 24 _ _ _ rfl (heap_last w _ _ rfl) Tryd.underlying24 rfl (by kernel_rfl)
end Go.Proofs.YtchgmbbcfjfhoaaDoor
