/-
  The contract of arp.Of: the message in a frame, if there is one; no cell that was there before has turned.
-/
import Derived.Test.YtljhgehlaehgnaaDoorArp4
namespace Go.Proofs.YtljhgehlaehgnaaDoor
open Go.RowKit Go.Sort

set_option maxRecDepth 100000 in
theorem of_type (d s : Int) (has : Bool) (pri : Int) (dei : Bool) (vid ty : Int) (b : ByteArray) (w : World) (h : (ty != 2054) = true) :
    Calls Tryd.prog 11 #[.agg #[.int .u64 d, .int .u64 s, .bool has, .int .i64 pri, .bool dei, .int .i64 vid, .int .i64 ty, .string b]] w fun e w' => e = .returned (.tuple #[Ar.none.val, .bool false]) ∧ Below w.heap.size w w' := by
  go_enter Tryd.func11, Tryd.ntmps11
  go_wp2_with fail
  refine bodyPost_ret ?_ rfl ⟨rfl, alloc_then (alloc_below _ _)⟩
  exact results_row2 rfl _ _ (w.heap.size + 1) 37 _ _ _ _ rfl rfl (heap_last _ _ _ (by simp)) Tryd.underlying37 rfl (by kernel_rfl)
set_option maxRecDepth 100000 in
theorem of_at (d s : Int) (has : Bool) (pri : Int) (dei : Bool) (vid ty : Int) (b : ByteArray) (op q i t j c : Int) (z : Bool) (w : World) (h : (ty != 2054) = false) (hc : (c == 0) = z)
    (P : Hid (∀ W, Calls Tryd.prog 22 #[.string b] W fun e W' => e = .returned (.tuple #[.agg #[.int .i64 op, .int .u64 q, .int .u32 i, .int .u64 t, .int .u32 j], .int .i64 c]) ∧ Below W.heap.size W W')) :
    Calls Tryd.prog 11 #[.agg #[.int .u64 d, .int .u64 s, .bool has, .int .i64 pri, .bool dei, .int .i64 vid, .int .i64 ty, .string b]] w fun e w' => e = .returned (.tuple #[.agg #[.int .i64 op, .int .u64 q, .int .u32 i, .int .u64 t, .int .u32 j], .bool z]) ∧ Below w.heap.size w w' := by
  go_enter Tryd.func11, Tryd.ntmps11
  go_wp2_with fail
  refine (unhide P _).mono ?_
  rintro e w1 ⟨rfl, b1⟩
  have hb := bthen (alloc_then (alloc_below w _)) b1
  have hr := Below.row b1 (heap_alloc2_new w _ _)
  have hr2 := Below.row (alloc_below w1 (.cells #[.int .i64 op, .int .u64 q, .int .u32 i, .int .u64 t, .int .u32 j] 37)) hr
  clear b1 P hr
  obtain ⟨c0, c1, c2, c3, c4, f0, f1, f2, f3, f4⟩ := cells5 hr2
  have HR := hide hr2
  clear hr2
  go_wp2_with fail
  refine bodyPost_ret ?_ rfl ⟨rfl, below5 (alloc_then hb) (Nat.le_succ _)⟩
  exact results_row2 rfl _ _ (w.heap.size + 1) 37 _ _ _ _ rfl rfl (set5 (unhide HR)) Tryd.underlying37 rfl (by kernel_rfl)
/-- the message in a frame, and whether there is one -/
def ofFr (f : Fr) : Ar × Bool := if f.ty = 2054 then ((Ar.parse f.body).1, (Ar.parse f.body).2 == 0) else (.none, false)
theorem of_any (f : Fr) (w : World) (hl : f.body.length ≤ 10000) : Calls Tryd.prog 11 #[f.val] w fun e w' => e = .returned (.tuple #[(ofFr f).1.val, .bool (ofFr f).2]) ∧ Below w.heap.size w w' := by
  unfold ofFr
  by_cases h : f.ty = 2054
  · rw [if_pos h]
    exact of_at f.dst f.src f.has f.pri f.dei f.vid f.ty (bs f.body) _ _ _ _ _ _ _ w (by rw [h]; rfl) rfl (hide fun W => arpParse_any f.body W hl)
  · rw [if_neg h]
    exact of_type f.dst f.src f.has f.pri f.dei f.vid f.ty (bs f.body) w (by simpa using h)
end Go.Proofs.YtljhgehlaehgnaaDoor
