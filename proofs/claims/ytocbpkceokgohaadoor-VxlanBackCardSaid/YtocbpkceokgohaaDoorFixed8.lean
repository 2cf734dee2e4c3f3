/-
  gangwaylaw08.fixed: calls whose answers the document fixes: true, always; no cell that was there before has turned.
-/
import Derived.Test.YtocbpkceokgohaaDoorVx2
namespace Go.Proofs.YtocbpkceokgohaaDoor
open Go.RowKit Go.Sort

set_option maxRecDepth 100000 in
set_option maxHeartbeats 4000000 in
theorem fixed_at (p : Int) (w : World) (hp : 49152 ≤ p)
    (A1 : Hid (∀ W, Calls Tryd.prog 8 #[.int .i64 66051, .string ⟨#[120]⟩] W fun e W' => e = .returned (.tuple #[.string ⟨#[8, 0, 0, 0, 1, 2, 3, 0, 120]⟩, .int .i64 0]) ∧ Below W.heap.size W W'))
    (A2 : Hid (∀ W, Calls Tryd.prog 10 #[.string ⟨#[255, 1, 2, 3, 0, 0, 7, 9, 121]⟩] W fun e W' => e = .returned (.tuple #[.int .i64 7, .string ⟨#[121]⟩, .int .i64 0]) ∧ Below W.heap.size W W'))
    (A3 : Hid (∀ W, Calls Tryd.prog 10 #[.string ⟨#[247, 1, 2, 3, 0, 0, 7, 9, 121]⟩] W fun e W' => e = .returned (.tuple #[.int .i64 0, .string ⟨#[]⟩, .int .i64 81]) ∧ Below W.heap.size W W'))
    (A4 : Hid (∀ W, Calls Tryd.prog 10 #[.string ⟨#[8]⟩] W fun e W' => e = .returned (.tuple #[.int .i64 0, .string ⟨#[]⟩, .int .i64 80]) ∧ Below W.heap.size W W'))
    (A5 : Hid (∀ W, Calls Tryd.prog 8 #[.int .i64 16777216, .string ⟨#[]⟩] W fun e W' => e = .returned (.tuple #[.string ⟨#[]⟩, .int .i64 1]) ∧ Below W.heap.size W W'))
    (A6 : Hid (∀ W, Calls Tryd.prog 13 #[.string ⟨#[]⟩] W fun e W' => e = .returned (.int .u32 2166136261) ∧ W' = W))
    (A7 : Hid (∀ W, Calls Tryd.prog 15 #[.string ⟨#[]⟩] W fun e W' => e = .returned (.int .i64 p) ∧ W' = W)) :
    Calls Tryd.prog 12 #[] w fun e w' => e = .returned (.bool true) ∧ Below w.heap.size w w' := by
  go_enter Tryd.func12, Tryd.ntmps12
  go_wp2_with fail
  refine (unhide A1 _).mono ?_
  rintro e w1 ⟨rfl, b1⟩
  clear A1
  go_wp2_with fail
  refine (unhide A2 _).mono ?_
  rintro e w2 ⟨rfl, b2⟩
  clear A2
  go_wp2_with fail
  refine (unhide A3 _).mono ?_
  rintro e w3 ⟨rfl, b3⟩
  clear A3
  go_wp2_with fail
  refine (unhide A4 _).mono ?_
  rintro e w4 ⟨rfl, b4⟩
  clear A4
  go_wp2_with fail
  refine (unhide A5 _).mono ?_
  rintro e w5 ⟨rfl, b5⟩
  clear A5
  have h5 := bthen (bthen (bthen (bthen b1 b2) b3) b4) b5
  clear b1 b2 b3 b4 b5
  go_wp2_with fail
  refine (unhide A6 _).mono ?_
  rintro e w6 ⟨rfl, rfl⟩
  go_wp2_with fail
  refine (unhide A7 _).mono ?_
  rintro e w7 ⟨rfl, rfl⟩
  go_wp2_with fail
  go_ret
  exact ⟨rfl, h5⟩
theorem fixed_true (w : World) : Calls Tryd.prog 12 #[] w fun e w' => e = .returned (.bool true) ∧ Below w.heap.size w w' := by
  have A1 := fun W => vbuild_ok 66051 [120] W (by decide) (by decide)
  rw [show vbytes 66051 [120] = [8, 0, 0, 0, 1, 2, 3, 0, 120] by decide] at A1
  have A2 := fun W => vparse_any [255, 1, 2, 3, 0, 0, 7, 9, 121] W (by decide)
  rw [show vparse [255, 1, 2, 3, 0, 0, 7, 9, 121] = (7, [121], 0) by decide] at A2
  have A3 := fun W => vparse_any [247, 1, 2, 3, 0, 0, 7, 9, 121] W (by decide)
  rw [show vparse [247, 1, 2, 3, 0, 0, 7, 9, 121] = (0, [], 81) by decide] at A3
  have A4 := fun W => vparse_any [8] W (by decide)
  rw [show vparse [8] = (0, [], 80) by decide] at A4
  have A5 := fun W => vbuild_bad 16777216 ⟨#[]⟩ W (by decide)
  have A6 := fun W => hash_any [] W (by decide)
  rw [hs_nil] at A6
  have A7 := fun W => vport_any [] W (by decide)
  have hp := (port_le []).1
  exact fixed_at _ w (by omega) (hide A1) (hide A2) (hide A3) (hide A4) (hide A5) (hide A6) (hide A7)
end Go.Proofs.YtocbpkceokgohaaDoor
