/-
  The calls whose answers the document fixes: the law's own 'fixed' answers true; no cell that was there before has turned. Condition: the variable errors.errorType holds its type's handle.
-/
import Derived.Test.YtmlmhgonhhcbeaaDoorUnhex
import Derived.Test.YtmlmhgonhhcbeaaDoorPut
namespace Go.Proofs.YtmlmhgonhhcbeaaDoor
open Go.RowKit

theorem fx_put (w : World) : Calls Tryd.prog 9 #[.int .u64 4660, .int .i64 4] w fun e w' => e = .returned (.tuple #[.string ⟨#[0, 0, 18, 52]⟩, .int .i64 0]) ∧ Below w.heap.size w w' := by
  have h := put_ok 4660 4 w (by decide) (by decide) (by decide)
  have e : bs (be 4660 4) = ⟨#[0, 0, 18, 52]⟩ := by decide +kernel
  rw [e] at h; exact h
theorem fx_get (w : World) : Calls Tryd.prog 16 #[.string ⟨#[0, 0, 18, 52]⟩, .int .i64 2, .int .i64 2] w fun e w' => e = .returned (.tuple #[.int .u64 4660, .int .i64 0]) ∧ w' = w := by
  have h := get_ok ⟨#[0, 0, 18, 52]⟩ 2 2 w (by decide) (by decide) (by decide) (by decide)
  have e : num ((⟨#[0, 0, 18, 52]⟩ : ByteArray).extract 2 (2 + 2)).data.toList = 4660 := by decide +kernel
  rw [e] at h; exact h
theorem fx_great (w : World) (hg : Et w) : Calls Tryd.prog 9 #[.int .u64 256, .int .i64 1] w fun e w' => e = .returned (.tuple #[.string ByteArray.empty, .int .i64 1]) ∧ Below w.heap.size w w' :=
  put_great 256 1 w hg (by decide) (by decide) (by decide)
theorem fx_short (w : World) (hg : Et w) : Calls Tryd.prog 16 #[.string ⟨#[0, 0, 18, 52]⟩, .int .i64 3, .int .i64 2] w fun e w' => e = .returned (.tuple #[.int .u64 0, .int .i64 10]) ∧ Below w.heap.size w w' :=
  get_short ⟨#[0, 0, 18, 52]⟩ 3 2 w hg (by decide) (by decide) (by decide) (by decide) (by decide) (by decide)
theorem fx_unhex (w : World) (hg : Et w) : Calls Tryd.prog 12 #[.string ⟨#[48, 48, 48, 48, 49, 50, 51, 52]⟩] w fun e w' => e = .returned (.tuple #[.string ⟨#[0, 0, 18, 52]⟩, .int .i64 0]) ∧ Below w.heap.size w w' := by
  have h := unhex_any ⟨#[48, 48, 48, 48, 49, 50, 51, 52]⟩ w hg (by decide)
  have e : unh (⟨#[48, 48, 48, 48, 49, 50, 51, 52]⟩ : ByteArray).data.toList = some [0, 0, 18, 52] := by decide +kernel
  rw [e] at h; exact h
theorem fx_text (w : World) (hg : Et w) : Calls Tryd.prog 12 #[.string ⟨#[48, 65]⟩] w fun e w' => e = .returned (.tuple #[.string ByteArray.empty, .int .i64 11]) ∧ Below w.heap.size w w' := by
  have h := unhex_any ⟨#[48, 65]⟩ w hg (by decide)
  have e : unh (⟨#[48, 65]⟩ : ByteArray).data.toList = none := by decide +kernel
  rw [e] at h; exact h
theorem fx_cut (w : World) : Calls Tryd.prog 17 #[.string ⟨#[97, 98, 99]⟩, .int .i64 1, .int .i64 2] w fun e w' => e = .returned (.tuple #[.string ⟨#[98, 99]⟩, .int .i64 0]) ∧ Below w.heap.size w w' := by
  have h := cut_ok ⟨#[97, 98, 99]⟩ 1 2 w (by decide) (by decide)
  have e : (⟨#[97, 98, 99]⟩ : ByteArray).extract 1 (1 + 2) = ⟨#[98, 99]⟩ := by decide +kernel
  rw [e] at h; exact h
theorem fx_hex (w : World) : Calls Tryd.prog 14 #[.string ⟨#[0, 0, 18, 52]⟩] w fun e w' => e = .returned (.string ⟨#[48, 48, 48, 48, 49, 50, 51, 52]⟩) ∧ Below w.heap.size w w' := by
  have h := hex_any ⟨#[0, 0, 18, 52]⟩ w (by decide)
  have e : bs (hexs (⟨#[0, 0, 18, 52]⟩ : ByteArray).data.toList) = ⟨#[48, 48, 48, 48, 49, 50, 51, 52]⟩ := by decide +kernel
  rw [e] at h; exact h

theorem bthen {w w1 w2 : World} (h1 : Below w.heap.size w w1) (h2 : Below w1.heap.size w1 w2) : Below w.heap.size w w2 := h1.trans (h2.mono h1.size)

set_option maxHeartbeats 2000000 in
theorem fixed_any (w : World) (hg : Et w) : Calls Tryd.prog 11 #[] w fun e w' => e = .returned (.bool true) ∧ Below w.heap.size w w' := by
  go_enter Tryd.func11, Tryd.ntmps11
  go_wp2_with fail
  refine (fx_put _).mono ?_
  rintro e w1 ⟨rfl, b1⟩
  go_wp2_with fail
  refine (fx_get _).mono ?_
  rintro e w2 ⟨rfl, rfl⟩
  have g1 : Et w2 := hg.next b1
  go_wp2_with fail
  refine (fx_great _ g1).mono ?_
  rintro e w3 ⟨rfl, b3⟩
  have c3 := bthen b1 b3
  have g3 : Et w3 := hg.next c3
  clear b1 b3 g1
  go_wp2_with fail
  refine (fx_short _ g3).mono ?_
  rintro e w4 ⟨rfl, b4⟩
  have c4 := bthen c3 b4
  have g4 : Et w4 := hg.next c4
  clear c3 b4 g3
  go_wp2_with fail
  refine (fx_unhex _ g4).mono ?_
  rintro e w5 ⟨rfl, b5⟩
  have c5 := bthen c4 b5
  have g5 : Et w5 := hg.next c5
  clear c4 b5 g4
  go_wp2_with fail
  refine (fx_text _ g5).mono ?_
  rintro e w6 ⟨rfl, b6⟩
  have c6 := bthen c5 b6
  clear c5 b6 g5
  go_wp2_with fail
  refine (fx_cut _).mono ?_
  rintro e w7 ⟨rfl, b7⟩
  have c7 := bthen c6 b7
  clear c6 b7
  go_wp2_with fail
  refine (fx_hex _).mono ?_
  rintro e w8 ⟨rfl, b8⟩
  have c8 := bthen c7 b8
  clear c7 b8
  go_wp2
  go_ret
  exact ⟨rfl, c8⟩
end Go.Proofs.YtmlmhgonhhcbeaaDoor
