/-
  gangwaylaw03.fixed answers true: the calls whose answers the document fixes; sums of one, two and three parts.
-/
import Derived.Test.YtaacmohlmdkigaaDoorSum2
namespace Go.Proofs.YtaacmohlmdkigaaDoor
open Go.RowKit

/-- a cell of the block that was made last -/
theorem cell_last {W : World} {os : Array Value} {t : TypeId} {b j : Nat} {v : Value} (hb : W.heap.size = b) (h : os[j]? = some v) : (W.alloc (.cells os t)).cell? ⟨b, j, none⟩ = some v := by
  rw [World.cell?_alloc_at _ _ _ _ hb.symm]; exact h
theorem of_one (a : List UInt8) (b cap : Nat) (w : World) (hl : a.length ≤ 10000) (h0 : w.cell? ⟨b, 0, none⟩ = some (.string (bs a))) :
    Calls Tryd.prog 11 #[.slice (some ⟨b, 0, none⟩) 1 cap] w fun e w' => e = .returned (.int .i64 (ck a : Nat)) ∧ w' = w := by
  have h := of_any b 0 cap [a] w (by simp; omega) (by simp) (fun j hj => by
    match j, hj with
    | 0, _ => exact h0)
  rw [List.flatten_singleton] at h
  exact h
theorem of_two (a1 a2 : List UInt8) (b cap : Nat) (w : World) (hl : a1.length + a2.length ≤ 10000) (h0 : w.cell? ⟨b, 0, none⟩ = some (.string (bs a1))) (h1 : w.cell? ⟨b, 1, none⟩ = some (.string (bs a2))) :
    Calls Tryd.prog 11 #[.slice (some ⟨b, 0, none⟩) 2 cap] w fun e w' => e = .returned (.int .i64 (ck (a1 ++ a2) : Nat)) ∧ w' = w := by
  have h := of_any b 0 cap [a1, a2] w (by simp; omega) (by simp) (fun j hj => by
    match j, hj with
    | 0, _ => exact h0
    | 1, _ => exact h1)
  rw [show [a1, a2].flatten = a1 ++ a2 by simp] at h
  exact h
theorem of_three (a1 a2 a3 : List UInt8) (b cap : Nat) (w : World) (hl : a1.length + a2.length + a3.length ≤ 10000) (h0 : w.cell? ⟨b, 0, none⟩ = some (.string (bs a1))) (h1 : w.cell? ⟨b, 1, none⟩ = some (.string (bs a2))) (h2 : w.cell? ⟨b, 2, none⟩ = some (.string (bs a3))) :
    Calls Tryd.prog 11 #[.slice (some ⟨b, 0, none⟩) 3 cap] w fun e w' => e = .returned (.int .i64 (ck (a1 ++ a2 ++ a3) : Nat)) ∧ w' = w := by
  have h := of_any b 0 cap [a1, a2, a3] w (by simp; omega) (by simp) (fun j hj => by
    match j, hj with
    | 0, _ => exact h0
    | 1, _ => exact h1
    | 2, _ => exact h2)
  rw [show [a1, a2, a3].flatten = a1 ++ a2 ++ a3 by simp] at h
  exact h
/-- are bytes right -/
def ok (l : List UInt8) : Bool := decide (fold (tot l) = 65535)
theorem right_one (a : List UInt8) (b cap : Nat) (w : World) (hl : a.length ≤ 10000) (h0 : w.cell? ⟨b, 0, none⟩ = some (.string (bs a))) :
    Calls Tryd.prog 13 #[.slice (some ⟨b, 0, none⟩) 1 cap] w fun e w' => e = .returned (.bool (ok a)) ∧ w' = w := by
  have h := right_any b 0 cap [a] w (by simp; omega) (by simp) (fun j hj => by
    match j, hj with
    | 0, _ => exact h0)
  rw [List.flatten_singleton] at h
  exact h
theorem right_two (a1 a2 : List UInt8) (b cap : Nat) (w : World) (hl : a1.length + a2.length ≤ 10000) (h0 : w.cell? ⟨b, 0, none⟩ = some (.string (bs a1))) (h1 : w.cell? ⟨b, 1, none⟩ = some (.string (bs a2))) :
    Calls Tryd.prog 13 #[.slice (some ⟨b, 0, none⟩) 2 cap] w fun e w' => e = .returned (.bool (ok (a1 ++ a2))) ∧ w' = w := by
  have h := right_any b 0 cap [a1, a2] w (by simp; omega) (by simp) (fun j hj => by
    match j, hj with
    | 0, _ => exact h0
    | 1, _ => exact h1)
  rw [show [a1, a2].flatten = a1 ++ a2 by simp] at h
  exact h
theorem right_three (a1 a2 a3 : List UInt8) (b cap : Nat) (w : World) (hl : a1.length + a2.length + a3.length ≤ 10000) (h0 : w.cell? ⟨b, 0, none⟩ = some (.string (bs a1))) (h1 : w.cell? ⟨b, 1, none⟩ = some (.string (bs a2))) (h2 : w.cell? ⟨b, 2, none⟩ = some (.string (bs a3))) :
    Calls Tryd.prog 13 #[.slice (some ⟨b, 0, none⟩) 3 cap] w fun e w' => e = .returned (.bool (ok (a1 ++ a2 ++ a3))) ∧ w' = w := by
  have h := right_any b 0 cap [a1, a2, a3] w (by simp; omega) (by simp) (fun j hj => by
    match j, hj with
    | 0, _ => exact h0
    | 1, _ => exact h1
    | 2, _ => exact h2)
  rw [show [a1, a2, a3].flatten = a1 ++ a2 ++ a3 by simp] at h
  exact h

theorem fx_of1 (b cap : Nat) (w : World) (h0 : w.cell? ⟨b, 0, none⟩ = some (.string ⟨#[0, 1, 242, 3]⟩)) : Calls Tryd.prog 11 #[.slice (some ⟨b, 0, none⟩) 1 cap] w fun e w' => e = .returned (.int .i64 3579) ∧ w' = w := by
  have h := of_one [0, 1, 242, 3] b cap w (by decide) h0
  have e : ck [0, 1, 242, 3] = 3579 := by decide +kernel
  rw [e] at h; exact h
theorem fx_of2 (b cap : Nat) (w : World) (h0 : w.cell? ⟨b, 0, none⟩ = some (.string ⟨#[1]⟩)) : Calls Tryd.prog 11 #[.slice (some ⟨b, 0, none⟩) 1 cap] w fun e w' => e = .returned (.int .i64 65279) ∧ w' = w := by
  have h := of_one [1] b cap w (by decide) h0
  have e : ck [1] = 65279 := by decide +kernel
  rw [e] at h; exact h
theorem fx_right1 (b cap : Nat) (w : World) (h0 : w.cell? ⟨b, 0, none⟩ = some (.string ⟨#[0, 1, 242, 3, 13]⟩)) (h1 : w.cell? ⟨b, 1, none⟩ = some (.string ⟨#[251]⟩)) : Calls Tryd.prog 13 #[.slice (some ⟨b, 0, none⟩) 2 cap] w fun e w' => e = .returned (.bool true) ∧ w' = w := by
  have h := right_two [0, 1, 242, 3, 13] [251] b cap w (by decide) h0 h1
  have e : ok ([0, 1, 242, 3, 13] ++ [251]) = true := by decide +kernel
  rw [e] at h; exact h
theorem fx_right2 (b cap : Nat) (w : World) (h0 : w.cell? ⟨b, 0, none⟩ = some (.string ⟨#[0, 1]⟩)) : Calls Tryd.prog 13 #[.slice (some ⟨b, 0, none⟩) 1 cap] w fun e w' => e = .returned (.bool false) ∧ w' = w := by
  have h := right_one [0, 1] b cap w (by decide) h0
  have e : ok [0, 1] = false := by decide +kernel
  rw [e] at h; exact h
theorem fx_patch (w : World) : Calls Tryd.prog 14 #[.int .i64 3579, .int .i64 1, .int .i64 2] w fun e w' => e = .returned (.int .i64 3578) ∧ w' = w := by
  have h := patch_any 3579 1 2 61956 65534 2 w (by decide) (by decide) (by decide)
  have e : pat 61956 65534 2 = 3578 := by decide +kernel
  rw [e] at h; exact h
theorem fx_head (w : World) : Calls Tryd.prog 16 #[.int .u32 167772161, .int .u32 167772162, .int .i64 17, .int .i64 9] w fun e w' => e = .returned (.string ⟨#[10, 0, 0, 1, 10, 0, 0, 2, 0, 17, 0, 9]⟩) ∧ Below w.heap.size w w' := by
  have h := head_any 167772161 167772162 17 9 17 9 w (by decide) (by decide) (by rw [IntKind.wrap_u64]; decide) (by rw [IntKind.wrap_u64]; decide)
  have e : bs (headB 167772161 167772162 17 9) = ⟨#[10, 0, 0, 1, 10, 0, 0, 2, 0, 17, 0, 9]⟩ := by decide +kernel
  rw [e] at h; exact h

set_option maxHeartbeats 4000000 in
theorem fixed_any (w : World) : Calls Tryd.prog 10 #[] w fun e w' => e = .returned (.bool true) ∧ Below w.heap.size w w' := by
  go_enter Tryd.func10, Tryd.ntmps10
  go_wp2_with fail
  refine (of_nil _).mono ?_
  rintro e w1 ⟨rfl, rfl⟩
  go_wp2_with fail
  refine (fx_of1 _ _ _ (by simp)).mono ?_
  rintro e w2 ⟨rfl, rfl⟩
  go_wp2_with fail
  refine (fx_of2 _ _ _ (by simp)).mono ?_
  rintro e w3 ⟨rfl, rfl⟩
  go_wp2_with fail
  refine (fx_right1 _ _ _ ?_ ?_).mono ?_
  · exact cell_last (by simp) rfl
  · exact cell_last (by simp) rfl
  rintro e w4 ⟨rfl, rfl⟩
  go_wp2_with fail
  refine (fx_right2 _ _ _ ?_).mono ?_
  · exact cell_last (by simp) rfl
  rintro e w5 ⟨rfl, rfl⟩
  go_wp2_with fail
  refine (fx_patch _).mono ?_
  rintro e w6 ⟨rfl, rfl⟩
  go_wp2_with fail
  refine (fx_head _).mono ?_
  rintro e w7 ⟨rfl, b7⟩
  have hb : Below w1.heap.size w1 w7 := by
    refine Below.trans ?_ (b7.mono (by simp; omega))
    exact ((((Below.refl _ _).alloc (Nat.le_refl _) _).alloc (by simp) _).alloc (by simp; omega) _).alloc (by simp; omega) _
  clear b7
  go_wp2_with fail
  go_ret
  exact ⟨rfl, hb⟩
end Go.Proofs.YtaacmohlmdkigaaDoor
