/-
  The contracts of ether.fine, named and size: whether a tag may be, a number is a type, and how many bytes a frame has; no cell that was there before has turned.
-/
import Derived.Test.YtfndofbkfinnmaaDoorInfo
import Derived.Test.YtfndofbkfinnmaaDoorEtherPlain
import Derived.Laws.StructEq
namespace Go.Proofs.YtfndofbkfinnmaaDoor
open Go.RowKit

theorem fields_tag : Tryd.prog.underlying 24 = some (.struct (Tryd.prog.fieldsOf 24)) := by kernel_rfl
theorem held_tag : Tryd.prog.stoodInHeld 24 = false := by kernel_rfl
theorem same_tag (h1 : Bool) (p1 : Int) (d1 : Bool) (v1 : Int) (h2 : Bool) (p2 : Int) (d2 : Bool) (v2 : Int) (W : World) :
    (binOp .eql 24 (.agg #[.bool h1, .int .i64 p1, .bool d1, .int .i64 v1]) (.agg #[.bool h2, .int .i64 p2, .bool d2, .int .i64 v2])).run Tryd.prog W = .ok (.bool (decide (h1 = h2 ∧ p1 = p2 ∧ d1 = d2 ∧ v1 = v2))) W := by
  rw [run_eql_struct, run_equalIn_agg _ _ _ _ _ fields_tag held_tag]
  simp [go_sem, Tryd.underlying24]
  by_cases a : h1 = h2
  · by_cases b : p1 = p2
    · by_cases c : d1 = d2
      · by_cases d : v1 = v2 <;> simp [a, b, c, d]
      · simp [a, b, c]
    · simp [a, b]
  · simp [a]

theorem alloc_below (w : World) (o : Obj) : Below w.heap.size w (w.alloc o) := (Below.refl _ _).alloc (Nat.le_refl _) _

set_option maxRecDepth 20000 in
theorem fine_any (has : Bool) (pri : Int) (dei : Bool) (vid : Int) (w : World) :
    Calls Tryd.prog 26 #[.agg #[.bool has, .int .i64 pri, .bool dei, .int .i64 vid]] w fun e w' => e = .returned (.bool (tagOk has pri dei vid)) ∧ w' = w.alloc (.cells #[.bool has, .int .i64 pri, .bool dei, .int .i64 vid] 24) := by
  cases has
  · have hs := same_tag false pri dei vid false 0 false 0
    have hr : tagOk false pri dei vid = decide (false = false ∧ pri = 0 ∧ dei = false ∧ vid = 0) := by simp [tagOk]
    rw [hr]
    generalize decide (false = false ∧ pri = 0 ∧ dei = false ∧ vid = 0) = t at hs ⊢
    clear hr
    go_enter Tryd.func26, Tryd.ntmps26
    go_wp2
    go_ret
    exact ⟨rfl, rfl⟩
  · rcases (by omega : pri < 0 ∨ (0 ≤ pri ∧ 7 < pri) ∨ (0 ≤ pri ∧ pri ≤ 7 ∧ vid < 0) ∨ (0 ≤ pri ∧ pri ≤ 7 ∧ 0 ≤ vid)) with h | h | h | h
    · have hr : tagOk true pri dei vid = false := by simp [tagOk]; omega
      rw [hr]
      clear hr
      go_enter Tryd.func26, Tryd.ntmps26
      go_wp2
      go_ret
      exact ⟨rfl, rfl⟩
    · have hr : tagOk true pri dei vid = false := by simp [tagOk]; omega
      rw [hr]
      clear hr
      obtain ⟨h1, h2⟩ := h
      go_enter Tryd.func26, Tryd.ntmps26
      go_wp2
      go_ret
      exact ⟨rfl, rfl⟩
    · have hr : tagOk true pri dei vid = false := by simp [tagOk]; omega
      rw [hr]
      clear hr
      obtain ⟨h1, h2, h3⟩ := h
      go_enter Tryd.func26, Tryd.ntmps26
      go_wp2
      go_ret
      exact ⟨rfl, rfl⟩
    · have hr : tagOk true pri dei vid = decide (vid ≤ 4095) := by unfold tagOk; rw [if_pos rfl]; exact decide_eq_decide.2 (by omega)
      rw [hr]
      clear hr
      obtain ⟨h1, h2, h3⟩ := h
      go_enter Tryd.func26, Tryd.ntmps26
      go_wp2
      go_ret
      exact ⟨rfl, rfl⟩

/-- is a number a type -/
def isType (k : Int) : Bool := decide (1536 ≤ k ∧ k ≤ 65535 ∧ k ≠ 33024)
theorem named_any (k : Int) (w : World) : Calls Tryd.prog 27 #[.int .i64 k] w fun e w' => e = .returned (.bool (isType k)) ∧ w' = w := by
  rcases (by omega : k < 1536 ∨ (1536 ≤ k ∧ 65535 < k) ∨ (1536 ≤ k ∧ k ≤ 65535)) with h | h | h
  · have hr : isType k = false := by simp [isType]; omega
    rw [hr]
    clear hr
    go_enter Tryd.func27, Tryd.ntmps27
    go_wp2
    go_ret
    exact ⟨rfl, rfl⟩
  · have hr : isType k = false := by simp [isType]; omega
    rw [hr]
    clear hr
    obtain ⟨h1, h2⟩ := h
    go_enter Tryd.func27, Tryd.ntmps27
    go_wp2
    go_ret
    exact ⟨rfl, rfl⟩
  · have hr : isType k = (k != 33024) := by
      by_cases z : k = 33024
      · subst z; rfl
      · rw [show (k != 33024) = true by simpa using z]; exact decide_eq_true (by omega)
    rw [hr]
    clear hr
    obtain ⟨h1, h2⟩ := h
    go_enter Tryd.func27, Tryd.ntmps27
    go_wp2
    go_ret
    exact ⟨rfl, rfl⟩

theorem size_any (d s : Int) (has : Bool) (pri : Int) (dei : Bool) (vid ty : Int) (b : ByteArray) (w : World) (hb : b.size ≤ 10000) :
    Calls Tryd.prog 28 #[.agg #[.int .u64 d, .int .u64 s, .bool has, .int .i64 pri, .bool dei, .int .i64 vid, .int .i64 ty, .string b]] w fun e w' => e = .returned (.int .i64 ((14 + b.size + (if has then 4 else 0) : Nat) : Int)) ∧ w' = w.alloc (.cells #[.int .u64 d, .int .u64 s, .bool has, .int .i64 pri, .bool dei, .int .i64 vid, .int .i64 ty, .string b] 26) := by
  cases has
  · go_enter Tryd.func28, Tryd.ntmps28
    go_wp2
    go_ret
    exact ⟨by simp, rfl⟩
  · go_enter Tryd.func28, Tryd.ntmps28
    go_wp2
    go_ret
    exact ⟨by simp, rfl⟩
end Go.Proofs.YtfndofbkfinnmaaDoor
