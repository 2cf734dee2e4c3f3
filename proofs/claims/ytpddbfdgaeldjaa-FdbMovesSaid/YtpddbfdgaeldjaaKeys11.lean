/-
  Keys and values as plain numbers; the contracts of fdb's isTarget, isTime, keyOf, valueOf, targetOf and placeOf, and of gangwayref11.Target.
-/
import Derived.Test.YtpddbfdgaeldjaaOwn11
import Derived.Test.YtpddbfdgaeldjaaHas11
namespace Go.Proofs.Ytpddbfdgaeldjaa
open Go.RowKit Go.Sort

/-- a target that may be -/
def Tgt (k n : Int) : Prop := (k = 0 ∧ 1 ≤ n ∧ n ≤ 64) ∨ (k = 1 ∧ 1 ≤ n)
theorem fisTime_any (n : Int) (w : World) : Calls Try.prog 36 #[.int .i64 n] w fun e w' => e = .returned (.bool (timeB n)) ∧ w' = w := by
  unfold timeB
  by_cases h1 : 0 ≤ n
  · by_cases h2 : n ≤ 1099511627776
    · rw [decide_eq_true h1, decide_eq_true h2]
      go_enter Try.func36, Try.ntmps36
      go_wp2
      go_ret
      exact ⟨rfl, rfl⟩
    · rw [decide_eq_true h1, decide_eq_false h2]
      go_enter Try.func36, Try.ntmps36
      go_wp2
      go_ret
      exact ⟨rfl, rfl⟩
  · rw [decide_eq_false h1]
    go_enter Try.func36, Try.ntmps36
    go_wp2
    go_ret
    exact ⟨rfl, rfl⟩
theorem isTarget_any (k n : Int) (b : Bool) (w : World) (hn : 0 ≤ n) (hb : b = true ↔ Tgt k n) : Calls Try.prog 29 #[.agg #[.int .i64 k, .int .u32 n]] w fun e w' => e = .returned (.bool b) ∧ Below w.heap.size w w' := by
  have r0 := cells2 (heap_alloc_new w (.cells #[.int .i64 k, .int .u32 n] 42))
  have b0 := hide (alloc_below w (.cells #[.int .i64 k, .int .u32 n] 42))
  unfold Tgt at hb
  by_cases h0 : k = 0
  · subst h0
    by_cases h1 : 1 ≤ n
    · by_cases h2 : n ≤ 64
      · obtain rfl : b = true := hb.2 (.inl ⟨rfl, h1, h2⟩)
        clear hb
        go_enter Try.func29, Try.ntmps29
        go_wp2
        go_ret
        exact ⟨rfl, unhide b0⟩
      · obtain rfl : b = false := by
          cases b
          · rfl
          · have := hb.1 rfl; omega
        clear hb
        go_enter Try.func29, Try.ntmps29
        go_wp2
        go_ret
        exact ⟨rfl, unhide b0⟩
    · obtain rfl : b = false := by
        cases b
        · rfl
        · have := hb.1 rfl; omega
      clear hb
      go_enter Try.func29, Try.ntmps29
      go_wp2
      go_ret
      exact ⟨rfl, unhide b0⟩
  · by_cases h1 : k = 1
    · subst h1
      by_cases h2 : n = 0
      · obtain rfl : b = false := by
          cases b
          · rfl
          · have := hb.1 rfl; omega
        subst h2
        clear hb
        go_enter Try.func29, Try.ntmps29
        go_wp2
        go_ret
        exact ⟨rfl, unhide b0⟩
      · obtain rfl : b = true := hb.2 (.inr ⟨rfl, by omega⟩)
        have e1 : (n != 0) = true := by rw [bne_iff_ne]; exact h2
        clear hb
        go_enter Try.func29, Try.ntmps29
        go_wp2
        go_ret
        exact ⟨rfl, unhide b0⟩
    · obtain rfl : b = false := by
        cases b
        · rfl
        · have := hb.1 rfl; omega
      have e0 : (k == 0) = false := by rw [beq_eq_false_iff_ne]; exact h0
      have e1 : (k == 1) = false := by rw [beq_eq_false_iff_ne]; exact h1
      clear hb h0 h1
      go_enter Try.func29, Try.ntmps29
      go_wp2
      go_ret
      exact ⟨rfl, unhide b0⟩
theorem cells6 {W : World} {g : Nat} {t : TypeId} {a0 a1 a2 a3 a4 a5 : Value} (h : W.heap[g]? = some (.cells #[a0, a1, a2, a3, a4, a5] t (0, 0))) :
    W.cell? ⟨g, 0, none⟩ = some a0 ∧ W.cell? ⟨g, 1, none⟩ = some a1 ∧ W.cell? ⟨g, 2, none⟩ = some a2 ∧ W.cell? ⟨g, 3, none⟩ = some a3 ∧ W.cell? ⟨g, 4, none⟩ = some a4 ∧ W.cell? ⟨g, 5, none⟩ = some a5 ∧
    W.frozen? ⟨g, 0, none⟩ = false ∧ W.frozen? ⟨g, 1, none⟩ = false ∧ W.frozen? ⟨g, 2, none⟩ = false ∧ W.frozen? ⟨g, 3, none⟩ = false ∧ W.frozen? ⟨g, 4, none⟩ = false ∧ W.frozen? ⟨g, 5, none⟩ = false :=
  ⟨cell_of_row W g 0 _ _ _ h, cell_of_row W g 1 _ _ _ h, cell_of_row W g 2 _ _ _ h, cell_of_row W g 3 _ _ _ h, cell_of_row W g 4 _ _ _ h, cell_of_row W g 5 _ _ _ h, frozen_of_row W g 0 _ _ h, frozen_of_row W g 1 _ _ h, frozen_of_row W g 2 _ _ h, frozen_of_row W g 3 _ _ h, frozen_of_row W g 4 _ _ h, frozen_of_row W g 5 _ _ h⟩
theorem set6 {W : World} {g : Nat} {t : TypeId} {a0 a1 a2 a3 a4 a5 v0 v1 v2 v3 v4 v5 : Value} (h : W.heap[g]? = some (.cells #[a0, a1, a2, a3, a4, a5] t (0, 0))) :
    ((((((W.setCell ⟨g, 0, none⟩ v0).setCell ⟨g, 1, none⟩ v1).setCell ⟨g, 2, none⟩ v2).setCell ⟨g, 3, none⟩ v3).setCell ⟨g, 4, none⟩ v4).setCell ⟨g, 5, none⟩ v5).heap[g]? = some (.cells #[v0, v1, v2, v3, v4, v5] t (0, 0)) := by
  have := heap_setCell_same _ g 5 _ t v5 (heap_setCell_same _ g 4 _ t v4 (heap_setCell_same _ g 3 _ t v3 (heap_setCell_same _ g 2 _ t v2 (heap_setCell_same _ g 1 _ t v1 (heap_setCell_same _ g 0 _ t v0 h)))))
  simpa using this
theorem set6d {W : World} {g : Nat} {t : TypeId} {a0 a1 a2 a3 a4 a5 v0 v1 v2 v3 v4 v5 : Value} (h : W.heap[g]? = some (.cells #[a0, a1, a2, a3, a4, a5] t (0, 0))) :
    ((((((W.setCell ⟨g, 0, none⟩ v0).setCell ⟨g, 1, none⟩ v1).setCell ⟨g, 2, none⟩ v2).setCell ⟨g, 3, none⟩ v3).setCell ⟨g, 4, none⟩ v4).setCell ⟨g, 5, none⟩ v5).drew.heap[g]? = some (.cells #[v0, v1, v2, v3, v4, v5] t (0, 0)) := by
  rw [heap_drew]; exact set6 h
theorem below6 {B : Nat} {a W : World} {g : Nat} {v0 v1 v2 v3 v4 v5 : Value} (h : Below B a W) (hg : B ≤ g) : Below B a ((((((W.setCell ⟨g, 0, none⟩ v0).setCell ⟨g, 1, none⟩ v1).setCell ⟨g, 2, none⟩ v2).setCell ⟨g, 3, none⟩ v3).setCell ⟨g, 4, none⟩ v4).setCell ⟨g, 5, none⟩ v5) :=
  (((((h.setCell (p := ⟨g, 0, none⟩) hg v0).setCell (p := ⟨g, 1, none⟩) hg v1).setCell (p := ⟨g, 2, none⟩) hg v2).setCell (p := ⟨g, 3, none⟩) hg v3).setCell (p := ⟨g, 4, none⟩) hg v4).setCell (p := ⟨g, 5, none⟩) hg v5
theorem other6 {W : World} {g k : Nat} {v0 v1 v2 v3 v4 v5 : Value} {o : Obj} (h : k ≠ g) (hk : W.heap[k]? = some o) : ((((((W.setCell ⟨g, 0, none⟩ v0).setCell ⟨g, 1, none⟩ v1).setCell ⟨g, 2, none⟩ v2).setCell ⟨g, 3, none⟩ v3).setCell ⟨g, 4, none⟩ v4).setCell ⟨g, 5, none⟩ v5).heap[k]? = some o := by
  rw [heap_setCell_other _ ⟨g, 5, none⟩ k _ h, heap_setCell_other _ ⟨g, 4, none⟩ k _ h, heap_setCell_other _ ⟨g, 3, none⟩ k _ h, heap_setCell_other _ ⟨g, 2, none⟩ k _ h, heap_setCell_other _ ⟨g, 1, none⟩ k _ h, heap_setCell_other _ ⟨g, 0, none⟩ k _ h]
  exact hk
theorem or_up (a b : Int) (n : Nat) (ha : 0 ≤ a) (hb : 0 ≤ b) (hb2 : b < ((2 ^ n : Nat) : Int)) (h : a * ((2 ^ n : Nat) : Int) + b < 18446744073709551616) :
    bits BinOp.or IntKind.u64 (a * ((2 ^ n : Nat) : Int)) b = a * ((2 ^ n : Nat) : Int) + b := by
  obtain ⟨x, rfl⟩ := Int.eq_ofNat_of_zero_le ha
  obtain ⟨y, rfl⟩ := Int.eq_ofNat_of_zero_le hb
  have e : ((x : Int) * ((2 ^ n : Nat) : Int)) = ((x * 2 ^ n : Nat) : Int) := by simp
  rw [e] at h ⊢
  rw [u64_or_nat _ _ (by omega) (by omega), Nat.mul_comm x, ← Nat.two_pow_add_eq_or_of_lt (by omega)]
  omega
theorem or_key (vid mac : Int) (h1 : 1 ≤ vid ∧ vid ≤ 4094) (h2 : 0 ≤ mac ∧ mac < 281474976710656) : bits BinOp.or IntKind.u64 (vid * 281474976710656) mac = vid * 281474976710656 + mac := by
  have e : ((2 ^ 48 : Nat) : Int) = 281474976710656 := by decide
  have := or_up vid mac 48 (by omega) h2.1 (by rw [e]; omega) (by rw [e]; omega)
  rw [e] at this
  exact this
theorem or_val (k n : Int) (h1 : 0 ≤ k ∧ k ≤ 1) (h2 : 0 ≤ n ∧ n < 4294967296) : bits BinOp.or IntKind.u64 (k * 4294967296) n = k * 4294967296 + n := by
  have e : ((2 ^ 32 : Nat) : Int) = 4294967296 := by decide
  have := or_up k n 32 (by omega) h2.1 (by rw [e]; omega) (by rw [e]; omega)
  rw [e] at this
  exact this
theorem keyOf_any (vid mac : Int) (w : World) (h1 : 1 ≤ vid ∧ vid ≤ 4094) (h2 : 0 ≤ mac ∧ mac < 281474976710656) : Calls Try.prog 27 #[.int .i64 vid, .int .u64 mac] w fun e w' => e = .returned (.int .u64 (vid * 281474976710656 + mac)) ∧ w' = w := by
  have e := or_key vid mac h1 h2
  go_enter Try.func27, Try.ntmps27
  go_wp2
  go_ret
  exact ⟨rfl, rfl⟩
theorem valueOf_any (k n : Int) (w : World) (h1 : 0 ≤ k ∧ k ≤ 1) (h2 : 0 ≤ n ∧ n < 4294967296) : Calls Try.prog 30 #[.agg #[.int .i64 k, .int .u32 n]] w fun e w' => e = .returned (.int .u64 (k * 4294967296 + n)) ∧ Below w.heap.size w w' := by
  have e := or_val k n h1 h2
  have r0 := cells2 (heap_alloc_new w (.cells #[.int .i64 k, .int .u32 n] 42))
  have b0 := hide (alloc_below w (.cells #[.int .i64 k, .int .u32 n] 42))
  go_enter Try.func30, Try.ntmps30
  go_wp2
  go_ret
  exact ⟨rfl, unhide b0⟩
theorem targetOf_any (v : Int) (w : World) (h : 0 ≤ v ∧ v < 18446744073709551616) : Calls Try.prog 28 #[.int .u64 v] w fun e w' => e = .returned (.agg #[.int .i64 (v / 4294967296), .int .u32 (v % 4294967296)]) ∧ Below w.heap.size w w' := by
  have r0 := hide (heap_alloc_new w (.cells #[.int .i64 0, .int .u32 0] 42))
  obtain ⟨a, ha⟩ : ∃ a, v / 4294967296 = a := ⟨_, rfl⟩
  have h1 : wrap64 a = a := by unfold wrap64; omega
  have h2 : 0 ≤ a ∧ a < 4294967296 := by omega
  rw [ha]
  obtain ⟨q0, q1, q2, q3⟩ := cells2 (unhide r0)
  go_enter Try.func28, Try.ntmps28
  go_wp2_with fail
  refine bodyPost_ret (v := .agg #[.int .i64 a, .int .u32 (v % 4294967296)]) ?_ rfl ⟨rfl, alloc_below _ _⟩
  exact results_cell_row rfl _ _ w.heap.size 42 _ _ _ rfl (heap_alloc_new w _) Try.underlying42 rfl (by kernel_rfl)
theorem keep4 {W W' : World} {g : Nat} {t : TypeId} {a0 a1 a2 a3 : Value} (b : Below W.heap.size W W') (h : W.heap[g]? = some (.cells #[a0, a1, a2, a3] t (0, 0))) :
    W'.cell? ⟨g, 0, none⟩ = some a0 ∧ W'.cell? ⟨g, 1, none⟩ = some a1 ∧ W'.cell? ⟨g, 2, none⟩ = some a2 ∧ W'.cell? ⟨g, 3, none⟩ = some a3 := by
  obtain ⟨c0, c1, c2, c3, _⟩ := cells4 (Below.row b h)
  exact ⟨c0, c1, c2, c3⟩
set_option maxRecDepth 100000 in
theorem placeOf_any (k v t : Int) (f : Bool) (w : World) (hk : 0 ≤ k ∧ k < 18446744073709551616) (hv : 0 ≤ v ∧ v < 18446744073709551616) :
    Calls Try.prog 24 #[.agg #[.int .u64 k, .int .u64 v, .int .i64 t, .bool f]] w fun e w' => (∃ a b c d, e = .returned (.agg #[.int .i64 a, .int .u64 b, .int .i64 c, .int .u32 d, .int .i64 t, .bool f])) ∧ Below w.heap.size w w' := by
  have CT := hide (fun W => targetOf_any v W hv)
  obtain ⟨a, ha⟩ : ∃ a, k / 281474976710656 = a := ⟨_, rfl⟩
  have h1 : wrap64 a = a := by unfold wrap64; omega
  have h2 : 0 ≤ a ∧ a < 65536 := by omega
  generalize v / 4294967296 = c at CT
  generalize v % 4294967296 = d at CT
  go_enter Try.func24, Try.ntmps24
  go_wp2_with fail
  have hA := heap_alloc2_old w (.cells #[.int .u64 k, .int .u64 v, .int .i64 t, .bool f] 72) (.cells #[.int .i64 0, .int .u64 0, .int .i64 0, .int .u32 0, .int .i64 0, .bool false] 74)
  have hF := heap_alloc2_new w (.cells #[.int .u64 k, .int .u64 v, .int .i64 t, .bool f] 72) (.cells #[.int .i64 0, .int .u64 0, .int .i64 0, .int .u32 0, .int .i64 0, .bool false] 74)
  have hb := alloc_then (o := .cells #[.int .i64 0, .int .u64 0, .int .i64 0, .int .u32 0, .int .i64 0, .bool false] 74) (alloc_below w (.cells #[.int .u64 k, .int .u64 v, .int .i64 t, .bool f] 72))
  generalize (w.alloc (.cells #[.int .u64 k, .int .u64 v, .int .i64 t, .bool f] 72)).alloc (.cells #[.int .i64 0, .int .u64 0, .int .i64 0, .int .u32 0, .int .i64 0, .bool false] 74) = W2 at *
  have HA := hide hA
  have HF := hide hF
  have HB := hide hb
  clear hA hF hb
  go_region_held3 (fun w' => w'.cell? ⟨w.heap.size, 0, none⟩ = some (.int .u64 k) ∧ w'.cell? ⟨w.heap.size, 1, none⟩ = some (.int .u64 v) ∧ w'.cell? ⟨w.heap.size, 2, none⟩ = some (.int .i64 t) ∧ w'.cell? ⟨w.heap.size, 3, none⟩ = some (.bool f))
    ((first | (with_reducible exact unhide K5 _ _ _ _ _ _) | (refine keep4 ?_ (unhide HA); (repeat (first | (with_reducible exact Below.refl _ _) | (with_reducible refine Below.drew ?_) | (with_reducible refine bthen ?_ B5))); done)))
    ((go_at_call 28; refine (unhide CT _).mono ?_; rintro e5 w5 ⟨rfl, B5⟩; have r5 := Below.row B5 (unhide HF); obtain ⟨x0, x1, x2, x3, x4, x5, u0, u1, u2, u3, u4, u5⟩ := cells6 r5; have K5 := hide (fun v0 v1 v2 v3 v4 v5 => keep4 (Below.refl _ ((((((w5.setCell ⟨w.heap.size + 1, 0, none⟩ v0).setCell ⟨w.heap.size + 1, 1, none⟩ v1).setCell ⟨w.heap.size + 1, 2, none⟩ v2).setCell ⟨w.heap.size + 1, 3, none⟩ v3).setCell ⟨w.heap.size + 1, 4, none⟩ v4).setCell ⟨w.heap.size + 1, 5, none⟩ v5)) (other6 (Nat.ne_of_lt (Nat.lt_succ_self _)) (Below.row B5 (unhide HA))))))
  go_wp2_with fail
  refine bodyPost_ret (v := .agg #[.int .i64 (IntKind.i64.wrap a), .int .u64 (bits BinOp.and IntKind.u64 k 281474976710655), .int .i64 c, .int .u32 d, .int .i64 t, .bool f]) ?_ rfl ⟨⟨_, _, _, _, rfl⟩, below6 (bthen (unhide HB).drew B5) (Nat.le_succ _)⟩
  exact results_cell_row rfl _ _ (w.heap.size + 1) 74 _ _ _ rfl (set6 r5) Try.underlying74 rfl (by kernel_rfl)
end Go.Proofs.Ytpddbfdgaeldjaa
