/-
  The contract of binding's Reply.
-/
import Derived.Test.YtljhgehlaehgnaaDoorBd4
namespace Go.Proofs.YtljhgehlaehgnaaDoor
open Go.RowKit Go.Sort

set_option maxRecDepth 100000 in
theorem breply_none (g : Nat) (op s i t j vid now m : Int) (is z1 z2 : Bool) (W : World) (h1 : (i == 0) = z1) (h2 : (i == j) = z2) (h3 : (is && !z1 && !z2) = false)
    (C : Hid (∀ W2, Below W.heap.size W W2 → Calls Tryd.prog 16 #[.pointer (some ⟨g, 0, none⟩), .int .i64 vid, .int .u32 j, .int .i64 now] W2 fun e W' => e = .returned (.tuple #[.int .u64 m, .bool is]) ∧ Below W2.heap.size W2 W')) :
    Calls Tryd.prog 9 #[.pointer (some ⟨g, 0, none⟩), .int .i64 vid, .agg #[.int .i64 op, .int .u64 s, .int .u32 i, .int .u64 t, .int .u32 j], .int .i64 now] W fun e W' => e = .returned (.tuple #[.agg #[.int .u64 0, .int .u64 0, .bool false, .int .i64 0, .bool false, .int .i64 0, .int .i64 0, .string ⟨#[]⟩], .bool false]) ∧ Below W.heap.size W W' := by
  have hb0 := alloc_then (o := .cells #[.int .u64 0, .int .u64 0, .bool false, .int .i64 0, .bool false, .int .i64 0, .int .i64 0, .string ⟨#[]⟩] 44) (alloc_below W (.cells #[.int .i64 op, .int .u64 s, .int .u32 i, .int .u64 t, .int .u32 j] 37))
  have C1 := hide (unhide C _ hb0)
  have q0 := heap_alloc2_old W (.cells #[.int .i64 op, .int .u64 s, .int .u32 i, .int .u64 t, .int .u32 j] 37) (.cells #[.int .u64 0, .int .u64 0, .bool false, .int .i64 0, .bool false, .int .i64 0, .int .i64 0, .string ⟨#[]⟩] 44)
  have r0 := heap_alloc2_new W (.cells #[.int .i64 op, .int .u64 s, .int .u32 i, .int .u64 t, .int .u32 j] 37) (.cells #[.int .u64 0, .int .u64 0, .bool false, .int .i64 0, .bool false, .int .i64 0, .int .i64 0, .string ⟨#[]⟩] 44)
  have k4 := (cells5 q0).2.2.2.2.1
  have Q0 := hide q0
  have R0 := hide r0
  have HB := hide hb0
  clear C q0 r0 hb0
  go_enter Tryd.func9, Tryd.ntmps9
  go_wp2_with fail
  refine (unhide C1).mono ?_
  rintro e w1 ⟨rfl, b1⟩
  have hb1 := hide (bthen (unhide HB) b1)
  have hr := Below.row b1 (unhide R0)
  obtain ⟨_, _, k2', _, k4', _⟩ := cells5 (Below.row b1 (unhide Q0))
  obtain ⟨c0, c1, c2, c3, c4, c5, c6, c7, f0, f1, f2, f3, f4, f5, f6, f7⟩ := cells8 hr
  have HR := hide hr
  clear hr b1 k4 C1 R0 HB Q0
  cases is with
  | false =>
    go_wp2_with fail
    refine bodyPost_ret ?_ rfl ⟨rfl, below8 (unhide hb1) (Nat.le_succ _)⟩
    exact results_row2 rfl _ _ (W.heap.size + 1) 44 _ _ _ _ rfl rfl (set8 (unhide HR)) Tryd.underlying44 rfl (by kernel_rfl)
  | true =>
    cases z1 with
    | true =>
      go_wp2_with fail
      refine bodyPost_ret ?_ rfl ⟨rfl, below8 (unhide hb1) (Nat.le_succ _)⟩
      exact results_row2 rfl _ _ (W.heap.size + 1) 44 _ _ _ _ rfl rfl (set8 (unhide HR)) Tryd.underlying44 rfl (by kernel_rfl)
    | false =>
      cases z2 with
      | true =>
        go_wp2_with fail
        refine bodyPost_ret ?_ rfl ⟨rfl, below8 (unhide hb1) (Nat.le_succ _)⟩
        exact results_row2 rfl _ _ (W.heap.size + 1) 44 _ _ _ _ rfl rfl (set8 (unhide HR)) Tryd.underlying44 rfl (by kernel_rfl)
      | false => cases h3
set_option maxRecDepth 100000 in
theorem breply_tell (g : Nat) (op s i t j vid now m d q pri vid2 ty c : Int) (has dei z : Bool) (R : ByteArray) (W : World) (h1 : (i == 0) = false) (h2 : (i == j) = false) (hz : (c == 0) = z)
    (C : Hid (∀ W2, Below W.heap.size W W2 → Calls Tryd.prog 16 #[.pointer (some ⟨g, 0, none⟩), .int .i64 vid, .int .u32 j, .int .i64 now] W2 fun e W' => e = .returned (.tuple #[.int .u64 m, .bool true]) ∧ Below W2.heap.size W2 W'))
    (T : Hid (∀ W, Calls Tryd.prog 20 #[.agg #[.int .i64 op, .int .u64 s, .int .u32 i, .int .u64 t, .int .u32 j], .int .u64 m] W fun e W' => e = .returned (.tuple #[.agg #[.int .u64 d, .int .u64 q, .bool has, .int .i64 pri, .bool dei, .int .i64 vid2, .int .i64 ty, .string R], .int .i64 c]) ∧ Below W.heap.size W W')) :
    Calls Tryd.prog 9 #[.pointer (some ⟨g, 0, none⟩), .int .i64 vid, .agg #[.int .i64 op, .int .u64 s, .int .u32 i, .int .u64 t, .int .u32 j], .int .i64 now] W fun e W' => e = .returned (.tuple #[.agg #[.int .u64 d, .int .u64 q, .bool has, .int .i64 pri, .bool dei, .int .i64 vid2, .int .i64 ty, .string R], .bool z]) ∧ Below W.heap.size W W' := by
  have hb0 := alloc_then (o := .cells #[.int .u64 0, .int .u64 0, .bool false, .int .i64 0, .bool false, .int .i64 0, .int .i64 0, .string ⟨#[]⟩] 44) (alloc_below W (.cells #[.int .i64 op, .int .u64 s, .int .u32 i, .int .u64 t, .int .u32 j] 37))
  have C1 := hide (unhide C _ hb0)
  have q0 := heap_alloc2_old W (.cells #[.int .i64 op, .int .u64 s, .int .u32 i, .int .u64 t, .int .u32 j] 37) (.cells #[.int .u64 0, .int .u64 0, .bool false, .int .i64 0, .bool false, .int .i64 0, .int .i64 0, .string ⟨#[]⟩] 44)
  have r0 := heap_alloc2_new W (.cells #[.int .i64 op, .int .u64 s, .int .u32 i, .int .u64 t, .int .u32 j] 37) (.cells #[.int .u64 0, .int .u64 0, .bool false, .int .i64 0, .bool false, .int .i64 0, .int .i64 0, .string ⟨#[]⟩] 44)
  have k4 := (cells5 q0).2.2.2.2.1
  have Q0 := hide q0
  have R0 := hide r0
  have HB := hide hb0
  clear C q0 r0 hb0
  go_enter Tryd.func9, Tryd.ntmps9
  go_wp2_with fail
  refine (unhide C1).mono ?_
  rintro e w1 ⟨rfl, b1⟩
  have hb1 := hide (bthen (unhide HB) b1)
  have R1 := hide (Below.row b1 (unhide R0))
  obtain ⟨k0', k1', k2', k3', k4', _⟩ := cells5 (Below.row b1 (unhide Q0))
  clear b1 k4 C1 R0 HB Q0
  go_wp2_with fail
  refine (unhide T _).mono ?_
  rintro e w2 ⟨rfl, b2⟩
  have b3 := alloc_then (o := .cells #[.int .u64 d, .int .u64 q, .bool has, .int .i64 pri, .bool dei, .int .i64 vid2, .int .i64 ty, .string R] 44) b2
  have hb3 := hide (bthen (unhide hb1) b3)
  have hr := Below.row b3 (unhide R1)
  obtain ⟨c0, c1, c2, c3, c4, c5, c6, c7, f0, f1, f2, f3, f4, f5, f6, f7⟩ := cells8 hr
  have HR := hide hr
  obtain ⟨e0, e1, e2, e3, e4, e5, e6, e7, _⟩ := cells8 (heap_alloc_new w2 (.cells #[.int .u64 d, .int .u64 q, .bool has, .int .i64 pri, .bool dei, .int .i64 vid2, .int .i64 ty, .string R] 44))
  clear hr b2 b3 hb1 R1 T k0' k1' k2' k3' k4'
  go_wp2_with fail
  refine bodyPost_ret ?_ rfl ⟨rfl, below8 (unhide hb3) (Nat.le_succ _)⟩
  exact results_row2 rfl _ _ (W.heap.size + 1) 44 _ _ _ _ rfl rfl (set8 (unhide HR)) Tryd.underlying44 rfl (by kernel_rfl)
/-- what is answered -/
def replyF (life now : Int) (L : List Ent) (vid : Int) (a : Ar) : Fr × Bool :=
  match findE life now L vid a.tip with
  | none => (Fr.none, false)
  | some e => if a.sip = 0 ∨ a.sip = a.tip then (Fr.none, false) else ((tells a e.val.toNat).1, (tells a e.val.toNat).2 == 0)
theorem findE_mem {life now vid : Int} {L : List Ent} {ip : Nat} {e : Ent} (h : findE life now L vid ip = some e) : e ∈ L := by
  unfold findE at h
  split at h
  · unfold told at h
    exact look_mem (Option.filter_eq_some_iff.1 h).1
  · cases h
theorem Bnd.oks {w W : World} {g p : Nat} {room life : Int} {L : List Ent} (h : Bnd w g p room life L W) : Oks L := by
  obtain ⟨_, v, T⟩ := h.has
  exact T.oks
theorem breply_any {w W : World} {g p : Nat} {room life : Int} {L : List Ent} (vid now : Int) (a : Ar) (hB : Bnd w g p room life L W) (ha : a.fits) :
    Calls Tryd.prog 9 #[.pointer (some ⟨g, 0, none⟩), .int .i64 vid, a.val, .int .i64 now] W fun e W' => e = .returned (.tuple #[(replyF life now L vid a).1.val, .bool (replyF life now L vid a).2]) ∧ Below W.heap.size W W' := by
  have C : ∀ W2, Below W.heap.size W W2 → Calls Tryd.prog 16 #[.pointer (some ⟨g, 0, none⟩), .int .i64 vid, .int .u32 (a.tip : Int), .int .i64 now] W2 fun e W' => e = .returned (macO (findE life now L vid a.tip)) ∧ Below W2.heap.size W2 W' := fun W2 b => bfind_any vid now a.tip (hB.below b) ha.2.2.2.2
  unfold replyF
  cases hf : findE life now L vid a.tip with
  | none =>
    rw [hf] at C
    exact breply_none g a.op a.smac a.sip a.tmac a.tip vid now 0 false _ _ W rfl rfl rfl (hide C)
  | some e =>
    have hv := (hB.oks e (findE_mem hf)).2.2
    rw [hf] at C
    by_cases hz : a.sip = 0 ∨ a.sip = a.tip
    · simp only [hz, if_true]
      exact breply_none g a.op a.smac a.sip a.tmac a.tip vid now e.val true _ _ W rfl rfl (by rcases hz with hz | hz <;> simp [hz]) (hide C)
    · simp only [hz, if_false]
      obtain ⟨m, hm⟩ : ∃ m : Nat, e.val = m := ⟨e.val.toNat, by omega⟩
      have hme : e.val.toNat = m := by omega
      rw [hme]
      have C2 := C
      unfold macO at C2
      simp only [hm] at C2
      exact breply_tell g a.op a.smac a.sip a.tmac a.tip vid now m _ _ _ _ _ _ _ _ _ _ W (by simp; omega) (by simp; omega) rfl (hide C2) (hide fun W => tell_any a m W ha (by omega))
end Go.Proofs.YtljhgehlaehgnaaDoor
