/-
  The contracts of ether's reader: the number, or the bytes, that stand next; the first fault is kept; nothing but the reader has turned.
-/
import Derived.Test.YtfndofbkfinnmaaDoorEther5
import Derived.Test.YtfndofbkfinnmaaDoorGet
import Derived.Test.YtfndofbkfinnmaaDoorCut
namespace Go.Proofs.YtfndofbkfinnmaaDoor
open Go.RowKit Go.Sort

/-- as it was, but for one block -/
structure But (R : Nat) (w w' : World) : Prop where
  os : w'.os = w.os
  tape : w'.tape = w.tape
  output : w'.output = w.output
  size : w.heap.size ≤ w'.heap.size
  block : ∀ k, k < w.heap.size → k ≠ R → w'.heap[k]? = w.heap[k]?
theorem But.of {R : Nat} {w w' : World} (h : Below w.heap.size w w') : But R w w' := ⟨h.os, h.tape, h.output, h.size, fun k hk _ => h.block k hk⟩
theorem But.trans {R : Nat} {a b c : World} (h : But R a b) (k : But R b c) : But R a c :=
  ⟨k.os.trans h.os, k.tape.trans h.tape, k.output.trans h.output, Nat.le_trans h.size k.size, fun i hi hr => (k.block i (Nat.lt_of_lt_of_le hi h.size) hr).trans (h.block i hi hr)⟩
theorem But.setCell {R : Nat} {w w' : World} (h : But R w w') {p : Addr} (hp : p.block = R) (u : Value) : But R w (w'.setCell p u) :=
  h.trans ⟨rfl, rfl, rfl, by simp [World.setCell], fun k _ hr => Below.heap_setCell _ _ _ _ (by omega)⟩
theorem But.set1 (R o : Nat) (w : World) (u : Value) : But R w (w.setCell ⟨R, o, none⟩ u) := But.setCell (R := R) (p := ⟨R, o, none⟩) (But.of (Below.refl _ _)) rfl u
theorem But.alloc {R : Nat} {w w' : World} (h : But R w w') (o : Obj) : But R w (w'.alloc o) := h.trans (But.of (alloc_below _ _))
theorem But.cell {R : Nat} {w w' : World} (h : But R w w') {p : Addr} (hp : p.block < w.heap.size) (hr : p.block ≠ R) : w'.cell? p = w.cell? p := World.cell?_of_block (w := w) (h.block p.block hp hr)
theorem But.frozen {R : Nat} {w w' : World} (h : But R w w') {p : Addr} (hp : p.block < w.heap.size) (hr : p.block ≠ R) : w'.frozen? p = w.frozen? p := World.frozen?_of_block (w := w) (h.block p.block hp hr)
theorem But.below {R B : Nat} {w w' : World} (h : But R w w') (h1 : B ≤ R) (h2 : B ≤ w.heap.size) : Below B w w' := ⟨h.os, h.tape, h.output, h.size, fun k hk => h.block k (by omega) (by omega)⟩

/-- the fault that a reader keeps: none, or that its bytes are short in some part -/
def errV : Option ByteArray → Value
  | none => .nilIface
  | some p => .iface 53 (.agg #[.string p, .int .i64 10])
/-- what a reader holds -/
structure Rd (w : World) (R : Nat) (s : ByteArray) (a : Nat) (err : Option ByteArray) : Prop where
  c0 : w.cell? ⟨R, 0, none⟩ = some (.string s)
  c1 : w.cell? ⟨R, 1, none⟩ = some (.int .i64 a)
  c2 : w.cell? ⟨R, 2, none⟩ = some (errV err)
  f1 : w.frozen? ⟨R, 1, none⟩ = false
  f2 : w.frozen? ⟨R, 2, none⟩ = false
theorem Rd.below {w w' : World} {R a : Nat} {s : ByteArray} {err : Option ByteArray} (h : Rd w R s a err) (b : Below w.heap.size w w') : Rd w' R s a err := by
  have hR := block_lt_of_cell h.c0
  exact ⟨(b.cell (p := ⟨R, 0, none⟩) hR).trans h.c0, (b.cell (p := ⟨R, 1, none⟩) hR).trans h.c1, (b.cell (p := ⟨R, 2, none⟩) hR).trans h.c2, (b.frozen (p := ⟨R, 1, none⟩) hR).trans h.f1, (b.frozen (p := ⟨R, 2, none⟩) hR).trans h.f2⟩
theorem Rd.step {w : World} {R a b : Nat} {s : ByteArray} {err : Option ByteArray} (h : Rd w R s a err) : Rd (w.setCell ⟨R, 1, none⟩ (.int .i64 b)) R s b err :=
  ⟨(World.cell?_setCell_other _ _ _ _ (by simp)).trans h.c0, World.cell?_setCell_same _ _ _ h.c1, (World.cell?_setCell_other _ _ _ _ (by simp)).trans h.c2, by simpa using h.f1, by simpa using h.f2⟩
theorem Rd.fail {w : World} {R a : Nat} {s p : ByteArray} {err : Option ByteArray} (h : Rd w R s a err) : Rd (w.setCell ⟨R, 2, none⟩ (.iface 53 (.agg #[.string p, .int .i64 10]))) R s a (some p) :=
  ⟨(World.cell?_setCell_other _ _ _ _ (by simp)).trans h.c0, (World.cell?_setCell_other _ _ _ _ (by simp)).trans h.c1, World.cell?_setCell_same _ _ _ h.c2, by simpa using h.f1, by simpa using h.f2⟩

theorem took_ok (R a n : Nat) (s p : ByteArray) (err : Option ByteArray) (w : World) (hr : Rd w R s a err) (h : a + n ≤ 100000) :
    Calls Tryd.prog 44 #[.pointer (some ⟨R, 0, none⟩), .string p, .int .i64 n, .int .i64 0] w fun e w' => e = .returned (.tuple #[]) ∧ But R w w' ∧ Rd w' R s (a + n) err := by
  have hr2 := hide (hr.step (b := a + n))
  obtain ⟨c0, c1, c2, f1, f2⟩ := hr
  cases err
  · simp only [errV] at c2
    go_enter Tryd.func44, Tryd.ntmps44
    go_wp2
    go_end0
    exact ⟨rfl, But.set1 _ _ _ _, unhide hr2⟩
  · simp only [errV] at c2
    go_enter Tryd.func44, Tryd.ntmps44
    go_wp2
    go_end0
    exact ⟨rfl, But.set1 _ _ _ _, unhide hr2⟩
/-- the first fault is kept -/
def keep (err : Option ByteArray) (p : ByteArray) : Option ByteArray := match err with | none => some p | some q => some q
theorem took_short (R a n : Nat) (s p : ByteArray) (err : Option ByteArray) (w : World) (hr : Rd w R s a err) (h : a + n ≤ 100000) :
    Calls Tryd.prog 44 #[.pointer (some ⟨R, 0, none⟩), .string p, .int .i64 n, .int .i64 10] w fun e w' => e = .returned (.tuple #[]) ∧ But R w w' ∧ Rd w' R s (a + n) (keep err p) := by
  cases err
  · have hr2 := hide ((hr.step (b := a + n)).fail (p := p))
    obtain ⟨c0, c1, c2, f1, f2⟩ := hr
    simp only [errV] at c2
    go_enter Tryd.func44, Tryd.ntmps44
    go_wp2
    go_end0
    exact ⟨rfl, (But.set1 _ _ _ _).trans (But.set1 _ _ _ _), unhide hr2⟩
  · have hr2 := hide (hr.step (b := a + n))
    obtain ⟨c0, c1, c2, f1, f2⟩ := hr
    simp only [errV] at c2
    go_enter Tryd.func44, Tryd.ntmps44
    go_wp2
    go_end0
    exact ⟨rfl, But.set1 _ _ _ _, unhide hr2⟩

set_option maxRecDepth 20000 in
theorem number_go (R a n : Nat) (s p : ByteArray) (err err2 : Option ByteArray) (v : Value) (e0 : Int) (w : World) (hr : Rd w R s a err)
    (cG : ∀ W, Below w.heap.size w W → Calls Tryd.prog 43 #[.string s, .int .i64 a, .int .i64 n] W fun e W' => e = .returned (.tuple #[v, .int .i64 e0]) ∧ Below W.heap.size W W')
    (cT : Hid (∀ W, Rd W R s a err → Calls Tryd.prog 44 #[.pointer (some ⟨R, 0, none⟩), .string p, .int .i64 n, .int .i64 e0] W fun e W' => e = .returned (.tuple #[]) ∧ But R W W' ∧ Rd W' R s (a + n) err2)) :
    Calls Tryd.prog 32 #[.pointer (some ⟨R, 0, none⟩), .string p, .int .i64 n] w fun e w' => e = .returned v ∧ But R w w' ∧ Rd w' R s (a + n) err2 := by
  have q0 := cell_regrown hr.c0
  have q1 := cell_regrown hr.c1
  have cG' : ∀ d os, Calls Tryd.prog 43 #[.string s, .int .i64 a, .int .i64 n] (grow (redrawn w d) os) fun e w'' => e = .returned (.tuple #[v, .int .i64 e0]) ∧ ∃ p : Regrown, w'' = grow (redrawn w p.d) p.os := fun d os => Calls.regrown_of (cG _ (below_regrown w d os))
  have HR := hide hr
  clear hr cG
  go_enter Tryd.func32, Tryd.ntmps32
  go_wp2_with fail
  refine wp_region_quiet_below (by kernel_rfl) (by kernel_rfl) ?_
  repeat (go_big_quiet_step (first | (go_at_call 43; exact cG' _ _)))
  refine wpQuiet_nil ?_
  rintro _ ⟨⟨dq, osq⟩, rfl⟩
  have b1 := below_regrown w dq osq
  have hr1 := (unhide HR).below b1
  clear q0 q1 cG' HR
  generalize grow (redrawn w dq) osq = w1 at *
  go_wp2_with fail
  refine (unhide cT _ hr1).mono ?_
  rintro e w2 ⟨rfl, b2, hr2⟩
  have hb := (But.of (R := R) b1).trans b2
  clear hr1 b1 b2 cT
  go_wp2_with fail
  go_ret
  exact ⟨rfl, hb, hr2⟩

set_option maxRecDepth 20000 in
theorem bytes_go (R a n : Nat) (s p : ByteArray) (err err2 : Option ByteArray) (v : Value) (e0 : Int) (w : World) (hr : Rd w R s a err)
    (cG : ∀ W, Below w.heap.size w W → Calls Tryd.prog 45 #[.string s, .int .i64 a, .int .i64 n] W fun e W' => e = .returned (.tuple #[v, .int .i64 e0]) ∧ Below W.heap.size W W')
    (cT : Hid (∀ W, Rd W R s a err → Calls Tryd.prog 44 #[.pointer (some ⟨R, 0, none⟩), .string p, .int .i64 n, .int .i64 e0] W fun e W' => e = .returned (.tuple #[]) ∧ But R W W' ∧ Rd W' R s (a + n) err2)) :
    Calls Tryd.prog 34 #[.pointer (some ⟨R, 0, none⟩), .string p, .int .i64 n] w fun e w' => e = .returned v ∧ But R w w' ∧ Rd w' R s (a + n) err2 := by
  have q0 := cell_regrown hr.c0
  have q1 := cell_regrown hr.c1
  have cG' : ∀ d os, Calls Tryd.prog 45 #[.string s, .int .i64 a, .int .i64 n] (grow (redrawn w d) os) fun e w'' => e = .returned (.tuple #[v, .int .i64 e0]) ∧ ∃ p : Regrown, w'' = grow (redrawn w p.d) p.os := fun d os => Calls.regrown_of (cG _ (below_regrown w d os))
  have HR := hide hr
  clear hr cG
  go_enter Tryd.func34, Tryd.ntmps34
  go_wp2_with fail
  refine wp_region_quiet_below (by kernel_rfl) (by kernel_rfl) ?_
  repeat (go_big_quiet_step (first | (go_at_call 45; exact cG' _ _)))
  refine wpQuiet_nil ?_
  rintro _ ⟨⟨dq, osq⟩, rfl⟩
  have b1 := below_regrown w dq osq
  have hr1 := (unhide HR).below b1
  clear q0 q1 cG' HR
  generalize grow (redrawn w dq) osq = w1 at *
  go_wp2_with fail
  refine (unhide cT _ hr1).mono ?_
  rintro e w2 ⟨rfl, b2, hr2⟩
  have hb := (But.of (R := R) b1).trans b2
  clear hr1 b1 b2 cT
  go_wp2_with fail
  go_ret
  exact ⟨rfl, hb, hr2⟩

/-- the number of the n bytes from a on, or 0 -/
def numAt (s : ByteArray) (a n : Nat) : Nat := if a + n ≤ s.size then num (s.extract a (a + n)).data.toList else 0
/-- the fault that is kept behind n bytes from a on -/
def errAt (s : ByteArray) (a n : Nat) (err : Option ByteArray) (p : ByteArray) : Option ByteArray := if a + n ≤ s.size then err else keep err p
theorem number_rd (R a n : Nat) (s p : ByteArray) (err : Option ByteArray) (w : World) (hg : Et w) (hr : Rd w R s a err) (hs : s.size ≤ 10000) (ha : a ≤ 50000) (h1 : 1 ≤ n) (h2 : n ≤ 8) :
    Calls Tryd.prog 32 #[.pointer (some ⟨R, 0, none⟩), .string p, .int .i64 n] w fun e w' => e = .returned (.int .u64 (numAt s a n : Nat)) ∧ But R w w' ∧ Rd w' R s (a + n) (errAt s a n err p) := by
  have hm : s.size ≤ maxLen := by unfold maxLen; omega
  by_cases h : a + n ≤ s.size
  · rw [show numAt s a n = _ from if_pos h, show errAt s a n err p = _ from if_pos h]
    exact number_go R a n s p err err _ 0 w hr (fun W _ => (get_ok s a n W hm h1 h2 h).mono fun e W' ⟨x, y⟩ => ⟨x, y ▸ Below.refl _ _⟩) (hide fun W hW => took_ok R a n s p err W hW (by omega))
  · rw [show numAt s a n = _ from if_neg h, show errAt s a n err p = _ from if_neg h]
    exact number_go R a n s p err _ _ 10 w hr (fun W hb => get_short s a n W (hg.next hb) hm (by omega) (by omega) (by omega) (by omega) (by omega)) (hide fun W hW => took_short R a n s p err W hW (by omega))
/-- the n bytes from a on, or none -/
def cutAt (s : ByteArray) (a n : Nat) : ByteArray := if a + n ≤ s.size then s.extract a (a + n) else ByteArray.empty
theorem bytes_rd (R a n : Nat) (s p : ByteArray) (err : Option ByteArray) (w : World) (hg : Et w) (hr : Rd w R s a err) (hs : s.size ≤ 10000) (ha : a ≤ 50000) (hn : n ≤ 50000) :
    Calls Tryd.prog 34 #[.pointer (some ⟨R, 0, none⟩), .string p, .int .i64 n] w fun e w' => e = .returned (.string (cutAt s a n)) ∧ But R w w' ∧ Rd w' R s (a + n) (errAt s a n err p) := by
  have hm : s.size ≤ maxLen := by unfold maxLen; omega
  by_cases h : a + n ≤ s.size
  · rw [show cutAt s a n = _ from if_pos h, show errAt s a n err p = _ from if_pos h]
    exact bytes_go R a n s p err err _ 0 w hr (fun W _ => cut_ok s a n W (by omega) h) (hide fun W hW => took_ok R a n s p err W hW (by omega))
  · rw [show cutAt s a n = _ from if_neg h, show errAt s a n err p = _ from if_neg h]
    exact bytes_go R a n s p err _ _ 10 w hr (fun W hb => cut_short s a n W (hg.next hb) hm (by omega) (by omega) (by omega) (by omega)) (hide fun W hW => took_short R a n s p err W hW (by omega))
end Go.Proofs.YtfndofbkfinnmaaDoor
