/-
  The contracts of ether's reader, read and Parse at bytes that are a frame without a tag whose body's length is told, and of Tagged; no cell that was there before has turned.
-/
import Derived.Test.YtchgmbbcfjfhoaaDoorBp6
import Derived.Test.YtchgmbbcfjfhoaaDoorCut6
namespace Go.Proofs.YtchgmbbcfjfhoaaDoor
open Go.RowKit Go.Sort

/-- as it was, but for one block -/
structure But (R : Nat) (w w' : World) : Prop where
  os : w'.os = w.os
  tape : w'.tape = w.tape
  output : w'.output = w.output
  size : w.heap.size ≤ w'.heap.size
  block : ∀ k, k < w.heap.size → k ≠ R → w'.heap[k]? = w.heap[k]?
theorem But.of {R : Nat} {w w' : World} (h : Below w.heap.size w w') : But R w w' := ⟨h.os, h.tape, h.output, h.size, fun k hk _ => h.block k hk⟩
theorem But.trans {R : Nat} {a b c : World} (h : But R a b) (k : But R b c) : But R a c :=
  ⟨k.os.trans h.os, k.tape.trans h.tape, k.output.trans h.output, Nat.le_trans h.size k.size, fun i hi hr => (k.block i (Nat.lt_of_lt_of_le hi h.size) hr).trans (h.block i hi hr)⟩
theorem But.setCell {R : Nat} {w w' : World} (h : But R w w') {p : Addr} (hp : p.block = R) (u : Value) : But R w (w'.setCell p u) :=
  h.trans ⟨rfl, rfl, rfl, by simp [World.setCell], fun k _ hr => Below.heap_setCell _ _ _ _ (by omega)⟩
theorem But.set1 (R o : Nat) (w : World) (u : Value) : But R w (w.setCell ⟨R, o, none⟩ u) := But.setCell (R := R) (p := ⟨R, o, none⟩) (But.of (Below.refl _ _)) rfl u
theorem But.alloc {R : Nat} {w w' : World} (h : But R w w') (o : Obj) : But R w (w'.alloc o) := h.trans (But.of (alloc_below _ _))
theorem But.cell {R : Nat} {w w' : World} (h : But R w w') {p : Addr} (hp : p.block < w.heap.size) (hr : p.block ≠ R) : w'.cell? p = w.cell? p := World.cell?_of_block (w := w) (h.block p.block hp hr)
theorem But.frozen {R : Nat} {w w' : World} (h : But R w w') {p : Addr} (hp : p.block < w.heap.size) (hr : p.block ≠ R) : w'.frozen? p = w.frozen? p := World.frozen?_of_block (w := w) (h.block p.block hp hr)
theorem But.below {R B : Nat} {w w' : World} (h : But R w w') (h1 : B ≤ R) (h2 : B ≤ w.heap.size) : Below B w w' := ⟨h.os, h.tape, h.output, h.size, fun k hk => h.block k (by omega) (by omega)⟩

/-- what a reader holds -/
structure Rd (w : World) (R : Nat) (s : ByteArray) (a : Nat) : Prop where
  c0 : w.cell? ⟨R, 0, none⟩ = some (.string s)
  c1 : w.cell? ⟨R, 1, none⟩ = some (.int .i64 a)
  c2 : w.cell? ⟨R, 2, none⟩ = some .nilIface
  f1 : w.frozen? ⟨R, 1, none⟩ = false
  f2 : w.frozen? ⟨R, 2, none⟩ = false
theorem Rd.below {w w' : World} {R a : Nat} {s : ByteArray} (h : Rd w R s a) (b : Below w.heap.size w w') : Rd w' R s a := by
  have hR := block_lt_of_cell h.c0
  exact ⟨(b.cell (p := ⟨R, 0, none⟩) hR).trans h.c0, (b.cell (p := ⟨R, 1, none⟩) hR).trans h.c1, (b.cell (p := ⟨R, 2, none⟩) hR).trans h.c2, (b.frozen (p := ⟨R, 1, none⟩) hR).trans h.f1, (b.frozen (p := ⟨R, 2, none⟩) hR).trans h.f2⟩
theorem Rd.step {w : World} {R a b : Nat} {s : ByteArray} (h : Rd w R s a) : Rd (w.setCell ⟨R, 1, none⟩ (.int .i64 b)) R s b :=
  ⟨(World.cell?_setCell_other _ _ _ _ (by simp)).trans h.c0, World.cell?_setCell_same _ _ _ h.c1, (World.cell?_setCell_other _ _ _ _ (by simp)).trans h.c2, by simpa using h.f1, by simpa using h.f2⟩
theorem took_ok (R a n : Nat) (s p : ByteArray) (w : World) (hr : Rd w R s a) (h : a + n ≤ 100000) :
    Calls Tryd.prog 71 #[.pointer (some ⟨R, 0, none⟩), .string p, .int .i64 n, .int .i64 0] w fun e w' => e = .returned (.tuple #[]) ∧ But R w w' ∧ Rd w' R s (a + n) := by
  have hr2 := hide (hr.step (b := a + n))
  obtain ⟨c0, c1, c2, f1, f2⟩ := hr
  go_enter Tryd.func71, Tryd.ntmps71
  go_wp2
  go_end0
  exact ⟨rfl, But.set1 _ _ _ _, unhide hr2⟩
set_option maxRecDepth 20000 in
theorem number_go (R a n : Nat) (s p : ByteArray) (v : Value) (w : World) (hr : Rd w R s a)
    (cG : ∀ W, Below w.heap.size w W → Calls Tryd.prog 47 #[.string s, .int .i64 a, .int .i64 n] W fun e W' => e = .returned (.tuple #[v, .int .i64 0]) ∧ Below W.heap.size W W')
    (cT : Hid (∀ W, Rd W R s a → Calls Tryd.prog 71 #[.pointer (some ⟨R, 0, none⟩), .string p, .int .i64 n, .int .i64 0] W fun e W' => e = .returned (.tuple #[]) ∧ But R W W' ∧ Rd W' R s (a + n))) :
    Calls Tryd.prog 56 #[.pointer (some ⟨R, 0, none⟩), .string p, .int .i64 n] w fun e w' => e = .returned v ∧ But R w w' ∧ Rd w' R s (a + n) := by
  have q0 := cell_regrown hr.c0
  have q1 := cell_regrown hr.c1
  have cG' : ∀ d os, Calls Tryd.prog 47 #[.string s, .int .i64 a, .int .i64 n] (grow (redrawn w d) os) fun e w'' => e = .returned (.tuple #[v, .int .i64 0]) ∧ ∃ p : Regrown, w'' = grow (redrawn w p.d) p.os := fun d os => Calls.regrown_of (cG _ (below_regrown w d os))
  have HR := hide hr
  clear hr cG
  go_enter Tryd.func56, Tryd.ntmps56
  go_wp2_with fail
  refine wp_region_quiet_below (by kernel_rfl) (by kernel_rfl) ?_
  repeat (go_big_quiet_step (first | (go_at_call 47; exact cG' _ _)))
  refine wpQuiet_nil ?_
  rintro _ ⟨⟨dq, osq⟩, rfl⟩
  have b1 := below_regrown w dq osq
  have hr1 := (unhide HR).below b1
  clear q0 q1 cG' HR
  generalize grow (redrawn w dq) osq = w1 at *
  go_wp2_with fail
  refine (unhide cT _ hr1).mono ?_
  rintro e w2 ⟨rfl, b2, hr2⟩
  have hb := (But.of (R := R) b1).trans b2
  clear hr1 b1 b2 cT
  go_wp2_with fail
  go_ret
  exact ⟨rfl, hb, hr2⟩

set_option maxRecDepth 20000 in
theorem bytes_go (R a n : Nat) (s p : ByteArray) (v : Value) (w : World) (hr : Rd w R s a)
    (cG : ∀ W, Below w.heap.size w W → Calls Tryd.prog 72 #[.string s, .int .i64 a, .int .i64 n] W fun e W' => e = .returned (.tuple #[v, .int .i64 0]) ∧ Below W.heap.size W W')
    (cT : Hid (∀ W, Rd W R s a → Calls Tryd.prog 71 #[.pointer (some ⟨R, 0, none⟩), .string p, .int .i64 n, .int .i64 0] W fun e W' => e = .returned (.tuple #[]) ∧ But R W W' ∧ Rd W' R s (a + n))) :
    Calls Tryd.prog 58 #[.pointer (some ⟨R, 0, none⟩), .string p, .int .i64 n] w fun e w' => e = .returned v ∧ But R w w' ∧ Rd w' R s (a + n) := by
  have q0 := cell_regrown hr.c0
  have q1 := cell_regrown hr.c1
  have cG' : ∀ d os, Calls Tryd.prog 72 #[.string s, .int .i64 a, .int .i64 n] (grow (redrawn w d) os) fun e w'' => e = .returned (.tuple #[v, .int .i64 0]) ∧ ∃ p : Regrown, w'' = grow (redrawn w p.d) p.os := fun d os => Calls.regrown_of (cG _ (below_regrown w d os))
  have HR := hide hr
  clear hr cG
  go_enter Tryd.func58, Tryd.ntmps58
  go_wp2_with fail
  refine wp_region_quiet_below (by kernel_rfl) (by kernel_rfl) ?_
  repeat (go_big_quiet_step (first | (go_at_call 72; exact cG' _ _)))
  refine wpQuiet_nil ?_
  rintro _ ⟨⟨dq, osq⟩, rfl⟩
  have b1 := below_regrown w dq osq
  have hr1 := (unhide HR).below b1
  clear q0 q1 cG' HR
  generalize grow (redrawn w dq) osq = w1 at *
  go_wp2_with fail
  refine (unhide cT _ hr1).mono ?_
  rintro e w2 ⟨rfl, b2, hr2⟩
  have hb := (But.of (R := R) b1).trans b2
  clear hr1 b1 b2 cT
  go_wp2_with fail
  go_ret
  exact ⟨rfl, hb, hr2⟩

/-- the number of the n bytes from a on -/
def numAt (s : ByteArray) (a n : Nat) : Nat := num (s.extract a (a + n)).data.toList
theorem number_rd (R a n : Nat) (s p : ByteArray) (w : World) (hr : Rd w R s a) (hs : s.size ≤ 10000) (h : a + n ≤ s.size) (h1 : 1 ≤ n) (h2 : n ≤ 8) :
    Calls Tryd.prog 56 #[.pointer (some ⟨R, 0, none⟩), .string p, .int .i64 n] w fun e w' => e = .returned (.int .u64 (numAt s a n : Nat)) ∧ But R w w' ∧ Rd w' R s (a + n) := by
  have hm : s.size ≤ maxLen := by unfold maxLen; omega
  exact number_go R a n s p _ w hr (fun W _ => (get_ok s a n W hm h1 h2 h).mono fun e W' ⟨x, y⟩ => ⟨x, y ▸ Below.refl _ _⟩) (hide fun W hW => took_ok R a n s p W hW (by omega))
/-- the n bytes from a on -/
def cutAt (s : ByteArray) (a n : Nat) : ByteArray := s.extract a (a + n)
theorem bytes_rd (R a n : Nat) (s p : ByteArray) (w : World) (hr : Rd w R s a) (hs : s.size ≤ 10000) (h : a + n ≤ s.size) :
    Calls Tryd.prog 58 #[.pointer (some ⟨R, 0, none⟩), .string p, .int .i64 n] w fun e w' => e = .returned (.string (cutAt s a n)) ∧ But R w w' ∧ Rd w' R s (a + n) :=
  bytes_go R a n s p _ w hr (fun W _ => cut_ok s a n W (by omega) h) (hide fun W hW => took_ok R a n s p W hW (by omega))
/-- what lies in memory while bytes are read -/
structure Rs (w W : World) (s : ByteArray) (a : Nat) : Prop where
  below : Below w.heap.size w W
  row : W.heap[w.heap.size]? = some (.cells #[.int .u64 0, .int .u64 0, .bool false, .int .i64 0, .bool false, .int .i64 0, .int .i64 0, .string ⟨#[]⟩] 37 (0, 0))
  rd : Rd W (w.heap.size + 1) s a
theorem But.row {R g : Nat} {W W' : World} {o : Obj} (b : But R W W') (h : W.heap[g]? = some o) (hr : g ≠ R) : W'.heap[g]? = some o := (b.block g (lt_of_row h) hr).trans h
theorem Rs.next {w W W' : World} {s : ByteArray} {a a' : Nat} (h : Rs w W s a) (b : But (w.heap.size + 1) W W') (r : Rd W' (w.heap.size + 1) s a') : Rs w W' s a' :=
  ⟨h.below.trans (b.below (Nat.le_succ _) h.below.size), b.row h.row (by omega), r⟩
theorem Rs.grow {w W W' : World} {s : ByteArray} {a : Nat} (h : Rs w W s a) (b : Below W.heap.size W W') : Rs w W' s a := h.next (But.of b) (h.rd.below b)
theorem Rs.start (w : World) (s : ByteArray) : Rs w ((w.alloc (.cells #[.int .u64 0, .int .u64 0, .bool false, .int .i64 0, .bool false, .int .i64 0, .int .i64 0, .string ⟨#[]⟩] 37)).alloc (.cells #[.string s, .int .i64 0, .nilIface] 82)) s 0 := by
  have hr := heap_alloc2_new w (.cells #[.int .u64 0, .int .u64 0, .bool false, .int .i64 0, .bool false, .int .i64 0, .int .i64 0, .string ⟨#[]⟩] 37) (.cells #[.string s, .int .i64 0, .nilIface] 82)
  exact ⟨(alloc_below w _).alloc (by simp) _, heap_alloc2_old w _ _, ⟨cell_of_row _ _ 0 _ _ _ hr, cell_of_row _ _ 1 _ _ _ hr, cell_of_row _ _ 2 _ _ _ hr, frozen_of_row _ _ 1 _ _ hr, frozen_of_row _ _ 2 _ _ hr⟩⟩

theorem addr_ne {F R i j : Nat} (h : F ≠ R) : (⟨F, i, none⟩ : Addr) ≠ ⟨R, j, none⟩ := fun e => h (congrArg Addr.block e)
theorem Rs.set {w W : World} {s : ByteArray} {a : Nat} (h : Rs w W s a) {F : Nat} (hF : w.heap.size + 2 ≤ F) (i : Nat) (v : Value) : Rs w (W.setCell ⟨F, i, none⟩ v) s a :=
  ⟨h.below.setCell (p := ⟨F, i, none⟩) (by simp only; omega) v, (heap_setCell_other W ⟨F, i, none⟩ _ v (by simp only; omega)).trans h.row,
   ⟨(World.cell?_setCell_other _ _ _ _ (addr_ne (by omega))).trans h.rd.c0, (World.cell?_setCell_other _ _ _ _ (addr_ne (by omega))).trans h.rd.c1, (World.cell?_setCell_other _ _ _ _ (addr_ne (by omega))).trans h.rd.c2, by simpa using h.rd.f1, by simpa using h.rd.f2⟩⟩
theorem setBody {W : World} {g : Nat} {t : TypeId} {a0 a1 a2 a3 a4 a5 a6 a7 v7 : Value} (h : W.heap[g]? = some (.cells #[a0, a1, a2, a3, a4, a5, a6, a7] t (0, 0))) :
    (W.setCell ⟨g, 7, none⟩ v7).heap[g]? = some (.cells #[a0, a1, a2, a3, a4, a5, a6, v7] t (0, 0)) := by
  have := heap_setCell_same _ g 7 _ t v7 h
  simpa using this
set_option maxRecDepth 20000 in
set_option maxHeartbeats 400000 in
theorem read_len0 (s : ByteArray) (k : Nat) (w : World) (hs : s.size ≤ 1600) (hk : Hid (numAt s 12 2 = k)) (hk1 : k < 65536) (hk2 : ((k : Int) == 33024) = false) (h : (k : Int) ≤ 1500) (hl : 14 + k ≤ s.size) :
    Calls Tryd.prog 41 #[.string s] w fun e w' => e = .returned (.tuple #[.agg #[.int .u64 (numAt s 0 6 : Nat), .int .u64 (numAt s 6 6 : Nat), .bool false, .int .i64 0, .bool false, .int .i64 0, .int .i64 0, .string (cutAt s 14 k)], .nilIface]) ∧ Below w.heap.size w w' := by
  go_enter Tryd.func41, Tryd.ntmps41
  go_wp2_with fail
  have z0 := Rs.start w s
  refine (number_rd (w.heap.size + 1) 0 6 s ⟨#[97, 100, 100, 114, 101, 115, 115]⟩ _ z0.rd (by omega) (by omega) (by decide) (by decide)).mono ?_
  rintro e w1 ⟨rfl, b1, r1⟩
  have z1 := z0.next b1 r1
  clear z0 b1 r1
  go_wp2_with fail
  refine (number_rd (w.heap.size + 1) 6 6 s ⟨#[97, 100, 100, 114, 101, 115, 115]⟩ _ z1.rd (by omega) (by omega) (by decide) (by decide)).mono ?_
  rintro e w2 ⟨rfl, b2, r2⟩
  have z2 := z1.next b2 r2
  clear z1 b2 r2
  go_wp2_with fail
  have z3 := z2.grow (alloc_below w2 (.cells #[.int .u64 (numAt s 0 6 : Nat), .int .u64 (numAt s 6 6 : Nat), .bool false, .int .i64 0, .bool false, .int .i64 0, .int .i64 0, .string ⟨#[]⟩] 37))
  have hF := heap_alloc_new w2 (.cells #[.int .u64 (numAt s 0 6 : Nat), .int .u64 (numAt s 6 6 : Nat), .bool false, .int .i64 0, .bool false, .int .i64 0, .int .i64 0, .string ⟨#[]⟩] 37)
  have hFR : w2.heap.size ≠ w.heap.size + 1 := by have := block_lt_of_cell z2.rd.c0; simp only at this; omega
  have hFl : w.heap.size + 2 ≤ w2.heap.size := by have := block_lt_of_cell z2.rd.c0; simp only at this; omega
  clear z2
  refine (number_rd (w.heap.size + 1) 12 2 s ⟨#[116, 121, 112, 101]⟩ _ z3.rd (by omega) (by omega) (by decide) (by decide)).mono ?_
  rw [unhide hk]
  rintro e w4 ⟨rfl, b4, r4⟩
  have z4 := z3.next b4 r4
  have hF4 := b4.row hF hFR
  clear z3 b4 r4 hF
  generalize w2.heap.size = F at *
  have ce : w4.cell? ⟨w.heap.size + 1, 2, none⟩ = some .nilIface := z4.rd.c2
  have z8 : Rs w w4 s 14 := ⟨z4.below, z4.row, ⟨z4.rd.c0, z4.rd.c1, ce, z4.rd.f1, z4.rd.f2⟩⟩
  have ca : w4.cell? ⟨w.heap.size + 1, 1, none⟩ = some (.int .i64 14) := z4.rd.c1
  clear z4
  go_wp2_with fail
  clear ce ca
  refine (bytes_rd (w.heap.size + 1) 14 k s ⟨#[98, 111, 100, 121]⟩ _ z8.rd (by omega) (by omega)).mono ?_
  rintro e w8 ⟨rfl, b8, r8⟩
  have y8 := z8.next b8 r8
  have hF8 := b8.row hF4 hFR
  clear z8 b8 r8 hF4
  have HZ := hide (y8.set hFl 7 (.string (cutAt s 14 k)))
  have HF := hide (setBody (v7 := .string (cutAt s 14 k)) hF8)
  have d7 := (cells8 hF8).2.2.2.2.2.2.2.1
  have g7 := (cells8 hF8).2.2.2.2.2.2.2.2.2.2.2.2.2.2.2
  clear y8 hF8
  go_wp2_with fail
  have z9 := unhide HZ
  have hF9 := unhide HF
  clear HZ HF d7 g7
  obtain ⟨W9, hW9⟩ : ∃ W9, W9 = w8.setCell ⟨F, 7, none⟩ (.string (cutAt s 14 k)) := ⟨_, rfl⟩
  rw [← hW9] at z9 hF9 ⊢
  clear hW9
  obtain ⟨d0, d1, d2, d3, d4, d5, d6, d7, g0, g1, g2, g3, g4, g5, g6, g7⟩ := cells8 hF9
  obtain ⟨c0, c1, c2, c3, c4, c5, c6, c7, f0, f1, f2, f3, f4, f5, f6, f7⟩ := cells8 z9.row
  have ce := z9.rd.c2
  have hb := z9.below
  have HR := hide z9.row
  clear z9 hF9
  go_region
  all_goals
    go_wp2_with fail
    refine bodyPost_ret ?_ rfl ⟨rfl, (below8 hb (Nat.le_refl _)).drew⟩
    exact results_row2 rfl _ _ w.heap.size 37 _ _ _ _ rfl rfl (set8d (unhide HR)) Tryd.underlying37 rfl (by kernel_rfl)
set_option maxRecDepth 20000 in
set_option maxHeartbeats 400000 in
theorem eparse_good (s : ByteArray) (x : Fr) (w : World)
    (h : Hid (∀ w, Calls Tryd.prog 41 #[.string s] w fun ev w' => ev = .returned (.tuple #[x.val, .nilIface]) ∧ Below w.heap.size w w')) :
    Calls Tryd.prog 22 #[.string s] w fun ev w' => ev = .returned (.tuple #[x.val, .int .i64 0]) ∧ Below w.heap.size w w' := by
  obtain ⟨d, q, has, pri, dei, vid, ty, body⟩ := x
  go_enter Tryd.func22, Tryd.ntmps22
  go_wp2_with fail
  refine (unhide h _).mono ?_
  rintro ev w1 ⟨rfl, b1⟩
  have hrow := (b1.block w.heap.size (by simp)).trans (heap_alloc_new w _)
  have hb := bthen (alloc_below w _) b1
  have hne : w.heap.size ≠ w1.heap.size := Nat.ne_of_lt (lt_of_row hrow)
  have hrow2 := (But.of (R := w1.heap.size) (alloc_below w1 (.cells #[.int .u64 (d : Int), .int .u64 (q : Int), .bool has, .int .i64 pri, .bool dei, .int .i64 vid, .int .i64 ty, .string (bs body)] 37))).row hrow hne
  clear b1 h hrow
  obtain ⟨c0, c1, c2, c3, c4, c5, c6, c7, f0, f1, f2, f3, f4, f5, f6, f7⟩ := cells8 hrow2
  have HR := hide hrow2
  clear hrow2
  simp only [Fr.val]
  go_wp2_with fail
  refine bodyPost_ret ?_ rfl ⟨rfl, below8 (alloc_then hb) (Nat.le_refl _)⟩
  exact results_row2 rfl _ _ w.heap.size 37 _ _ _ _ rfl rfl (set8 (unhide HR)) Tryd.underlying37 rfl (by kernel_rfl)
set_option maxRecDepth 20000 in
theorem tagged_any (d s : Int) (has : Bool) (pri : Int) (dei : Bool) (vid ty : Int) (b : ByteArray) (has2 : Bool) (pri2 : Int) (dei2 : Bool) (vid2 : Int) (w : World) :
    Calls Tryd.prog 23 #[.agg #[.int .u64 d, .int .u64 s, .bool has, .int .i64 pri, .bool dei, .int .i64 vid, .int .i64 ty, .string b], .agg #[.bool has2, .int .i64 pri2, .bool dei2, .int .i64 vid2]] w fun e w' => e = .returned (.agg #[.int .u64 d, .int .u64 s, .bool has2, .int .i64 pri2, .bool dei2, .int .i64 vid2, .int .i64 ty, .string b]) ∧ Below w.heap.size w w' := by
  go_enter Tryd.func23, Tryd.ntmps23
  go_wp2
  refine bodyPost_ret ?_ rfl ⟨rfl, ((alloc_below w _).alloc (by simp) _).alloc (by simp; omega) _⟩
  exact results_cell_row rfl _ _ (w.heap.size + 1 + 1) 37 _ _ _ rfl (heap_last _ _ _ (by simp)) Tryd.underlying37 rfl (by kernel_rfl)
theorem eparse_bp (s : Nat) (b : Bp) (hs : s < 281474976710656) (w : World) : Calls Tryd.prog 22 #[.string (bs (bpFr s b).bytes)] w fun e w' => e = .returned (.tuple #[(bpFr s b).val, .int .i64 0]) ∧ Below w.heap.size w w' := by
  have hl : b.bytes.length ≤ 39 := by rw [b.bytes_length]; split <;> (try split) <;> omega
  obtain ⟨l, hL⟩ : ∃ l, l = (bpFr s b).bytes := ⟨_, rfl⟩
  have e : l = be 1652522221568 6 ++ (be s 6 ++ (be b.bytes.length 2 ++ b.bytes)) := by
    rw [hL]; unfold Fr.bytes Fr.tagB Fr.tl bpFr; simp
  have z : (bs l).size = 14 + b.bytes.length := by rw [bs_size, e]; simp [be_length]; omega
  have at_bs : ∀ a n, numAt (bs l) a n = num ((l.drop a).take n) := fun a n => by unfold numAt; rw [extract_toList, bs_toList, Nat.add_sub_cancel_left]
  have d6 : l.drop 6 = be s 6 ++ (be b.bytes.length 2 ++ b.bytes) := by rw [e]; exact drop_front (be_length _ _)
  have d12 : l.drop 12 = be b.bytes.length 2 ++ b.bytes := by rw [show 12 = 6 + 6 from rfl, ← List.drop_drop, d6]; exact drop_front (be_length _ _)
  have d14 : l.drop 14 = b.bytes := by rw [show 14 = 12 + 2 from rfl, ← List.drop_drop, d12]; exact drop_front (be_length _ _)
  have n0 : numAt (bs l) 0 6 = 1652522221568 := by rw [at_bs, List.drop_zero, e, take_front (be_length _ _), num_be _ _ (by decide)]
  have n6 : numAt (bs l) 6 6 = s := by rw [at_bs, d6, take_front (be_length _ _), num_be _ _ (by rw [pow6]; exact hs)]
  have n12 : numAt (bs l) 12 2 = b.bytes.length := by rw [at_bs, d12, take_front (be_length _ _), num_be _ _ (by rw [pow2]; omega)]
  have c14 : cutAt (bs l) 14 b.bytes.length = bs b.bytes := by
    unfold cutAt
    rw [← bs_of ((bs l).extract 14 (14 + b.bytes.length)), extract_toList, bs_toList, Nat.add_sub_cancel_left, d14, List.take_length]
  rw [← hL]
  refine eparse_good (bs l) (bpFr s b) w (hide fun W => ?_)
  have c := read_len0 (bs l) b.bytes.length W (by omega) (hide n12) (by omega) (by rw [beq_eq_false_iff_ne]; omega) (by omega) (by omega)
  rw [n0, n6, c14] at c
  exact c
end Go.Proofs.YtchgmbbcfjfhoaaDoor
