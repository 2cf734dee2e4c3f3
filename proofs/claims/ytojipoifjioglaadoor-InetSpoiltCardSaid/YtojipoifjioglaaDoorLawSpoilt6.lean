/-
  Proved: for every packet (of a body cut to 1700 bytes), number and byte, gangwaylaw06.InetSpoilt answers true (a byte of the first twenty that is another one makes a packet none, P6.2), and the arguments read afterwards as before. Conditions: errors.errorType holds what the program's own text lays (tied by the card).
-/
import Derived.Test.YtojipoifjioglaaDoorRow6
import Derived.Deep.DeepCutAuto
import Derived.Deep.RegionHeld3
import Derived.Deep.RegionWith
namespace Go.Proofs.YtojipoifjioglaaDoor.inetSpoilt
open Go.ChangeShapes Go.WideShapes Go.ChangeAt Go.RowKit Go.Sort
open Go.ChangeMaps (open_string shut_string)

theorem own_one (w : World) (c : Int) : ∃ base, (w.alloc (.cells #[.int .u8 c] 5)).ownsRow base 5 1 (.slice (some ⟨w.heap.size, 0, none⟩) 1 1) 1 [.int .u8 c] :=
  ⟨w.heap.size, World.ownsRow_lit (base := w.heap.size) (e := 5) (size := 1) w #[.int .u8 c] 1 (Nat.le_refl _) (by decide) rfl⟩
theorem own_drew {w : World} {v : Value} {l : List Value} (h : ∃ base, w.ownsRow base 5 1 v 1 l) : ∃ base, w.drew.ownsRow base 5 1 v 1 l := by
  obtain ⟨base, h⟩ := h
  exact ⟨base, h.drew⟩
theorem own_alloc {w : World} {v : Value} {l : List Value} (h : ∃ base, w.ownsRow base 5 1 v 1 l) (o : Obj) : ∃ base, (w.alloc o).ownsRow base 5 1 v 1 l := by
  obtain ⟨base, h⟩ := h
  exact ⟨base, h.alloc o⟩
theorem rowA {W W' : World} {o p : Obj} (b : Below ((W.alloc o).alloc p).drew.heap.size ((W.alloc o).alloc p).drew W') : W'.heap[W.heap.size]? = some o := Below.row b (heap_alloc2_old W o p)
theorem rowB {W W' : World} {o p : Obj} (b : Below ((W.alloc o).alloc p).drew.heap.size ((W.alloc o).alloc p).drew W') : W'.heap[W.heap.size + 1]? = some p := Below.row b (heap_alloc2_new W o p)
set_option maxRecDepth 100000 in
set_option maxHeartbeats 1000000 in
theorem walk_bad (a b o t q s d : Int) (x y : Bool) (B X : ByteArray) (k : Int) (z : Int) (c : Int) (w : World) (hg : Et w)
    (CU : Hid (∀ W, Calls Tryd.prog 9 #[.agg #[.int .i64 a, .int .i64 b, .bool x, .bool y, .int .i64 o, .int .i64 t, .int .i64 q, .int .u32 s, .int .u32 d, .string B]] W fun e W' => e = .returned (.agg #[.int .i64 a, .int .i64 b, .bool x, .bool y, .int .i64 o, .int .i64 t, .int .i64 q, .int .u32 s, .int .u32 d, .string X]) ∧ Below W.heap.size W W'))
    (CB : Hid (∀ W, Et W → Calls Tryd.prog 10 #[.agg #[.int .i64 a, .int .i64 b, .bool x, .bool y, .int .i64 o, .int .i64 t, .int .i64 q, .int .u32 s, .int .u32 d, .string X]] W fun e W' => e = .returned (.tuple #[.string ByteArray.empty, .int .i64 k]) ∧ Below W.heap.size W W'))
    (hk : (k != 0) = true)
    (CF : Hid (∀ W, Et W → Calls Tryd.prog 12 #[] W fun e W' => e = .returned (.bool true) ∧ Below W.heap.size W W')) :
    Calls Tryd.prog 7 #[.agg #[.int .i64 a, .int .i64 b, .bool x, .bool y, .int .i64 o, .int .i64 t, .int .i64 q, .int .u32 s, .int .u32 d, .string B], .int .i64 z, .int .u8 c] w fun e w' => e = .returned (.bool true) ∧ Below w.heap.size w w' := by
  go_enter Tryd.func7, Tryd.ntmps7
  go_wp2_with fail
  refine (unhide CU _).mono ?_
  rintro e w1 ⟨rfl, b1⟩
  have h1 := bthen (alloc_below w _) b1
  have r1 := Below.row b1 (heap_alloc_new w _)
  obtain ⟨c0, c1, c2, c3, c4, c5, c6, c7, c8, c9, f0, f1, f2, f3, f4, f5, f6, f7, f8, f9⟩ := cells10 r1
  have h2 := below10 (v0 := .int .i64 a) (v1 := .int .i64 b) (v2 := .bool x) (v3 := .bool y) (v4 := .int .i64 o) (v5 := .int .i64 t) (v6 := .int .i64 q) (v7 := .int .u32 s) (v8 := .int .u32 d) (v9 := .string X) h1 (Nat.le_refl _)
  have r2 := set10 (v0 := .int .i64 a) (v1 := .int .i64 b) (v2 := .bool x) (v3 := .bool y) (v4 := .int .i64 o) (v5 := .int .i64 t) (v6 := .int .i64 q) (v7 := .int .u32 s) (v8 := .int .u32 d) (v9 := .string X) r1
  clear b1 CU
  go_wp2_with fail
  generalize ((((((((((w1.setCell ⟨w.heap.size, 0, none⟩ (.int .i64 a)).setCell ⟨w.heap.size, 1, none⟩ (.int .i64 b)).setCell ⟨w.heap.size, 2, none⟩ (.bool x)).setCell ⟨w.heap.size, 3, none⟩ (.bool y)).setCell ⟨w.heap.size, 4, none⟩ (.int .i64 o)).setCell ⟨w.heap.size, 5, none⟩ (.int .i64 t)).setCell ⟨w.heap.size, 6, none⟩ (.int .i64 q)).setCell ⟨w.heap.size, 7, none⟩ (.int .u32 s)).setCell ⟨w.heap.size, 8, none⟩ (.int .u32 d)).setCell ⟨w.heap.size, 9, none⟩ (.string X)) = w2 at *
  clear h1 r1 c0 c1 c2 c3 c4 c5 c6 c7 c8 c9 f0 f1 f2 f3 f4 f5 f6 f7 f8 f9
  refine (unhide CB _ (hg.next h2)).mono ?_
  rintro e w3 ⟨rfl, b3⟩
  have h3 := bthen h2 b3
  have r3 := Below.row b3 r2
  clear b3 CB h2 r2
  go_wp2_with fail
  refine (unhide CF _ (hg.next h3)).mono ?_
  rintro e w9 ⟨rfl, b9⟩
  have h9 := bthen h3 b9
  go_wp2_with fail
  go_ret
  exact ⟨rfl, h9⟩
set_option maxRecDepth 100000 in
set_option maxHeartbeats 4000000 in
theorem walk_other (a b o t q s d : Int) (x y : Bool) (B X T T1 C T3 T2 Y : ByteArray) (z : Int) (c : Int) (r j J g : Nat) (a2 b2 o2 t2 q2 s2 d2 : Int) (x2 y2 : Bool) (B2 : ByteArray) (e0 : Int) (w : World) (hg : Et w)
    (CU : Hid (∀ W, Calls Tryd.prog 9 #[.agg #[.int .i64 a, .int .i64 b, .bool x, .bool y, .int .i64 o, .int .i64 t, .int .i64 q, .int .u32 s, .int .u32 d, .string B]] W fun e W' => e = .returned (.agg #[.int .i64 a, .int .i64 b, .bool x, .bool y, .int .i64 o, .int .i64 t, .int .i64 q, .int .u32 s, .int .u32 d, .string X]) ∧ Below W.heap.size W W'))
    (CB : Hid (∀ W, Et W → Calls Tryd.prog 10 #[.agg #[.int .i64 a, .int .i64 b, .bool x, .bool y, .int .i64 o, .int .i64 t, .int .i64 q, .int .u32 s, .int .u32 d, .string X]] W fun e W' => e = .returned (.tuple #[.string T, .int .i64 0]) ∧ Below W.heap.size W W'))
    (hT : (20 : Int) ≤ (T.size : Int)) (hT2 : (T.size : Int) ≤ 1720)
    (hj : (r : Int) % 20 = (j : Int)) (hJ : IntKind.i64.wrap ((j : Int) + 1) = (J : Int))
    (hr : bits BinOp.and IntKind.i64 z 65535 = (r : Int))
    (sl1 : ∀ W : World, (Instr.slice 9 (.string T) none (some (.int .i64 (j : Int))) none).run Tryd.prog W = .ok (.string T1) W)
    (sl2 : ∀ W : World, (Instr.slice 9 (.string T) (some (.int .i64 (J : Int))) none none).run Tryd.prog W = .ok (.string T2) W)
    (hcv : ∀ (wr : World) (v : Value), (∃ base, wr.ownsRow base 5 1 v 1 [.int .u8 c]) → (convert 38 9 v).run Tryd.prog wr = .ok (.string C) wr)
    (g1 : ∀ W, (Op.stringOp .add T1 C).run Tryd.prog W = .ok (.string T3) W) (g2 : ∀ W, (Op.stringOp .add T3 T2).run Tryd.prog W = .ok (.string Y) W)
    (hix : ∀ W : World, (Instr.index 9 (.string T) (.int .i64 (j : Int))).run Tryd.prog W = .ok (.int .u8 (g : Int)) W)
    (CP : Hid (∀ W, Et W → Calls Tryd.prog 16 #[.string Y] W fun e W' => e = .returned (.tuple #[.agg #[.int .i64 a2, .int .i64 b2, .bool x2, .bool y2, .int .i64 o2, .int .i64 t2, .int .i64 q2, .int .u32 s2, .int .u32 d2, .string B2], .int .i64 e0]) ∧ Below W.heap.size W W'))
    (CF : Hid (∀ W, Et W → Calls Tryd.prog 12 #[] W fun e W' => e = .returned (.bool true) ∧ Below W.heap.size W W'))
    (hc : (c == (g : Int)) = false) (he : (e0 != 0) = true) :
    Calls Tryd.prog 7 #[.agg #[.int .i64 a, .int .i64 b, .bool x, .bool y, .int .i64 o, .int .i64 t, .int .i64 q, .int .u32 s, .int .u32 d, .string B], .int .i64 z, .int .u8 c] w fun e w' => e = .returned (.bool true) ∧ Below w.heap.size w w' := by
  go_enter Tryd.func7, Tryd.ntmps7
  go_wp2_with fail
  refine (unhide CU _).mono ?_
  rintro e w1 ⟨rfl, b1⟩
  have h1 := bthen (alloc_below w _) b1
  have r1 := Below.row b1 (heap_alloc_new w _)
  obtain ⟨c0, c1, c2, c3, c4, c5, c6, c7, c8, c9, f0, f1, f2, f3, f4, f5, f6, f7, f8, f9⟩ := cells10 r1
  have h2 := below10 (v0 := .int .i64 a) (v1 := .int .i64 b) (v2 := .bool x) (v3 := .bool y) (v4 := .int .i64 o) (v5 := .int .i64 t) (v6 := .int .i64 q) (v7 := .int .u32 s) (v8 := .int .u32 d) (v9 := .string X) h1 (Nat.le_refl _)
  have r2 := set10 (v0 := .int .i64 a) (v1 := .int .i64 b) (v2 := .bool x) (v3 := .bool y) (v4 := .int .i64 o) (v5 := .int .i64 t) (v6 := .int .i64 q) (v7 := .int .u32 s) (v8 := .int .u32 d) (v9 := .string X) r1
  clear b1 CU
  go_wp2_with fail
  generalize ((((((((((w1.setCell ⟨w.heap.size, 0, none⟩ (.int .i64 a)).setCell ⟨w.heap.size, 1, none⟩ (.int .i64 b)).setCell ⟨w.heap.size, 2, none⟩ (.bool x)).setCell ⟨w.heap.size, 3, none⟩ (.bool y)).setCell ⟨w.heap.size, 4, none⟩ (.int .i64 o)).setCell ⟨w.heap.size, 5, none⟩ (.int .i64 t)).setCell ⟨w.heap.size, 6, none⟩ (.int .i64 q)).setCell ⟨w.heap.size, 7, none⟩ (.int .u32 s)).setCell ⟨w.heap.size, 8, none⟩ (.int .u32 d)).setCell ⟨w.heap.size, 9, none⟩ (.string X)) = w2 at *
  clear h1 r1 c0 c1 c2 c3 c4 c5 c6 c7 c8 c9 f0 f1 f2 f3 f4 f5 f6 f7 f8 f9
  refine (unhide CB _ (hg.next h2)).mono ?_
  rintro e w3 ⟨rfl, b3⟩
  have h3 := bthen h2 b3
  have r3 := Below.row b3 r2
  clear b3 CB h2 r2
  have hcv1 := hcv _ _ (own_drew (own_one w3 c))
  have hcv2 := hcv _ _ (own_drew (own_one (w3.alloc (.cells #[.int .i64 0, .int .i64 0, .bool false, .bool false, .int .i64 0, .int .i64 0, .int .i64 0, .int .u32 0, .int .u32 0, .string ⟨#[]⟩] 24)) c))
  have hcv3 := hcv _ _ (own_drew (own_alloc (own_one w3 c) (.cells #[.int .i64 0, .int .i64 0, .bool false, .bool false, .int .i64 0, .int .i64 0, .int .i64 0, .int .u32 0, .int .u32 0, .string ⟨#[]⟩] 24)))
  simp only [World.size_alloc] at hcv1 hcv2 hcv3
  have hle : w.heap.size ≤ w3.heap.size := h3.size
  have hle2 : w.heap.size ≤ w3.heap.size + 1 := Nat.le_succ_of_le hle
  go_upto_region 8 with fail
  go_cut [9, 10, 11] (fun kv _ v wx => kv = .int .i64 (j : Int) ∧ v = .int .i64 e0 ∧ Below w.heap.size w wx)
  case first =>
    go_region_with ((go_at_call 16; refine (unhide CP _ ?_).mono ?_; (refine Et.next hg ?_; (repeat (first | (with_reducible exact h3) | (with_reducible refine Below.drew ?_) | (with_reducible refine alloc_then ?_)))); rintro e w4 ⟨rfl, b4⟩; first | (have r5 := rowA b4; obtain ⟨c0, c1, c2, c3, c4, c5, c6, c7, c8, c9, f0, f1, f2, f3, f4, f5, f6, f7, f8, f9⟩ := cells10 r5) | (have r5 := rowB b4; obtain ⟨c0, c1, c2, c3, c4, c5, c6, c7, c8, c9, f0, f1, f2, f3, f4, f5, f6, f7, f8, f9⟩ := cells10 r5) | skip))
    all_goals
      go_wp2_with fail
      go_meet
      refine ⟨rfl, rfl, ?_⟩
      repeat (first | (with_reducible exact h3) | (with_reducible refine Below.drew ?_) | (with_reducible refine alloc_then ?_) | (with_reducible refine below10 ?_ hle) | (with_reducible refine below10 ?_ hle2) | (with_reducible refine bthen ?_ b4))
  case rest =>
    obtain ⟨rfl, rfl, hb⟩ := hcut
    clear hcv1 hcv2 hcv3 hcv sl1 sl2 g1 g2 CP
    go_wp2_with fail
    refine (unhide CF _ (hg.next hb)).mono ?_
    rintro e w9 ⟨rfl, b9⟩
    have h9 := bthen hb b9
    go_wp2_with fail
    go_ret
    exact ⟨rfl, h9⟩
set_option maxRecDepth 100000 in
set_option maxHeartbeats 4000000 in
theorem walk_same (a b o t q s d : Int) (x y : Bool) (B X T T1 C T3 T2 Y : ByteArray) (z : Int) (c : Int) (r j J g : Nat) (a2 b2 o2 t2 q2 s2 d2 : Int) (x2 y2 : Bool) (B2 : ByteArray) (w : World) (hg : Et w)
    (CU : Hid (∀ W, Calls Tryd.prog 9 #[.agg #[.int .i64 a, .int .i64 b, .bool x, .bool y, .int .i64 o, .int .i64 t, .int .i64 q, .int .u32 s, .int .u32 d, .string B]] W fun e W' => e = .returned (.agg #[.int .i64 a, .int .i64 b, .bool x, .bool y, .int .i64 o, .int .i64 t, .int .i64 q, .int .u32 s, .int .u32 d, .string X]) ∧ Below W.heap.size W W'))
    (CB : Hid (∀ W, Et W → Calls Tryd.prog 10 #[.agg #[.int .i64 a, .int .i64 b, .bool x, .bool y, .int .i64 o, .int .i64 t, .int .i64 q, .int .u32 s, .int .u32 d, .string X]] W fun e W' => e = .returned (.tuple #[.string T, .int .i64 0]) ∧ Below W.heap.size W W'))
    (hT : (20 : Int) ≤ (T.size : Int)) (hT2 : (T.size : Int) ≤ 1720)
    (hj : (r : Int) % 20 = (j : Int)) (hJ : IntKind.i64.wrap ((j : Int) + 1) = (J : Int))
    (hr : bits BinOp.and IntKind.i64 z 65535 = (r : Int))
    (sl1 : ∀ W : World, (Instr.slice 9 (.string T) none (some (.int .i64 (j : Int))) none).run Tryd.prog W = .ok (.string T1) W)
    (sl2 : ∀ W : World, (Instr.slice 9 (.string T) (some (.int .i64 (J : Int))) none none).run Tryd.prog W = .ok (.string T2) W)
    (hcv : ∀ (wr : World) (v : Value), (∃ base, wr.ownsRow base 5 1 v 1 [.int .u8 c]) → (convert 38 9 v).run Tryd.prog wr = .ok (.string C) wr)
    (g1 : ∀ W, (Op.stringOp .add T1 C).run Tryd.prog W = .ok (.string T3) W) (g2 : ∀ W, (Op.stringOp .add T3 T2).run Tryd.prog W = .ok (.string Y) W)
    (hix : ∀ W : World, (Instr.index 9 (.string T) (.int .i64 (j : Int))).run Tryd.prog W = .ok (.int .u8 (g : Int)) W)
    (CP : Hid (∀ W, Et W → Calls Tryd.prog 16 #[.string Y] W fun e W' => e = .returned (.tuple #[.agg #[.int .i64 a2, .int .i64 b2, .bool x2, .bool y2, .int .i64 o2, .int .i64 t2, .int .i64 q2, .int .u32 s2, .int .u32 d2, .string B2], .int .i64 0]) ∧ Below W.heap.size W W'))
    (CF : Hid (∀ W, Et W → Calls Tryd.prog 12 #[] W fun e W' => e = .returned (.bool true) ∧ Below W.heap.size W W'))
    (hc : (c == (g : Int)) = true) :
    Calls Tryd.prog 7 #[.agg #[.int .i64 a, .int .i64 b, .bool x, .bool y, .int .i64 o, .int .i64 t, .int .i64 q, .int .u32 s, .int .u32 d, .string B], .int .i64 z, .int .u8 c] w fun e w' => e = .returned (.bool true) ∧ Below w.heap.size w w' := by
  go_enter Tryd.func7, Tryd.ntmps7
  go_wp2_with fail
  refine (unhide CU _).mono ?_
  rintro e w1 ⟨rfl, b1⟩
  have h1 := bthen (alloc_below w _) b1
  have r1 := Below.row b1 (heap_alloc_new w _)
  obtain ⟨c0, c1, c2, c3, c4, c5, c6, c7, c8, c9, f0, f1, f2, f3, f4, f5, f6, f7, f8, f9⟩ := cells10 r1
  have h2 := below10 (v0 := .int .i64 a) (v1 := .int .i64 b) (v2 := .bool x) (v3 := .bool y) (v4 := .int .i64 o) (v5 := .int .i64 t) (v6 := .int .i64 q) (v7 := .int .u32 s) (v8 := .int .u32 d) (v9 := .string X) h1 (Nat.le_refl _)
  have r2 := set10 (v0 := .int .i64 a) (v1 := .int .i64 b) (v2 := .bool x) (v3 := .bool y) (v4 := .int .i64 o) (v5 := .int .i64 t) (v6 := .int .i64 q) (v7 := .int .u32 s) (v8 := .int .u32 d) (v9 := .string X) r1
  clear b1 CU
  go_wp2_with fail
  generalize ((((((((((w1.setCell ⟨w.heap.size, 0, none⟩ (.int .i64 a)).setCell ⟨w.heap.size, 1, none⟩ (.int .i64 b)).setCell ⟨w.heap.size, 2, none⟩ (.bool x)).setCell ⟨w.heap.size, 3, none⟩ (.bool y)).setCell ⟨w.heap.size, 4, none⟩ (.int .i64 o)).setCell ⟨w.heap.size, 5, none⟩ (.int .i64 t)).setCell ⟨w.heap.size, 6, none⟩ (.int .i64 q)).setCell ⟨w.heap.size, 7, none⟩ (.int .u32 s)).setCell ⟨w.heap.size, 8, none⟩ (.int .u32 d)).setCell ⟨w.heap.size, 9, none⟩ (.string X)) = w2 at *
  clear h1 r1 c0 c1 c2 c3 c4 c5 c6 c7 c8 c9 f0 f1 f2 f3 f4 f5 f6 f7 f8 f9
  refine (unhide CB _ (hg.next h2)).mono ?_
  rintro e w3 ⟨rfl, b3⟩
  have h3 := bthen h2 b3
  have r3 := Below.row b3 r2
  clear b3 CB h2 r2
  have hcv1 := hcv _ _ (own_drew (own_one w3 c))
  have hcv2 := hcv _ _ (own_drew (own_one (w3.alloc (.cells #[.int .i64 0, .int .i64 0, .bool false, .bool false, .int .i64 0, .int .i64 0, .int .i64 0, .int .u32 0, .int .u32 0, .string ⟨#[]⟩] 24)) c))
  have hcv3 := hcv _ _ (own_drew (own_alloc (own_one w3 c) (.cells #[.int .i64 0, .int .i64 0, .bool false, .bool false, .int .i64 0, .int .i64 0, .int .i64 0, .int .u32 0, .int .u32 0, .string ⟨#[]⟩] 24)))
  simp only [World.size_alloc] at hcv1 hcv2 hcv3
  have hle : w.heap.size ≤ w3.heap.size := h3.size
  have hle2 : w.heap.size ≤ w3.heap.size + 1 := Nat.le_succ_of_le hle
  go_upto_region 8 with fail
  go_cut [9, 10, 11] (fun kv _ v wx => kv = .int .i64 (j : Int) ∧ v = .int .i64 0 ∧ Below w.heap.size w wx)
  case first =>
    go_region_with ((go_at_call 16; refine (unhide CP _ ?_).mono ?_; (refine Et.next hg ?_; (repeat (first | (with_reducible exact h3) | (with_reducible refine Below.drew ?_) | (with_reducible refine alloc_then ?_)))); rintro e w4 ⟨rfl, b4⟩; first | (have r5 := rowA b4; obtain ⟨c0, c1, c2, c3, c4, c5, c6, c7, c8, c9, f0, f1, f2, f3, f4, f5, f6, f7, f8, f9⟩ := cells10 r5) | (have r5 := rowB b4; obtain ⟨c0, c1, c2, c3, c4, c5, c6, c7, c8, c9, f0, f1, f2, f3, f4, f5, f6, f7, f8, f9⟩ := cells10 r5) | skip))
    all_goals
      go_wp2_with fail
      go_meet
      refine ⟨rfl, rfl, ?_⟩
      repeat (first | (with_reducible exact h3) | (with_reducible refine Below.drew ?_) | (with_reducible refine alloc_then ?_) | (with_reducible refine below10 ?_ hle) | (with_reducible refine below10 ?_ hle2) | (with_reducible refine bthen ?_ b4))
  case rest =>
    obtain ⟨rfl, rfl, hb⟩ := hcut
    clear hcv1 hcv2 hcv3 hcv sl1 sl2 g1 g2 CP
    go_wp2_with fail
    refine (unhide CF _ (hg.next hb)).mono ?_
    rintro e w9 ⟨rfl, b9⟩
    have h9 := bthen hb b9
    go_wp2_with fail
    go_ret
    exact ⟨rfl, h9⟩
theorem index_of (l : List UInt8) (k : Nat) (hk : k < l.length) (W : World) : (Instr.index 9 (.string (bs l)) (.int .i64 (k : Int))).run Tryd.prog W = .ok (.int .u8 ((l[k]).toNat : Nat)) W := by
  have hs := bs_size l
  have e := run_index_string (P := Tryd.prog) (w := W) 9 (bs l) .i64 (k : Int) Tryd.underlying9
  rw [dif_pos ⟨by omega, by omega⟩] at e
  exact e
theorem set_parts (m : List UInt8) (k : Nat) (c : UInt8) (hk : k < m.length) : m.take k ++ [c] ++ m.drop (k + 1) = m.set k c := by
  rw [List.set_eq_take_append_cons_drop, if_pos hk, List.append_assoc]; rfl
theorem one_byte (c : Nat) (hc : c < 256) (wr : World) (v : Value) (h : ∃ base, wr.ownsRow base 5 1 v 1 [.int .u8 (c : Int)]) : (convert 38 9 v).run Tryd.prog wr = .ok (.string (bs [UInt8.ofNat c])) wr := by
  obtain ⟨base, h⟩ := h
  refine run_own_string (base := base) [UInt8.ofNat c] ?_
  have e : Lib.byteCells [UInt8.ofNat c] = [Value.int .u8 (c : Int)] := by
    simp only [Lib.byteCells, List.map_cons, List.map_nil]
    rw [UInt8.toNat_ofNat_of_lt' hc]
  rw [e]; exact h
theorem walk (p : Pk) (z : Int) (c : Nat) (w : World) (hg : Et w) (hs : p.src < 4294967296) (hd : p.dst < 4294967296) (_ : -9223372036854775808 ≤ z) (_ : z ≤ 9223372036854775807) (hcc : c < 256) :
    Calls Tryd.prog 7 #[p.val, .int .i64 z, .int .u8 (c : Int)] w fun e w' => e = .returned (.bool true) ∧ Below w.heap.size w w' := by
  obtain ⟨m, l, hl, mx, sx⟩ := firstN 1700 (bs p.body)
  obtain ⟨a, b, x, y, o, t, q, s, d, B⟩ := p
  have hf : (Pk.mk a b x y o t q s d l).fits := ⟨hs, hd, hl⟩
  have CU := fun W => cut_any a b o t q s d x y (bs B) (bs l) m W mx sx
  by_cases hc : (Pk.mk a b x y o t q s d l).check = 0
  · have CB := fun W (_ : Et W) => inetBuild_ok _ W hf hc
    have ho := check_ok.1 hc
    obtain ⟨r, hr, _⟩ := and_mask z 65535 (by decide)
    have hlen := (Pk.mk a b x y o t q s d l).bytes_length
    have hsp := flaw_spoilt (Pk.mk a b x y o t q s d l) (r % 20) (UInt8.ofNat c) (Nat.mod_lt _ (by decide))
    have hback := parse_built (Pk.mk a b x y o t q s d l) [] hc hs hd
    rw [List.append_nil] at hback
    simp only at hlen
    generalize (Pk.mk a b x y o t q s d l).bytes = T at *
    have hk : r % 20 < T.length := by have := Nat.mod_lt r (show 20 > 0 by decide); omega
    have e1 := set_parts T (r % 20) (UInt8.ofNat c) hk
    have hY : (T.set (r % 20) (UInt8.ofNat c)).length = T.length := List.length_set
    have CP := fun W (g : Et W) => inetParse_any (T.set (r % 20) (UInt8.ofNat c)) W (by omega) g
    have g1 := fun W => add_bs (T.take (r % 20)) [UInt8.ofNat c] (by rw [List.length_take]; simp; omega) W
    have g2 := fun W => add_bs (T.take (r % 20) ++ [UInt8.ofNat c]) (T.drop (r % 20 + 1)) (by rw [List.length_append, List.length_take, List.length_drop]; simp; omega) W
    rw [e1] at g2
    have hu8 : (UInt8.ofNat c).toNat = c := UInt8.toNat_ofNat_of_lt' hcc
    by_cases he : UInt8.ofNat c = T[r % 20]
    · rw [he, List.set_getElem_self] at CP
      rw [he, List.set_getElem_self] at g2
      rw [hback] at CP
      rw [he] at g1
      have hone := one_byte c hcc
      rw [he] at hone
      exact walk_same a b o t q s d x y (bs B) (bs l) (bs T) _ _ _ _ _ z c r (r % 20) (r % 20 + 1) _ _ _ _ _ _ _ _ _ _ _ w hg (hide CU) (hide CB) (by rw [bs_size]; omega) (by rw [bs_size]; omega) (by simp) (by rw [IntKind.wrap_i64]; omega) hr (fun W => cut_to T _ (Nat.le_of_lt hk) W) (fun W => cut_from T _ hk W) hone g1 g2 (fun W => index_of T _ hk W) (hide CP) (hide fixed_true) (by rw [beq_iff_eq, ← he, hu8])
    · have hfl := hsp hk he
      have hpar : Pk.parse (T.set (r % 20) (UInt8.ofNat c)) = (.none, flawOf (T.set (r % 20) (UInt8.ofNat c))) := if_neg hfl
      rw [hpar] at CP
      exact walk_other a b o t q s d x y (bs B) (bs l) (bs T) _ _ _ _ _ z c r (r % 20) (r % 20 + 1) _ _ _ _ _ _ _ _ _ _ _ _ w hg (hide CU) (hide CB) (by rw [bs_size]; omega) (by rw [bs_size]; omega) (by simp) (by rw [IntKind.wrap_i64]; omega) hr (fun W => cut_to T _ (Nat.le_of_lt hk) W) (fun W => cut_from T _ hk W) (one_byte c hcc) g1 g2 (fun W => index_of T _ hk W) (hide CP) (hide fixed_true)
        (by
          rw [beq_eq_false_iff_ne]
          intro h
          exact he (UInt8.toNat_inj.1 (by rw [hu8]; omega))) (by simpa using hfl)
  · have CB := fun W (g : Et W) => inetBuild_bad _ W hf g hc
    exact walk_bad a b o t q s d x y (bs B) (bs l) _ z c w hg (hide CU) (hide CB) (by simpa using hc) (hide fixed_true)
set_option maxRecDepth 100000 in
theorem lifted (os : Os) (started : os.Started) (H : Type) (enc : TypeId × Value → H) :
    ReturnsInHanded {} Tryd.checked os 7 .any (fun w args => (Rows.inetSpoiltSpec.pre enc Tryd.prog Tryd.f7 [] false w args ∧ laidMetH Tryd.prog [("errors.errorType", Rows.laid_errors_errorType)] w) ∧ sizedMet enc Tryd.prog Tryd.f7 (OpenSpec.ofChange Rows.inetSpoiltSpec) false w args)
      (Rows.inetSpoiltSpec.post enc Tryd.prog Tryd.f7 false true false false) := by
  refine returnsInHanded_of_change_and (C := Tryd.checked) (X := fun w _ => laidMetH Tryd.prog [("errors.errorType", Rows.laid_errors_errorType)] w) (fun _ _ _ hh h => h.of_heap hh) own started (by kernel_rfl) Tryd.func7
    (ChangeSpec.witness_at (enc := enc) (C := Tryd.checked) (os := os) (X := fun w _ => laidMetH Tryd.prog [("errors.errorType", Rows.laid_errors_errorType)] w) false
      { World.holding Tryd.prog os ⟨#[], #[], []⟩ with heap := (World.holding Tryd.prog os ⟨#[], #[], []⟩).heap.modify 0 fun
        | .cells _ t frozen => .cells #[.iface 89 (.agg #[.pointer (some ⟨1, 41, none⟩)])] t frozen
        | o => o } #[.agg #[.int .i64 0, .int .i64 0, .bool false, .bool false, .int .i64 0, .int .i64 0, .int .i64 0, .int .u32 0, .int .u32 0, .string ByteArray.empty], .int .i64 0, .int .u8 0] 8 rfl (by kernel_rfl) (by kernel_rfl) (by kernel_rfl) (by kernel_rfl) (by kernel_rfl) (laid_met os _)) ?_
  intro W base args ds gs before hval0 hW _ _ hL _
  have hval : ∀ (j : Nat) t v, Tryd.f7.params[j]? = some t → args[j]? = some v → Value.okWide Tryd.prog W .any base t v := hval0
  have hW' := hW
  obtain ⟨p, q, hA0, hV0, rfl, hfz, hnd⟩ := hW
  have hA : DataW.TrodAll enc Tryd.prog W 0 (fun _ => true) true Tryd.f7.params.toList args.toList ds p := hA0
  have hV : DataW.TrodVars enc Tryd.prog W (fun _ => true) [] gs q := hV0
  rw [Tryd.params7] at hA hval
  obtain ⟨v0, v1, v2, d0, d1, d2, p0, p1, p2, rfl, rfl, rfl, h0, h1, h2⟩ := trodAll_three hA
  obtain ⟨a0, rfl, rfl, rfl, hs0, hd0, hw0⟩ := open_ip (hval 0 24 v0 rfl rfl) h0
  obtain ⟨a1, rfl, rfl, rfl, w1⟩ := open_int Tryd.underlying3 (hval 1 3 v1 rfl rfl) h1
  have b1 := bounds_i64 w1
  obtain ⟨a2, rfl, rfl, rfl, w2⟩ := open_int Tryd.underlying5 (hval 2 5 v2 rfl rfl) h2
  have b2 := bounds_u8 w2
  obtain ⟨m2, rfl⟩ : ∃ m : Nat, a2 = m := ⟨a2.toNat, by omega⟩
  obtain ⟨rfl, rfl⟩ := trodVars_none hV
  have e1 : Rows.inetSpoiltSpec.fn H ([ipD a0, .lit (.int .i64 a1), .lit (.int .u8 (m2 : Int))] ++ []) = { results := [.lit (.bool true)], args := [ipD a0, .lit (.int .i64 a1), .lit (.int .u8 (m2 : Int))] } := by simp [Rows.inetSpoiltSpec]
  refine (walk a0 a1 m2 W (et_of_laid hL) hs0 hd0 (by omega) (by omega) (by omega)).mono fun e W' ⟨he, hb⟩ => ?_
  subst he
  refine ⟨_, rfl, _, _, _, [], [], [], hW', ?_, ?_, ?_, hb.frame _, fun h => by cases h⟩
  · rw [e1]; exact trodAll_mk1 (shut_bool Tryd.underlying4 true)
  · rw [e1]; exact trodAll_mk3 (shut_ip a0 hw0) (shut_int Tryd.underlying3 w1) (shut_int Tryd.underlying5 w2)
  · rw [e1]; rfl

theorem said : Rows.InetSpoiltSaid :=
  OpenClaim.holds_of_wide 7 Tryd.f7 rfl rfl rfl rfl rfl rfl rfl ⟨rfl, rfl, rfl, rfl, rfl⟩ rfl rfl rfl rfl rfl (by kernel_rfl) Tryd.func7 (by kernel_rfl)
    (of_decide_eq_true (by kernel_rfl)) (by unfold Func.isWrapper; rw [if_neg (of_decide_eq_false (by kernel_rfl))]; exact ⟨rfl, rfl⟩)
    (fun os started H enc _ => lifted os started H enc)

theorem plain (f : FuncId) (fn : Func) (hf : Tryd.pinned.checked.prog.funcNamed Rows.inetSpoiltRow.func = some f) (hfn : Tryd.pinned.checked.prog.funcs[f]? = some fn) :
    true = Tryd.pinned.checked.prog.looks [] ∧ ∀ (j : Nat) t, fn.params[j]? = some t → Tryd.pinned.checked.prog.wantsStandIn t = false := by
  obtain rfl : f = 7 := Option.some.inj ((show Tryd.prog.funcNamed Rows.inetSpoiltRow.func = some 7 by kernel_rfl).symm.trans hf) |>.symm
  obtain rfl : fn = Tryd.f7 := (Option.some.inj (Tryd.func7.symm.trans hfn)).symm
  refine ⟨by kernel_rfl, fun j t ht => ?_⟩
  rw [Tryd.params7] at ht
  have hm := Array.mem_of_getElem? ht
  simp only [List.mem_toArray, List.mem_cons, List.not_mem_nil, or_false] at hm
  rcases hm with rfl | rfl | rfl
  · exact (show Tryd.prog.wantsStandIn 24 = false by kernel_rfl)
  · exact (show Tryd.prog.wantsStandIn 3 = false by kernel_rfl)
  · exact (show Tryd.prog.wantsStandIn 5 = false by kernel_rfl)

theorem card : Rows.InetSpoiltCardSaid :=
  Claim7.holds_tied_plain_at .later [] _ _ _ _ said (fun _ h => by cases h) (by kernel_rfl) (fun _ h => by cases h) inetSpoilt_row_tie rfl ⟨rfl, rfl⟩ (by kernel_rfl) rfl plain (by kernel_rfl)
end Go.Proofs.YtojipoifjioglaaDoor.inetSpoilt
namespace Go.Proofs.YtojipoifjioglaaDoor
theorem inetSpoilt_card_holds : Rows.InetSpoiltCardSaid := inetSpoilt.card
end Go.Proofs.YtojipoifjioglaaDoor
