/-
  FdbApart: what is learnt in a VLAN makes no difference in another one, nor does one address to another one, as long as there is room. No condition.
-/
import Derived.Test.YtpddbfdgaeldjaaSame11
import Derived.Test.YtpddbfdgaeldjaaRef11
import Derived.Test.YtpddbfdgaeldjaaRow11
namespace Go.Proofs.Ytpddbfdgaeldjaa.fdbApart
open Go.ChangeShapes Go.WideShapes Go.ChangeAt Go.RowKit Go.Deep Go.Sort

theorem u32_and31 (n : Int) (h : 0 ≤ n ∧ n < 4294967296) : bits .and .u32 n 31 = n % 32 := by
  have h1 : (BitVec.ofInt 32 31).toNat = 2 ^ 5 - 1 := by decide
  have key : (BitVec.ofInt 32 n &&& BitVec.ofInt 32 31).toNat = (n % ((2 ^ 32 : Nat) : Int)).toNat % 2 ^ 5 := by
    rw [BitVec.toNat_and, BitVec.toNat_ofInt, h1, Nat.and_two_pow_sub_one_eq_mod]
  show IntKind.u32.wrap ((BitVec.ofInt 32 n &&& BitVec.ofInt 32 31).toNat : Nat) = n % 32
  rw [key, IntKind.wrap_u32]
  omega
/-- two targets in blocks of their own -/
structure Two (W1 : World) (X Y : Nat) (a b : Int) (W : World) : Prop where
  below : Below W1.heap.size W1 W
  x : W.heap[X]? = some (.cells #[.int .i64 0, .int .u32 a] 42 (0, 0))
  y : W.heap[Y]? = some (.cells #[.int .i64 0, .int .u32 b] 42 (0, 0))
theorem two_set {W1 w6 : World} {X Y : Nat} {a b : Int} (e : Below W1.heap.size W1 w6) (lx : W1.heap.size ≤ X) (ly : W1.heap.size ≤ Y) (rx : w6.heap[X]? = some (.cells #[.int .i64 0, .int .u32 0] 42 (0, 0))) (ry : w6.heap[Y]? = some (.cells #[.int .i64 0, .int .u32 0] 42 (0, 0))) (ne : X ≠ Y) :
    Two W1 X Y a b ((((w6.setCell ⟨X, 0, none⟩ (.int .i64 0)).setCell ⟨X, 1, none⟩ (.int .u32 a)).setCell ⟨Y, 0, none⟩ (.int .i64 0)).setCell ⟨Y, 1, none⟩ (.int .u32 b)) :=
  ⟨below2 (below2 e lx) ly, other2 ne (set2 rx), set2 (other2 ne.symm ry)⟩
theorem size_set2 (w : World) (p q : Addr) (u v : Value) : ((w.setCell p u).setCell q v).heap.size = w.heap.size := by simp [World.setCell]
theorem two_left {W1 w6 : World} {X : Nat} {a b : Int} (e : Below W1.heap.size W1 w6) (lx : W1.heap.size ≤ X) (rx : w6.heap[X]? = some (.cells #[.int .i64 0, .int .u32 0] 42 (0, 0))) :
    Two W1 X w6.heap.size a b (((w6.setCell ⟨X, 0, none⟩ (.int .i64 0)).setCell ⟨X, 1, none⟩ (.int .u32 a)).alloc (.cells #[.int .i64 0, .int .u32 b] 42)) :=
  ⟨alloc_then (below2 e lx), Below.row (alloc_below _ _) (set2 rx), heap_last _ _ _ (size_set2 w6 _ _ _ _)⟩
theorem two_right {W1 w6 : World} {Y : Nat} {a b : Int} (e : Below W1.heap.size W1 w6) (ly : W1.heap.size ≤ Y) (ry : w6.heap[Y]? = some (.cells #[.int .i64 0, .int .u32 0] 42 (0, 0))) :
    Two W1 w6.heap.size Y a b (((w6.setCell ⟨Y, 0, none⟩ (.int .i64 0)).setCell ⟨Y, 1, none⟩ (.int .u32 b)).alloc (.cells #[.int .i64 0, .int .u32 a] 42)) :=
  ⟨alloc_then (below2 e ly), heap_last _ _ _ (size_set2 w6 _ _ _ _), Below.row (alloc_below _ _) (set2 ry)⟩
theorem ap1 (A : Int) : putP 8 100 [] ⟨281474976710658, A, 0, false⟩ = (0, [⟨281474976710658, A, 0, false⟩]) := rfl
theorem ap2 (A B : Int) : putP 8 100 [⟨281474976710658, A, 0, false⟩] ⟨562949953421314, B, 0, false⟩ = (0, [⟨281474976710658, A, 0, false⟩, ⟨562949953421314, B, 0, false⟩]) := rfl
theorem ap3 (A B : Int) : putP 8 100 [⟨281474976710658, A, 0, false⟩, ⟨562949953421314, B, 0, false⟩] ⟨281474976710662, B, 1, false⟩ = (0, [⟨281474976710658, A, 0, false⟩, ⟨281474976710662, B, 1, false⟩, ⟨562949953421314, B, 0, false⟩]) := rfl
theorem at1 : entO (told 100 0 (look [] 281474976710658)) = .tuple #[.agg #[.int .u64 0, .int .u64 0, .int .i64 0, .bool false], .bool false] := rfl
theorem at2 (A : Int) : entO (told 100 0 (look [⟨281474976710658, A, 0, false⟩] 562949953421314)) = .tuple #[.agg #[.int .u64 0, .int .u64 0, .int .i64 0, .bool false], .bool false] := rfl
theorem at3 (A B : Int) : entO (told 100 1 (look [⟨281474976710658, A, 0, false⟩, ⟨562949953421314, B, 0, false⟩] 281474976710662)) = .tuple #[.agg #[.int .u64 0, .int .u64 0, .int .i64 0, .bool false], .bool false] := rfl
theorem af1 (A B : Int) : told 100 5 (look [⟨281474976710658, A, 0, false⟩, ⟨281474976710662, B, 1, false⟩, ⟨562949953421314, B, 0, false⟩] (1 * 281474976710656 + 2)) = some ⟨281474976710658, A, 0, false⟩ := rfl
theorem af2 (A B : Int) : told 100 5 (look [⟨281474976710658, A, 0, false⟩, ⟨281474976710662, B, 1, false⟩, ⟨562949953421314, B, 0, false⟩] (2 * 281474976710656 + 2)) = some ⟨562949953421314, B, 0, false⟩ := rfl
theorem af3 (A B : Int) : told 100 5 (look [⟨281474976710658, A, 0, false⟩, ⟨281474976710662, B, 1, false⟩, ⟨562949953421314, B, 0, false⟩] (1 * 281474976710656 + 6)) = some ⟨281474976710662, B, 1, false⟩ := rfl
theorem af4 (A : Int) : told 100 5 (look [⟨281474976710658, A, 0, false⟩] (1 * 281474976710656 + 2)) = some ⟨281474976710658, A, 0, false⟩ := rfl
theorem af5 : told 100 5 (look [] (1 * 281474976710656 + 2)) = none := rfl
theorem ak_same (A B : Int) (h : A = B) : kept (hasVal (0 * 4294967296 + B)) [⟨281474976710658, A, 0, false⟩, ⟨281474976710662, B, 1, false⟩, ⟨562949953421314, B, 0, false⟩] = [] := by
  subst h
  simp [kept, hasVal]
theorem ak_other (A B : Int) (h : A ≠ B) : kept (hasVal (0 * 4294967296 + B)) [⟨281474976710658, A, 0, false⟩, ⟨281474976710662, B, 1, false⟩, ⟨562949953421314, B, 0, false⟩] = [⟨281474976710658, A, 0, false⟩] := by
  simp [kept, hasVal, h]
set_option maxHeartbeats 4000000 in
set_option maxRecDepth 100000 in
theorem walk_at (o p : Op6) (w : World) (ho : o.ok) (hp : p.ok) (A B : Int) (hA : 1 + o.tn % 32 = A) (hB : 1 + p.tn % 32 = B) : Calls Try.prog 5 #[.agg #[.int .i64 o.kind, .int .i64 o.vid, .int .u64 o.mac, .int .i64 o.tk, .int .u32 o.tn, .int .i64 o.now], .agg #[.int .i64 p.kind, .int .i64 p.vid, .int .u64 p.mac, .int .i64 p.tk, .int .u32 p.tn, .int .i64 p.now]] w fun e w' => e = .returned (.bool true) ∧ Below w.heap.size w w' := by
  have a1 := u32_and31 o.tn ho.2
  have a2 := u32_and31 p.tn hp.2
  obtain ⟨x, hx⟩ : ∃ x, o.tn % 32 = x := ⟨_, rfl⟩
  obtain ⟨y, hy⟩ : ∃ y, p.tn % 32 = y := ⟨_, rfl⟩
  have x0 : 0 ≤ x ∧ x < 32 := by omega
  have y0 : 0 ≤ y ∧ y < 32 := by omega
  rw [hx] at a1 hA
  rw [hy] at a2 hB
  have xw : IntKind.u32.wrap (1 + x) = A := by rw [IntKind.wrap_u32]; omega
  have yw : IntKind.u32.wrap (1 + y) = B := by rw [IntKind.wrap_u32]; omega
  have r0 := heap_alloc2_old w (.cells #[.int .i64 o.kind, .int .i64 o.vid, .int .u64 o.mac, .int .i64 o.tk, .int .u32 o.tn, .int .i64 o.now] 44) (.cells #[.int .i64 p.kind, .int .i64 p.vid, .int .u64 p.mac, .int .i64 p.tk, .int .u32 p.tn, .int .i64 p.now] 44)
  have r1 := heap_alloc2_new w (.cells #[.int .i64 o.kind, .int .i64 o.vid, .int .u64 o.mac, .int .i64 o.tk, .int .u32 o.tn, .int .i64 o.now] 44) (.cells #[.int .i64 p.kind, .int .i64 p.vid, .int .u64 p.mac, .int .i64 p.tk, .int .u32 p.tn, .int .i64 p.now] 44)
  have b0 := alloc_then (o := .cells #[.int .i64 p.kind, .int .i64 p.vid, .int .u64 p.mac, .int .i64 p.tk, .int .u32 p.tn, .int .i64 p.now] 44) (alloc_below w (.cells #[.int .i64 o.kind, .int .i64 o.vid, .int .u64 o.mac, .int .i64 o.tk, .int .u32 o.tn, .int .i64 o.now] 44))
  have C0 := hide (fnew_ok (w := w) 8 100 3 10 b0 (by unfold keepOk newOk; omega))
  have CP := hide port_any
  have tA : Tgt 0 A := .inl ⟨rfl, by omega, by omega⟩
  have tB : Tgt 0 B := .inl ⟨rfl, by omega, by omega⟩
  have nA : 0 ≤ A ∧ A < 4294967296 := by omega
  have nB : 0 ≤ B ∧ B < 4294967296 := by omega
  have dA : A / 4294967296 = 0 ∧ A % 4294967296 = A := by omega
  have dB : B / 4294967296 = 0 ∧ B % 4294967296 = B := by omega
  have vA : 0 * 4294967296 + A = A := by omega
  have vB : 0 * 4294967296 + B = B := by omega
  have C1 := hide (fun g pp bb mr v W (h : Fdb w g pp bb mr v 3 10 8 100 [] [] W) => learn_new (vid := 1) (mac := 2) (k := 0) (n := A) (now := 0) W h (by omega) nA fx_m12 tA rfl vA at1 (ap1 A) rfl)
  have C2 := hide (fun g pp bb mr v W (h : Fdb w g pp bb mr v 3 10 8 100 [⟨281474976710658, A, 0, false⟩] [] W) => learn_new (vid := 2) (mac := 2) (k := 0) (n := B) (now := 0) W h (by omega) nB fx_m22 tB rfl vB (at2 A) (ap2 A B) rfl)
  have C3 := hide (fun g pp bb mr v W (h : Fdb w g pp bb mr v 3 10 8 100 [⟨281474976710658, A, 0, false⟩, ⟨562949953421314, B, 0, false⟩] [] W) => learn_new (vid := 1) (mac := 6) (k := 0) (n := B) (now := 1) W h (by omega) nB (by kernel_rfl) tB rfl vB (at3 A B) (ap3 A B) rfl)
  have F1 := hide (fun g pp bb mr v W (h : Fdb w g pp bb mr v 3 10 8 100 [⟨281474976710658, A, 0, false⟩, ⟨281474976710662, B, 1, false⟩, ⟨562949953421314, B, 0, false⟩] [] W) => find_may (vid := 1) (mac := 2) (now := 5) W h (by omega) fx_m12)
  have F2 := hide (fun g pp bb mr v W (h : Fdb w g pp bb mr v 3 10 8 100 [⟨281474976710658, A, 0, false⟩, ⟨281474976710662, B, 1, false⟩, ⟨562949953421314, B, 0, false⟩] [] W) => find_may (vid := 2) (mac := 2) (now := 5) W h (by omega) fx_m22)
  have F3 := hide (fun g pp bb mr v W (h : Fdb w g pp bb mr v 3 10 8 100 [⟨281474976710658, A, 0, false⟩, ⟨281474976710662, B, 1, false⟩, ⟨562949953421314, B, 0, false⟩] [] W) => find_may (vid := 1) (mac := 6) (now := 5) W h (by omega) (by kernel_rfl))
  have FL := hide (fun g pp bb mr v W (h : Fdb w g pp bb mr v 3 10 8 100 [⟨281474976710658, A, 0, false⟩, ⟨281474976710662, B, 1, false⟩, ⟨562949953421314, B, 0, false⟩] [] W) => flush_yes (k := 0) (n := B) W h nB tB)
  have F4 := hide (fun g pp bb mr v W (h : Fdb w g pp bb mr v 3 10 8 100 [⟨281474976710658, A, 0, false⟩] [] W) => find_may (vid := 1) (mac := 2) (now := 5) W h (by omega) fx_m12)
  have F5 := hide (fun g pp bb mr v W (h : Fdb w g pp bb mr v 3 10 8 100 [] [] W) => find_may (vid := 1) (mac := 2) (now := 5) W h (by omega) fx_m12)
  have CE := hide (fun g pp bb mr v W (h : Fdb w g pp bb mr v 3 10 8 100 [⟨281474976710658, A, 0, false⟩, ⟨281474976710662, B, 1, false⟩, ⟨562949953421314, B, 0, false⟩] [] W) => places_any W 3 h rfl)
  have CF := hide (fun W => fixed_any W)
  rw [af1 A B] at F1
  rw [af2 A B] at F2
  rw [af3 A B] at F3
  rw [af4 A] at F4
  rw [af5] at F5
  simp only [foundO, dA.1, dA.2] at F1 F4
  simp only [foundO, dB.1, dB.2] at F2 F3
  simp only [foundO] at F5
  have qA := neq_port A A false (by simp)
  have qB := neq_port B B false (by simp)
  have R0 := hide r0
  have P0 := hide r1
  clear r0 r1 b0 ho hp hx hy hA hB tA tB nA nB dA dB vA vB
  go_enter Try.func5, Try.ntmps5
  go_wp2_with fail
  refine (unhide C0).mono ?_
  rintro e w1 ⟨g, rfl, ⟨pp, bb, h1⟩, b1, _⟩
  have c1 := cells6 (Below.row b1 (unhide R0))
  have d1 := cells6 (Below.row b1 (unhide P0))
  have s4 := c1.2.2.2.2.1
  have t4 := d1.2.2.2.2.1
  have H1 := hide h1
  clear h1 b1 C0 R0 P0 c1 d1
  go_upto_region 4 with fail
  have keepG : Hid (∀ W2, Below w1.heap.size w1 W2 → W2.cell? ⟨w.heap.size, 4, none⟩ = some (.int .u32 o.tn) ∧ W2.cell? ⟨w.heap.size + 1, 4, none⟩ = some (.int .u32 p.tn)) := fun W2 h =>
    ⟨(h.cell (p := ⟨w.heap.size, 4, none⟩) (block_lt_of_cell s4)).trans s4, (h.cell (p := ⟨w.heap.size + 1, 4, none⟩) (block_lt_of_cell t4)).trans t4⟩
  go_cut [7, 8] (fun u v wx => ∃ X Y : Nat, u = .pointer (some ⟨X, 0, none⟩) ∧ v = .pointer (some ⟨Y, 0, none⟩) ∧ Two w1 X Y A B wx)
  case first =>
    go_region_held3 (fun w' => w'.cell? ⟨w.heap.size, 4, none⟩ = some (.int .u32 o.tn) ∧ w'.cell? ⟨w.heap.size + 1, 4, none⟩ = some (.int .u32 p.tn))
      ((refine unhide keepG _ ?_; (repeat (first | (with_reducible exact Below.refl _ _) | (with_reducible refine Below.drew ?_) | (with_reducible refine alloc_then ?_) | (with_reducible exact e6) | (with_reducible exact e5) | (with_reducible refine Below.setCell ?_ (by first | (show w1.heap.size ≤ w1.heap.size; exact Nat.le_refl _) | (show w1.heap.size ≤ w1.heap.size + 1; exact Nat.le_succ _) | (show w1.heap.size ≤ w5.heap.size; exact l5) | (show w1.heap.size ≤ w5.heap.size + 1; exact Nat.le_succ_of_le l5) | (show w1.heap.size ≤ w6.heap.size; exact l6) | (show w1.heap.size ≤ w6.heap.size + 1; exact Nat.le_succ_of_le l6)) _))); done))
      ((first
        | (go_at_call_of 13 A; refine (unhide CP _ _).mono ?_; rintro e w5 ⟨rfl, B5⟩; have e5 : Below w1.heap.size w1 w5 := (by refine bthen ?_ B5; (repeat (first | (with_reducible exact Below.refl _ _) | (with_reducible refine Below.drew ?_) | (with_reducible refine alloc_then ?_)))); have l5 := e5.size; first | (have ra := Below.row B5 (heap_alloc2_old w1 (.cells #[.int .i64 0, .int .u32 0] 42) (.cells #[.int .i64 0, .int .u32 0] 42)); have rb := Below.row B5 (heap_alloc2_new w1 (.cells #[.int .i64 0, .int .u32 0] 42) (.cells #[.int .i64 0, .int .u32 0] 42))) | (have ra := Below.row B5 (heap_alloc_new w1 (.cells #[.int .i64 0, .int .u32 0] 42))) | skip)
        | (go_at_call_of 13 B; refine (unhide CP _ _).mono ?_; rintro e w6 ⟨rfl, B6⟩; have e6 : Below w1.heap.size w1 w6 := (by refine bthen ?_ B6; (repeat (first | (with_reducible exact Below.refl _ _) | (with_reducible exact e5) | (with_reducible refine Below.drew ?_) | (with_reducible refine alloc_then ?_)))); have l6 := e6.size; first | (have rc := Below.row B6 ra; have rd := Below.row B6 rb; have n1 := lt_of_row rc; have n2 := lt_of_row rd; have c := cells2 rc; have d := cells2 rd) | (have rc := Below.row B6 (Below.row (alloc_below w5 (.cells #[.int .i64 0, .int .u32 0] 42)) ra); have rd := Below.row B6 (heap_alloc_new w5 (.cells #[.int .i64 0, .int .u32 0] 42)); have n1 := lt_of_row rc; have n2 := lt_of_row rd; have n5 := Nat.ne_of_lt (lt_of_row ra); have n6 := Nat.ne_of_gt (lt_of_row ra); have c := cells2 rc; have d := cells2 rd) | (have rc := Below.row B6 ra; have n1 := lt_of_row rc; have c := cells2 rc; have k1 := cells2 (Below.row (alloc_below w6 (.cells #[.int .i64 0, .int .u32 0] 42)) rc); have k2 := cells2 (Below.row (alloc_below w6 (.cells #[.int .i64 0, .int .u32 A] 42)) rc); have k3 := cells2 (Below.row (alloc_below w6 (.cells #[.int .i64 0, .int .u32 B] 42)) rc); have n3 := Nat.ne_of_lt n1; have n4 := Nat.ne_of_gt n1) | (have rc := Below.row B6 (heap_alloc2_old w5 (.cells #[.int .i64 0, .int .u32 0] 42) (.cells #[.int .i64 0, .int .u32 0] 42)); have rd := Below.row B6 (heap_alloc2_new w5 (.cells #[.int .i64 0, .int .u32 0] 42) (.cells #[.int .i64 0, .int .u32 0] 42)); have n1 := lt_of_row rc; have n2 := lt_of_row rd; have c := cells2 rc; have d := cells2 rd) | (have rc := Below.row B6 (heap_alloc_new w5 (.cells #[.int .i64 0, .int .u32 0] 42)); have n1 := lt_of_row rc; have c := cells2 rc; have k1 := cells2 (Below.row (alloc_below w6 (.cells #[.int .i64 0, .int .u32 0] 42)) rc); have k2 := cells2 (Below.row (alloc_below w6 (.cells #[.int .i64 0, .int .u32 A] 42)) rc); have k3 := cells2 (Below.row (alloc_below w6 (.cells #[.int .i64 0, .int .u32 B] 42)) rc); have n3 := Nat.ne_of_lt n1; have n4 := Nat.ne_of_gt n1) | skip)))
    all_goals
      go_wp2_with fail
      go_meet
      first
        | exact ⟨_, _, rfl, rfl, two_set e6 (by omega) (by omega) (by first | exact rc | exact rd) (by first | exact rd | exact rc) (by omega)⟩
        | exact ⟨_, _, rfl, rfl, two_left e6 (by omega) rc⟩
        | exact ⟨_, _, rfl, rfl, two_right e6 (by omega) rc⟩
        | exact ⟨_, _, rfl, rfl, ⟨alloc_then (alloc_then e6), heap_alloc2_old w6 _ _, heap_alloc2_new w6 _ _⟩⟩
        | exact ⟨_, _, rfl, rfl, ⟨alloc_then (alloc_then e6), heap_alloc2_new w6 _ _, heap_alloc2_old w6 _ _⟩⟩
  case rest =>
    obtain ⟨X, Y, rfl, rfl, T⟩ := hcut
    have H2 := hide ((unhide H1).below T.below)
    have RX := hide T.x
    have RY := hide T.y
    obtain ⟨x0, x1, _⟩ := cells2 T.x
    clear T H1 s4 t4 keepG CP
    go_wp2_with fail
    refine (unhide C1 _ _ _ _ _ _ (unhide H2)).mono ?_
    rintro e w2 ⟨rfl, h2, t2⟩
    have RX2 := hide (t2 _ _ rfl ((unhide H2).ne (by decide) (unhide RX)) (unhide RX))
    have RY2 := hide (t2 _ _ rfl ((unhide H2).ne (by decide) (unhide RY)) (unhide RY))
    have H3 := hide h2
    clear h2 t2 x0 x1 H2 RX RY C1
    obtain ⟨x0, x1, _⟩ := cells2 (unhide RY2)
    go_wp2_with fail
    refine (unhide C2 _ _ _ _ _ _ (unhide H3)).mono ?_
    rintro e w3 ⟨rfl, h3, t3⟩
    have RX3 := hide (t3 _ _ rfl ((unhide H3).ne (by decide) (unhide RX2)) (unhide RX2))
    have RY3 := hide (t3 _ _ rfl ((unhide H3).ne (by decide) (unhide RY2)) (unhide RY2))
    have H4 := hide h3
    clear h3 t3 x0 x1 H3 RX2 RY2 C2
    obtain ⟨x0, x1, _⟩ := cells2 (unhide RY3)
    go_wp2_with fail
    refine (unhide C3 _ _ _ _ _ _ (unhide H4)).mono ?_
    rintro e w4 ⟨rfl, h4, t4⟩
    have RX4 := hide (t4 _ _ rfl ((unhide H4).ne (by decide) (unhide RX3)) (unhide RX3))
    have RY4 := hide (t4 _ _ rfl ((unhide H4).ne (by decide) (unhide RY3)) (unhide RY3))
    have H5 := hide h4
    clear h4 t4 x0 x1 H4 RX3 RY3 C3
    go_wp2_with fail
    refine (unhide F1 _ _ _ _ _ _ (unhide H5)).mono ?_
    rintro e w5 ⟨rfl, b5⟩
    have T5 := bthen b5 (alloc_below w5 (.cells #[.int .i64 0, .int .u32 A] 42))
    have H6 := hide ((unhide H5).below T5)
    have RX5 := hide (Below.row T5 (unhide RX4))
    have RY5 := hide (Below.row T5 (unhide RY4))
    have R1 := hide (heap_alloc_new w5 (.cells #[.int .i64 0, .int .u32 A] 42))
    clear b5 T5 H5 RX4 RY4 F1
    go_wp2_with fail
    refine (unhide F2 _ _ _ _ _ _ (unhide H6)).mono ?_
    rintro e w6 ⟨rfl, b6⟩
    have T6 := bthen b6 (alloc_below w6 (.cells #[.int .i64 0, .int .u32 B] 42))
    have H7 := hide ((unhide H6).below T6)
    have RX6 := hide (Below.row T6 (unhide RX5))
    have RY6 := hide (Below.row T6 (unhide RY5))
    have R2 := hide (Below.row T6 (unhide R1))
    have Q2 := hide (heap_alloc_new w6 (.cells #[.int .i64 0, .int .u32 B] 42))
    clear b6 T6 H6 RX5 RY5 R1 F2
    go_wp2_with fail
    refine (unhide F3 _ _ _ _ _ _ (unhide H7)).mono ?_
    rintro e w7 ⟨rfl, b7⟩
    have T7 := bthen b7 (alloc_below w7 (.cells #[.int .i64 0, .int .u32 B] 42))
    have H8 := hide ((unhide H7).below T7)
    have RX7 := Below.row T7 (unhide RX6)
    have RY7 := Below.row T7 (unhide RY6)
    have R3 := Below.row T7 (unhide R2)
    have Q3 := Below.row T7 (unhide Q2)
    have P3 := heap_alloc_new w7 (.cells #[.int .i64 0, .int .u32 B] 42)
    obtain ⟨x0, x1, _⟩ := cells2 RX7
    obtain ⟨y0, y1, _⟩ := cells2 RY7
    obtain ⟨z0, z1, _⟩ := cells2 R3
    obtain ⟨u0, u1, _⟩ := cells2 Q3
    obtain ⟨v0, v1, _⟩ := cells2 P3
    have RX8 := hide RX7
    have RY8 := hide RY7
    clear b7 T7 H7 RX6 RY6 R2 Q2 F3 RX7 RY7 R3 Q3 P3
    go_wp2_with fail
    refine (unhide CE _ _ _ _ _ _ (unhide H8)).mono ?_
    rintro e w8 ⟨r8, rfl, b8⟩
    have H9 := hide ((unhide H8).below b8)
    have RX9 := hide (Below.row b8 (unhide RX8))
    have RY9 := hide (Below.row b8 (unhide RY8))
    clear b8 x0 x1 y0 y1 z0 z1 u0 u1 v0 v1 H8 RX8 RY8 CE
    obtain ⟨x0, x1, _⟩ := cells2 (unhide RY9)
    go_wp2_with fail
    by_cases hAB : A = B
    · have eq1 := eql_port A B true (by rw [hAB]; simp)
      have ne1 := neq_port A B false (by rw [hAB]; simp)
      have cn : ((([⟨281474976710658, A, 0, false⟩, ⟨281474976710662, B, 1, false⟩, ⟨562949953421314, B, 0, false⟩] : List Ent).length : Int) - ((([] : List Ent)).length : Int)) = 3 := by simp
      rw [ak_same A B hAB, cn] at FL
      clear cn hAB F4
      refine (unhide FL _ _ _ _ _ _ (unhide H9)).mono ?_
      rintro e w9 ⟨rfl, h9, t9⟩
      have RX10 := hide (t9 _ _ rfl ((unhide H9).ne (by decide) (unhide RX9)) (unhide RX9))
      have RY10 := hide (t9 _ _ rfl ((unhide H9).ne (by decide) (unhide RY9)) (unhide RY9))
      have H10 := hide h9
      clear h9 t9 x0 x1 H9 RX9 RY9 FL
      go_wp2_with fail
      refine (unhide F5 _ _ _ _ _ _ (unhide H10)).mono ?_
      rintro e w10 ⟨rfl, b10⟩
      have T10 := bthen b10 (alloc_below w10 (.cells #[.int .i64 0, .int .u32 0] 42))
      have H11 := hide ((unhide H10).below T10)
      obtain ⟨x0, x1, _⟩ := cells2 (Below.row T10 (unhide RX10))
      obtain ⟨y0, y1, _⟩ := cells2 (Below.row T10 (unhide RY10))
      clear b10 T10 H10 RX10 RY10 F5
      go_wp2_with fail
      refine (unhide CF _).mono ?_
      rintro e w11 ⟨rfl, b11⟩
      have H12 := hide ((unhide H11).below b11)
      clear b11 H11 CF x0 x1 y0 y1
      go_wp2_with fail
      go_ret
      exact ⟨rfl, (unhide H12).has.1⟩
    · have eq1 := eql_port A B false (by simpa using hAB)
      have ne1 := neq_port A B true (by simpa using hAB)
      have cn : ((([⟨281474976710658, A, 0, false⟩, ⟨281474976710662, B, 1, false⟩, ⟨562949953421314, B, 0, false⟩] : List Ent).length : Int) - ((([⟨281474976710658, A, 0, false⟩] : List Ent)).length : Int)) = 2 := by simp
      rw [ak_other A B hAB, cn] at FL
      clear cn hAB F5
      refine (unhide FL _ _ _ _ _ _ (unhide H9)).mono ?_
      rintro e w9 ⟨rfl, h9, t9⟩
      have RX10 := hide (t9 _ _ rfl ((unhide H9).ne (by decide) (unhide RX9)) (unhide RX9))
      have RY10 := hide (t9 _ _ rfl ((unhide H9).ne (by decide) (unhide RY9)) (unhide RY9))
      have H10 := hide h9
      clear h9 t9 x0 x1 H9 RX9 RY9 FL
      go_wp2_with fail
      refine (unhide F4 _ _ _ _ _ _ (unhide H10)).mono ?_
      rintro e w10 ⟨rfl, b10⟩
      have T10 := bthen b10 (alloc_below w10 (.cells #[.int .i64 0, .int .u32 A] 42))
      have H11 := hide ((unhide H10).below T10)
      obtain ⟨x0, x1, _⟩ := cells2 (Below.row T10 (unhide RX10))
      obtain ⟨y0, y1, _⟩ := cells2 (Below.row T10 (unhide RY10))
      clear b10 T10 H10 RX10 RY10 F4
      go_wp2_with fail
      refine (unhide CF _).mono ?_
      rintro e w11 ⟨rfl, b11⟩
      have H12 := hide ((unhide H11).below b11)
      clear b11 H11 CF x0 x1 y0 y1
      go_wp2_with fail
      go_ret
      exact ⟨rfl, (unhide H12).has.1⟩
theorem walk (o p : Op6) (w : World) (ho : o.ok) (hp : p.ok) : Calls Try.prog 5 #[.agg #[.int .i64 o.kind, .int .i64 o.vid, .int .u64 o.mac, .int .i64 o.tk, .int .u32 o.tn, .int .i64 o.now], .agg #[.int .i64 p.kind, .int .i64 p.vid, .int .u64 p.mac, .int .i64 p.tk, .int .u32 p.tn, .int .i64 p.now]] w fun e w' => e = .returned (.bool true) ∧ Below w.heap.size w w' := walk_at o p w ho hp _ _ rfl rfl
set_option maxRecDepth 100000 in
theorem lifted (os : Os) (started : os.Started) (H : Type) (enc : TypeId × Value → H) :
    ReturnsInHanded {} Try.checked os 5 .any (Rows.fdbApartSpec.pre6 enc Try.prog Try.f5 Rows.fdbApartRow.domain false) (Rows.fdbApartSpec.post enc Try.prog Try.f5 false true false false) := by
  refine returnsInHanded_of_change (C := Try.checked) own started (by kernel_rfl) Try.func5
    (ChangeSpec.witness6 (enc := enc) (C := Try.checked) false ⟨#[], #[.agg #[.int .i64 0, .int .i64 0, .int .u64 0, .int .i64 0, .int .u32 0, .int .i64 0], .agg #[.int .i64 0, .int .i64 0, .int .u64 0, .int .i64 0, .int .u32 0, .int .i64 0]], []⟩ 8 (by kernel_rfl) (by kernel_rfl) (by kernel_rfl) (by kernel_rfl)) ?_
  intro W base args ds gs before hval0 hW _ _
  have hval : ∀ (j : Nat) t v, Try.f5.params[j]? = some t → args[j]? = some v → Value.okWide Try.prog W .any base t v := hval0
  have hW' := hW
  obtain ⟨p, q, hA0, hV, rfl, hfz, hnd⟩ := hW
  have hA : DataW.TrodAll enc Try.prog W 0 (fun _ => true) true Try.f5.params.toList args.toList ds p := hA0
  rw [Try.params5] at hA hval
  obtain ⟨v0, v1, d0, d1, p0, p1, rfl, rfl, rfl, h0, h1⟩ := trodAll_two hA
  obtain ⟨o0, rfl, rfl, rfl, w0⟩ := open_op (hval 0 44 v0 rfl rfl) h0
  obtain ⟨o1, rfl, rfl, rfl, w1⟩ := open_op (hval 1 44 v1 rfl rfl) h1
  obtain ⟨rfl, rfl⟩ := trodVars_none hV
  have e1 : Rows.fdbApartSpec.fn H ([opD o0, opD o1] ++ []) = { results := [.lit (.bool true)], args := [opD o0, opD o1] } := by simp [Rows.fdbApartSpec]
  refine (walk o0 o1 W w0.ok w1.ok).mono fun e W' ⟨he, hb⟩ => ?_
  subst he
  refine ⟨_, rfl, _, _, _, [], [], [], hW', ?_, ?_, ?_, hb.frame _, fun h => by cases h⟩
  · rw [e1]; exact trodAll_mk1 (shut_bool Try.underlying4 true)
  · rw [e1]; exact trodAll_mk2 (shut_op o0 w0) (shut_op o1 w1)
  · rw [e1]; rfl
theorem said : Rows.FdbApartSaid :=
  OpenClaim.holds_of_wide 5 Try.f5 rfl rfl rfl rfl rfl rfl rfl ⟨rfl, rfl, rfl, rfl, rfl⟩ rfl rfl rfl rfl rfl (by kernel_rfl) Try.func5 (by kernel_rfl)
    (of_decide_eq_true (by kernel_rfl)) (by unfold Func.isWrapper; rw [if_neg (of_decide_eq_false (by kernel_rfl))]; exact ⟨rfl, rfl⟩)
    (fun os started H enc _ => lifted os started H enc)
end Go.Proofs.Ytpddbfdgaeldjaa.fdbApart
namespace Go.Proofs.Ytpddbfdgaeldjaa
theorem fdbApart_holds : Rows.FdbApartSaid := fdbApart.said
end Go.Proofs.Ytpddbfdgaeldjaa
