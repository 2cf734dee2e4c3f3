/-
  Proved: for every packet (of a body cut to 1700 bytes) and number, gangwaylaw06.InetOlder answers true (a packet that is older is parsed as it was but for its Ttl, so often as this tells; then no more, P6.3, P6.4), and the arguments read afterwards as before. Conditions: errors.errorType holds what the program's own text lays (tied by the card).
-/
import Derived.Test.YtojipoifjioglaaDoorRow6
namespace Go.Proofs.YtojipoifjioglaaDoor.inetOlder
open Go.ChangeShapes Go.WideShapes Go.ChangeAt Go.RowKit Go.Sort
open Go.ChangeMaps (open_string shut_string)

set_option maxRecDepth 100000 in
set_option maxHeartbeats 1000000 in
theorem walk_bad (a b o t q s d : Int) (x y : Bool) (B X : ByteArray) (k : Int) (z : Int) (w : World) (hg : Et w)
    (CU : Hid (∀ W, Calls Tryd.prog 9 #[.agg #[.int .i64 a, .int .i64 b, .bool x, .bool y, .int .i64 o, .int .i64 t, .int .i64 q, .int .u32 s, .int .u32 d, .string B]] W fun e W' => e = .returned (.agg #[.int .i64 a, .int .i64 b, .bool x, .bool y, .int .i64 o, .int .i64 t, .int .i64 q, .int .u32 s, .int .u32 d, .string X]) ∧ Below W.heap.size W W'))
    (CB : Hid (∀ W, Et W → Calls Tryd.prog 10 #[.agg #[.int .i64 a, .int .i64 b, .bool x, .bool y, .int .i64 o, .int .i64 t, .int .i64 q, .int .u32 s, .int .u32 d, .string X]] W fun e W' => e = .returned (.tuple #[.string ByteArray.empty, .int .i64 k]) ∧ Below W.heap.size W W'))
    (hk : (k != 0) = true)
    (CF : Hid (∀ W, Et W → Calls Tryd.prog 12 #[] W fun e W' => e = .returned (.bool true) ∧ Below W.heap.size W W')) :
    Calls Tryd.prog 6 #[.agg #[.int .i64 a, .int .i64 b, .bool x, .bool y, .int .i64 o, .int .i64 t, .int .i64 q, .int .u32 s, .int .u32 d, .string B], .int .i64 z] w fun e w' => e = .returned (.bool true) ∧ Below w.heap.size w w' := by
  go_enter Tryd.func6, Tryd.ntmps6
  go_wp2_with fail
  refine (unhide CU _).mono ?_
  rintro e w1 ⟨rfl, b1⟩
  have h1 := bthen (alloc_below w _) b1
  have r1 := Below.row b1 (heap_alloc_new w _)
  obtain ⟨c0, c1, c2, c3, c4, c5, c6, c7, c8, c9, f0, f1, f2, f3, f4, f5, f6, f7, f8, f9⟩ := cells10 r1
  have h2 := below10 (v0 := .int .i64 a) (v1 := .int .i64 b) (v2 := .bool x) (v3 := .bool y) (v4 := .int .i64 o) (v5 := .int .i64 t) (v6 := .int .i64 q) (v7 := .int .u32 s) (v8 := .int .u32 d) (v9 := .string X) h1 (Nat.le_refl _)
  have r2 := set10 (v0 := .int .i64 a) (v1 := .int .i64 b) (v2 := .bool x) (v3 := .bool y) (v4 := .int .i64 o) (v5 := .int .i64 t) (v6 := .int .i64 q) (v7 := .int .u32 s) (v8 := .int .u32 d) (v9 := .string X) r1
  clear b1 CU
  go_wp2_with fail
  generalize ((((((((((w1.setCell ⟨w.heap.size, 0, none⟩ (.int .i64 a)).setCell ⟨w.heap.size, 1, none⟩ (.int .i64 b)).setCell ⟨w.heap.size, 2, none⟩ (.bool x)).setCell ⟨w.heap.size, 3, none⟩ (.bool y)).setCell ⟨w.heap.size, 4, none⟩ (.int .i64 o)).setCell ⟨w.heap.size, 5, none⟩ (.int .i64 t)).setCell ⟨w.heap.size, 6, none⟩ (.int .i64 q)).setCell ⟨w.heap.size, 7, none⟩ (.int .u32 s)).setCell ⟨w.heap.size, 8, none⟩ (.int .u32 d)).setCell ⟨w.heap.size, 9, none⟩ (.string X)) = w2 at *
  clear h1 r1 c0 c1 c2 c3 c4 c5 c6 c7 c8 c9 f0 f1 f2 f3 f4 f5 f6 f7 f8 f9
  refine (unhide CB _ (hg.next h2)).mono ?_
  rintro e w3 ⟨rfl, b3⟩
  have h3 := bthen h2 b3
  have r3 := Below.row b3 r2
  clear b3 CB h2 r2
  go_wp2_with fail
  refine (unhide CF _ (hg.next h3)).mono ?_
  rintro e w9 ⟨rfl, b9⟩
  have h9 := bthen h3 b9
  go_wp2_with fail
  go_ret
  exact ⟨rfl, h9⟩
set_option maxRecDepth 100000 in
set_option maxHeartbeats 4000000 in
theorem walk_good (a b o q s d : Int) (x y : Bool) (B X T : ByteArray) (z : Int) (t r : Nat) (I : ByteArray → Nat → Prop) (w : World) (hg : Et w)
    (CU : Hid (∀ W, Calls Tryd.prog 9 #[.agg #[.int .i64 a, .int .i64 b, .bool x, .bool y, .int .i64 o, .int .i64 t, .int .i64 q, .int .u32 s, .int .u32 d, .string B]] W fun e W' => e = .returned (.agg #[.int .i64 a, .int .i64 b, .bool x, .bool y, .int .i64 o, .int .i64 t, .int .i64 q, .int .u32 s, .int .u32 d, .string X]) ∧ Below W.heap.size W W'))
    (CB : Hid (∀ W, Et W → Calls Tryd.prog 10 #[.agg #[.int .i64 a, .int .i64 b, .bool x, .bool y, .int .i64 o, .int .i64 t, .int .i64 q, .int .u32 s, .int .u32 d, .string X]] W fun e W' => e = .returned (.tuple #[.string T, .int .i64 0]) ∧ Below W.heap.size W W'))
    (hr : bits BinOp.and IntKind.i64 z 31 = (r : Int)) (hr31 : (r : Int) ≤ 31)
    (hI : I T t) (hb : ∀ S u, I S u → u ≤ 255)
    (H0 : Hid (∀ S, I S 0 → ∀ W, Et W → Calls Tryd.prog 18 #[.string S] W fun e W' => e = .returned (.tuple #[.string ByteArray.empty, .int .i64 61]) ∧ Below W.heap.size W W'))
    (H1 : Hid (∀ S u, I S (u + 1) → ∃ S', I S' u ∧ S'.size = S.size ∧ (∀ W, Et W → Calls Tryd.prog 18 #[.string S] W fun e W' => e = .returned (.tuple #[.string S', .int .i64 0]) ∧ Below W.heap.size W W') ∧ ∀ W, Et W → Calls Tryd.prog 16 #[.string S'] W fun e W' => e = .returned (.tuple #[.agg #[.int .i64 a, .int .i64 b, .bool x, .bool y, .int .i64 o, .int .i64 (u : Int), .int .i64 q, .int .u32 s, .int .u32 d, .string X], .int .i64 0]) ∧ Below W.heap.size W W'))
    (CF : Hid (∀ W, Et W → Calls Tryd.prog 12 #[] W fun e W' => e = .returned (.bool true) ∧ Below W.heap.size W W')) :
    Calls Tryd.prog 6 #[.agg #[.int .i64 a, .int .i64 b, .bool x, .bool y, .int .i64 o, .int .i64 t, .int .i64 q, .int .u32 s, .int .u32 d, .string B], .int .i64 z] w fun e w' => e = .returned (.bool true) ∧ Below w.heap.size w w' := by
  go_enter Tryd.func6, Tryd.ntmps6
  go_wp2_with fail
  refine (unhide CU _).mono ?_
  rintro e w1 ⟨rfl, b1⟩
  have h1 := bthen (alloc_below w _) b1
  have r1 := Below.row b1 (heap_alloc_new w _)
  obtain ⟨c0, c1, c2, c3, c4, c5, c6, c7, c8, c9, f0, f1, f2, f3, f4, f5, f6, f7, f8, f9⟩ := cells10 r1
  have h2 := below10 (v0 := .int .i64 a) (v1 := .int .i64 b) (v2 := .bool x) (v3 := .bool y) (v4 := .int .i64 o) (v5 := .int .i64 t) (v6 := .int .i64 q) (v7 := .int .u32 s) (v8 := .int .u32 d) (v9 := .string X) h1 (Nat.le_refl _)
  have r2 := set10 (v0 := .int .i64 a) (v1 := .int .i64 b) (v2 := .bool x) (v3 := .bool y) (v4 := .int .i64 o) (v5 := .int .i64 t) (v6 := .int .i64 q) (v7 := .int .u32 s) (v8 := .int .u32 d) (v9 := .string X) r1
  clear b1 CU
  go_wp2_with fail
  generalize ((((((((((w1.setCell ⟨w.heap.size, 0, none⟩ (.int .i64 a)).setCell ⟨w.heap.size, 1, none⟩ (.int .i64 b)).setCell ⟨w.heap.size, 2, none⟩ (.bool x)).setCell ⟨w.heap.size, 3, none⟩ (.bool y)).setCell ⟨w.heap.size, 4, none⟩ (.int .i64 o)).setCell ⟨w.heap.size, 5, none⟩ (.int .i64 t)).setCell ⟨w.heap.size, 6, none⟩ (.int .i64 q)).setCell ⟨w.heap.size, 7, none⟩ (.int .u32 s)).setCell ⟨w.heap.size, 8, none⟩ (.int .u32 d)).setCell ⟨w.heap.size, 9, none⟩ (.string X)) = w2 at *
  clear h1 r1 c0 c1 c2 c3 c4 c5 c6 c7 c8 c9 f0 f1 f2 f3 f4 f5 f6 f7 f8 f9
  refine (unhide CB _ (hg.next h2)).mono ?_
  rintro e w3 ⟨rfl, b3⟩
  have h3 := bthen h2 b3
  have r3 := Below.row b3 r2
  clear b3 CB h2 r2
  go_wp2_with fail
  go_loopw [5, 7] (fun sv iv wr => ∃ (k u : Nat) (S : ByteArray), k ≤ r ∧ iv = .int .i64 k ∧ sv = .string S ∧ I S u ∧ wr.heap[w.heap.size]? = some (.cells #[.int .i64 a, .int .i64 b, .bool x, .bool y, .int .i64 o, .int .i64 u, .int .i64 q, .int .u32 s, .int .u32 d, .string X] 24 (0, 0)) ∧ Below w.heap.size w wr) (fun _ iv _ => r - (intOf iv).toNat)
  case atStart => exact ⟨0, t, T, Nat.zero_le _, rfl, rfl, hI, r3, h3⟩
  case round =>
    clear r3 h3
    obtain ⟨k, u, S, hk, rfl, rfl, hS, rr, hh⟩ := hrel
    by_cases hlt : k < r
    · have hlt' : (k : Int) < (r : Int) := by omega
      by_cases hu : u = 0
      · subst hu
        have CO := hide (unhide H0 S hS)
        clear H1 H0 hS
        go_wp2_with fail
        refine (unhide CO _ (hg.next hh)).mono ?_
        rintro e w4 ⟨rfl, b4⟩
        have h4 := bthen hh b4
        have r4 := Below.row b4 rr
        obtain ⟨c0, c1, c2, c3, c4, c5, c6, c7, c8, c9, _⟩ := cells10 r4
        clear b4 rr CO
        go_wp2_with fail
        refine (unhide CF _ (hg.next h4)).mono ?_
        rintro e w9 ⟨rfl, b9⟩
        have h9 := bthen h4 b9
        go_wp2_with fail
        go_ret
        exact ⟨rfl, h9⟩
      · obtain ⟨v, rfl⟩ : ∃ v, u = v + 1 := ⟨u - 1, by omega⟩
        obtain ⟨S', hS', hz, CO0, CP0⟩ := unhide H1 S v hS
        have hv : (v : Int) ≤ 255 := by have := hb _ _ hS'; omega
        have HS := hide hS'
        have CO := hide CO0
        have CP := hide CP0
        clear CO0 CP0 H1 H0 hS hS' hu
        have sm := other_ip a b o v q s d x y X
        obtain ⟨V, hV⟩ : ∃ V : Int, V = ((v + 1 : Nat) : Int) := ⟨_, rfl⟩
        have hV0 : (V == 0) = false := by rw [beq_eq_false_iff_ne]; omega
        have hV1 : V - 1 = (v : Int) := by omega
        have hV2 : wrap64 (v : Int) = (v : Int) := wrap64_id (by omega) (by omega)
        rw [← hV] at rr
        clear hV
        go_wp2_with fail
        refine (unhide CO _ (hg.next hh)).mono ?_
        rintro e w4 ⟨rfl, b4⟩
        have h4 := bthen hh b4
        have r4 := Below.row b4 rr
        obtain ⟨c0, c1, c2, c3, c4, c5, c6, c7, c8, c9, f0, f1, f2, f3, f4, f5, f6, f7, f8, f9⟩ := cells10 r4
        have h5 := h4.setCell (p := ⟨w.heap.size, 5, none⟩) (Nat.le_refl _) (.int .i64 (v : Int))
        have r5 : (w4.setCell ⟨w.heap.size, 5, none⟩ (.int .i64 (v : Int))).heap[w.heap.size]? = some (.cells #[.int .i64 a, .int .i64 b, .bool x, .bool y, .int .i64 o, .int .i64 (v : Int), .int .i64 q, .int .u32 s, .int .u32 d, .string X] 24 (0, 0)) := by
          have := heap_setCell_same _ w.heap.size 5 _ 24 (.int .i64 (v : Int)) r4
          simpa using this
        clear b4 CO
        go_wp2_with fail
        generalize w4.setCell ⟨w.heap.size, 5, none⟩ (.int .i64 (v : Int)) = w5 at *
        refine (unhide CP _ (hg.next h5)).mono ?_
        rintro e w6 ⟨rfl, b6⟩
        have h6 := alloc_then (o := .cells #[.int .i64 a, .int .i64 b, .bool x, .bool y, .int .i64 o, .int .i64 (v : Int), .int .i64 q, .int .u32 s, .int .u32 d, .string X] 24) (bthen h5 b6)
        have r6 := Below.row (alloc_below w6 (.cells #[.int .i64 a, .int .i64 b, .bool x, .bool y, .int .i64 o, .int .i64 (v : Int), .int .i64 q, .int .u32 s, .int .u32 d, .string X] 24)) (Below.row b6 r5)
        clear b6 h5 r5 h4 r4 rr CP c0 c1 c2 c3 c4 c5 c6 c7 c8 c9 f0 f1 f2 f3 f4 f5 f6 f7 f8 f9
        obtain ⟨c0, c1, c2, c3, c4, c5, c6, c7, c8, c9, _⟩ := cells10 r6
        go_wp2_with fail
        go_roundw
        case rel => exact ⟨k + 1, v, S', by omega, by go_num, rfl, unhide HS, r6, h6⟩
        case measure => simp [intOf]; omega
    · obtain rfl : k = r := by omega
      clear H0 H1 hS
      go_wp2_with fail
      refine (unhide CF _ (hg.next hh)).mono ?_
      rintro e w9 ⟨rfl, b9⟩
      have h9 := bthen hh b9
      go_wp2_with fail
      go_ret
      exact ⟨rfl, h9⟩
theorem walk (p : Pk) (z : Int) (w : World) (hg : Et w) (hs : p.src < 4294967296) (hd : p.dst < 4294967296) (_ : -9223372036854775808 ≤ z) (_ : z ≤ 9223372036854775807) :
    Calls Tryd.prog 6 #[p.val, .int .i64 z] w fun e w' => e = .returned (.bool true) ∧ Below w.heap.size w w' := by
  obtain ⟨m, l, hl, mx, sx⟩ := firstN 1700 (bs p.body)
  obtain ⟨a, b, x, y, o, t, q, s, d, B⟩ := p
  have hf : (Pk.mk a b x y o t q s d l).fits := ⟨hs, hd, hl⟩
  have CU := fun W => cut_any a b o t q s d x y (bs B) (bs l) m W mx sx
  by_cases hc : (Pk.mk a b x y o t q s d l).check = 0
  · have CB := fun W (_ : Et W) => inetBuild_ok _ W hf hc
    have ho := check_ok.1 hc
    obtain ⟨r, hr, hr31⟩ := and_mask z 31 (by decide)
    obtain ⟨t, rfl⟩ : ∃ k : Nat, t = k := ⟨t.toNat, by have := ho.2.1; simp only at this; omega⟩
    have hok : ∀ u : Nat, u ≤ 255 → (Pk.mk a b x y o u q s d l).ok := fun u hu => ⟨ho.1, by simp only; omega, ho.2.2.1, ho.2.2.2.1, ho.2.2.2.2.1, ho.2.2.2.2.2⟩
    have hlen : ∀ (u : Nat) c, ((Pk.mk a b x y o u q s d l).head c ++ l).length ≤ 1720 := fun u c => by rw [List.length_append, Pk.head_length]; omega
    refine walk_good a b o q s d x y (bs B) (bs l) _ z t r (fun S u => ∃ c, u ≤ 255 ∧ (Pk.mk a b x y o u q s d l).right c ∧ S = bs ((Pk.mk a b x y o u q s d l).head c ++ l)) w hg (hide CU) (hide CB) hr (by omega) ⟨_, by have := ho.2.1; simp only at this; omega, Pk.right_sum _, rfl⟩ (fun S u h => by obtain ⟨c, h, _⟩ := h; exact h) (hide ?_) (hide ?_) (hide fixed_true)
    · rintro S ⟨c, hu, hr, rfl⟩ W g
      have C := inetOlder_any ((Pk.mk a b x y o ((0 : Nat) : Int) q s d l).head c ++ l) W (Nat.le_trans (hlen 0 c) (by decide)) g
      rw [(older_head _ c l (hok 0 hu) hr hs hd (Nat.le_refl _)).1 rfl] at C
      exact C
    · rintro S u ⟨c, hu, hr, rfl⟩
      obtain ⟨e, he, hgr⟩ := grown_head _ c l (hok (u + 1) hu) hr hs hd (by simp only; omega)
      have hp : ({ Pk.mk a b x y o ((u + 1 : Nat) : Int) q s d l with ttl := (Pk.mk a b x y o ((u + 1 : Nat) : Int) q s d l).ttl - 1 } : Pk) = Pk.mk a b x y o (u : Int) q s d l := by
        simp only [Pk.mk.injEq, and_true, true_and]
        omega
      rw [hp] at he hgr
      have C := fun W g => inetOlder_any ((Pk.mk a b x y o ((u + 1 : Nat) : Int) q s d l).head c ++ l) W (Nat.le_trans (hlen (u + 1) c) (by decide)) g
      rw [(older_head _ c l (hok (u + 1) hu) hr hs hd (Nat.le_refl _)).2 (by simp only; omega), hgr] at C
      have D := fun W g => inetParse_any ((Pk.mk a b x y o (u : Int) q s d l).head e ++ l) W (Nat.le_trans (hlen u e) (by decide)) g
      have hpar := parse_head _ e [] (hok u (by omega)) he hs hd
      rw [List.append_nil] at hpar
      rw [hpar] at D
      exact ⟨_, ⟨e, by omega, he, rfl⟩, by rw [bs_size, bs_size, List.length_append, List.length_append, Pk.head_length, Pk.head_length], C, D⟩
  · have CB := fun W (g : Et W) => inetBuild_bad _ W hf g hc
    exact walk_bad a b o t q s d x y (bs B) (bs l) _ z w hg (hide CU) (hide CB) (by simpa using hc) (hide fixed_true)
set_option maxRecDepth 100000 in
theorem lifted (os : Os) (started : os.Started) (H : Type) (enc : TypeId × Value → H) :
    ReturnsInHanded {} Tryd.checked os 6 .any (fun w args => (Rows.inetOlderSpec.pre enc Tryd.prog Tryd.f6 [] false w args ∧ laidMetH Tryd.prog [("errors.errorType", Rows.laid_errors_errorType)] w) ∧ sizedMet enc Tryd.prog Tryd.f6 (OpenSpec.ofChange Rows.inetOlderSpec) false w args)
      (Rows.inetOlderSpec.post enc Tryd.prog Tryd.f6 false true false false) := by
  refine returnsInHanded_of_change_and (C := Tryd.checked) (X := fun w _ => laidMetH Tryd.prog [("errors.errorType", Rows.laid_errors_errorType)] w) (fun _ _ _ hh h => h.of_heap hh) own started (by kernel_rfl) Tryd.func6
    (ChangeSpec.witness_at (enc := enc) (C := Tryd.checked) (os := os) (X := fun w _ => laidMetH Tryd.prog [("errors.errorType", Rows.laid_errors_errorType)] w) false
      { World.holding Tryd.prog os ⟨#[], #[], []⟩ with heap := (World.holding Tryd.prog os ⟨#[], #[], []⟩).heap.modify 0 fun
        | .cells _ t frozen => .cells #[.iface 89 (.agg #[.pointer (some ⟨1, 41, none⟩)])] t frozen
        | o => o } #[.agg #[.int .i64 0, .int .i64 0, .bool false, .bool false, .int .i64 0, .int .i64 0, .int .i64 0, .int .u32 0, .int .u32 0, .string ByteArray.empty], .int .i64 0] 8 rfl (by kernel_rfl) (by kernel_rfl) (by kernel_rfl) (by kernel_rfl) (by kernel_rfl) (laid_met os _)) ?_
  intro W base args ds gs before hval0 hW _ _ hL _
  have hval : ∀ (j : Nat) t v, Tryd.f6.params[j]? = some t → args[j]? = some v → Value.okWide Tryd.prog W .any base t v := hval0
  have hW' := hW
  obtain ⟨p, q, hA0, hV0, rfl, hfz, hnd⟩ := hW
  have hA : DataW.TrodAll enc Tryd.prog W 0 (fun _ => true) true Tryd.f6.params.toList args.toList ds p := hA0
  have hV : DataW.TrodVars enc Tryd.prog W (fun _ => true) [] gs q := hV0
  rw [Tryd.params6] at hA hval
  obtain ⟨v0, v1, d0, d1, p0, p1, rfl, rfl, rfl, h0, h1⟩ := trodAll_two hA
  obtain ⟨a0, rfl, rfl, rfl, hs0, hd0, hw0⟩ := open_ip (hval 0 24 v0 rfl rfl) h0
  obtain ⟨a1, rfl, rfl, rfl, w1⟩ := open_int Tryd.underlying3 (hval 1 3 v1 rfl rfl) h1
  have b1 := bounds_i64 w1
  obtain ⟨rfl, rfl⟩ := trodVars_none hV
  have e1 : Rows.inetOlderSpec.fn H ([ipD a0, .lit (.int .i64 a1)] ++ []) = { results := [.lit (.bool true)], args := [ipD a0, .lit (.int .i64 a1)] } := by simp [Rows.inetOlderSpec]
  refine (walk a0 a1 W (et_of_laid hL) hs0 hd0 (by omega) (by omega)).mono fun e W' ⟨he, hb⟩ => ?_
  subst he
  refine ⟨_, rfl, _, _, _, [], [], [], hW', ?_, ?_, ?_, hb.frame _, fun h => by cases h⟩
  · rw [e1]; exact trodAll_mk1 (shut_bool Tryd.underlying4 true)
  · rw [e1]; exact trodAll_mk2 (shut_ip a0 hw0) (shut_int Tryd.underlying3 w1)
  · rw [e1]; rfl

theorem said : Rows.InetOlderSaid :=
  OpenClaim.holds_of_wide 6 Tryd.f6 rfl rfl rfl rfl rfl rfl rfl ⟨rfl, rfl, rfl, rfl, rfl⟩ rfl rfl rfl rfl rfl (by kernel_rfl) Tryd.func6 (by kernel_rfl)
    (of_decide_eq_true (by kernel_rfl)) (by unfold Func.isWrapper; rw [if_neg (of_decide_eq_false (by kernel_rfl))]; exact ⟨rfl, rfl⟩)
    (fun os started H enc _ => lifted os started H enc)

theorem plain (f : FuncId) (fn : Func) (hf : Tryd.pinned.checked.prog.funcNamed Rows.inetOlderRow.func = some f) (hfn : Tryd.pinned.checked.prog.funcs[f]? = some fn) :
    true = Tryd.pinned.checked.prog.looks [] ∧ ∀ (j : Nat) t, fn.params[j]? = some t → Tryd.pinned.checked.prog.wantsStandIn t = false := by
  obtain rfl : f = 6 := Option.some.inj ((show Tryd.prog.funcNamed Rows.inetOlderRow.func = some 6 by kernel_rfl).symm.trans hf) |>.symm
  obtain rfl : fn = Tryd.f6 := (Option.some.inj (Tryd.func6.symm.trans hfn)).symm
  refine ⟨by kernel_rfl, fun j t ht => ?_⟩
  rw [Tryd.params6] at ht
  have hm := Array.mem_of_getElem? ht
  simp only [List.mem_toArray, List.mem_cons, List.not_mem_nil, or_false] at hm
  rcases hm with rfl | rfl
  · exact (show Tryd.prog.wantsStandIn 24 = false by kernel_rfl)
  · exact (show Tryd.prog.wantsStandIn 3 = false by kernel_rfl)

theorem card : Rows.InetOlderCardSaid :=
  Claim7.holds_tied_plain_at .later [] _ _ _ _ said (fun _ h => by cases h) (by kernel_rfl) (fun _ h => by cases h) inetOlder_row_tie rfl ⟨rfl, rfl⟩ (by kernel_rfl) rfl plain (by kernel_rfl)
end Go.Proofs.YtojipoifjioglaaDoor.inetOlder
namespace Go.Proofs.YtojipoifjioglaaDoor
theorem inetOlder_card_holds : Rows.InetOlderCardSaid := inetOlder.card
end Go.Proofs.YtojipoifjioglaaDoor
