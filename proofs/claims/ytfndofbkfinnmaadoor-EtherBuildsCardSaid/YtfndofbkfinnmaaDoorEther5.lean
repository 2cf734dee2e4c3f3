/-
  The contract of ether.Build, whole; no cell that was there before has turned.
-/
import Derived.Test.YtfndofbkfinnmaaDoorEther4
import Derived.Test.YtfndofbkfinnmaaDoorEtherBackPlain
namespace Go.Proofs.YtfndofbkfinnmaaDoor
open Go.RowKit Go.Sort

set_option maxRecDepth 20000 in
set_option maxHeartbeats 4000000 in
theorem build_go0 (d s t : Nat) (has : Bool) (pri : Int) (dei : Bool) (vid ty : Int) (B D S M K X Y Z R : ByteArray) (w : World) (hty : ty = 0) (ht : B.size = t) (hB : B.size ≤ 10000)
    (cW : Hid (∀ W, Calls Tryd.prog 17 #[.agg #[.int .u64 d, .int .u64 s, .bool has, .int .i64 pri, .bool dei, .int .i64 vid, .int .i64 ty, .string B]] W fun e w' => e = .returned .nilIface ∧ Below W.heap.size W w'))
    (cD : ∀ W, Calls Tryd.prog 19 #[.int .u64 d, .int .i64 6] W fun e w' => e = .returned (.string D) ∧ Below W.heap.size W w')
    (cS : ∀ W, Calls Tryd.prog 19 #[.int .u64 s, .int .i64 6] W fun e w' => e = .returned (.string S) ∧ Below W.heap.size W w')
    (cM : ∀ W, Calls Tryd.prog 20 #[.agg #[.bool has, .int .i64 pri, .bool dei, .int .i64 vid]] W fun e w' => e = .returned (.string M) ∧ Below W.heap.size W w')
    (cK : ∀ W, Calls Tryd.prog 19 #[.int .u64 t, .int .i64 2] W fun e w' => e = .returned (.string K) ∧ Below W.heap.size W w')
    (g1 : ∀ W, (Op.stringOp .add D S).run Tryd.prog W = .ok (.string X) W) (g2 : ∀ W, (Op.stringOp .add X M).run Tryd.prog W = .ok (.string Y) W)
    (g3 : ∀ W, (Op.stringOp .add Y K).run Tryd.prog W = .ok (.string Z) W) (g4 : ∀ W, (Op.stringOp .add Z B).run Tryd.prog W = .ok (.string R) W) :
    Calls Tryd.prog 8 #[.agg #[.int .u64 d, .int .u64 s, .bool has, .int .i64 pri, .bool dei, .int .i64 vid, .int .i64 ty, .string B]] w fun e w' => e = .returned (.tuple #[.string R, .int .i64 0]) ∧ Below w.heap.size w w' := by
  subst hty
  go_enter Tryd.func8, Tryd.ntmps8
  go_wp2_with fail
  refine (unhide cW _).mono ?_
  rintro e w1 ⟨rfl, b1⟩
  have hb := bthen (alloc_below w _) b1
  have k0 := (b1.cell (p := ⟨w.heap.size, 0, none⟩) (by simp)).trans (show _ = some (Value.int .u64 d) by simp)
  have k1 := (b1.cell (p := ⟨w.heap.size, 1, none⟩) (by simp)).trans (show _ = some (Value.int .u64 s) by simp)
  have k2 := (b1.cell (p := ⟨w.heap.size, 2, none⟩) (by simp)).trans (show _ = some (Value.bool has) by simp)
  have k3 := (b1.cell (p := ⟨w.heap.size, 3, none⟩) (by simp)).trans (show _ = some (Value.int .i64 pri) by simp)
  have k4 := (b1.cell (p := ⟨w.heap.size, 4, none⟩) (by simp)).trans (show _ = some (Value.bool dei) by simp)
  have k5 := (b1.cell (p := ⟨w.heap.size, 5, none⟩) (by simp)).trans (show _ = some (Value.int .i64 vid) by simp)
  have k6 := (b1.cell (p := ⟨w.heap.size, 6, none⟩) (by simp)).trans (show _ = some (Value.int .i64 0) by simp)
  have k7 := (b1.cell (p := ⟨w.heap.size, 7, none⟩) (by simp)).trans (show _ = some (Value.string B) by simp)
  clear b1 cW
  go_wp2_with fail
  have cD' := at_grown cD w1
  have cS' := at_grown cS w1
  have cM' := at_grown cM w1
  have cK' := at_grown cK w1
  have q0 := cell_regrown k0
  have q1 := cell_regrown k1
  have q2 := cell_regrown k2
  have q3 := cell_regrown k3
  have q4 := cell_regrown k4
  have q5 := cell_regrown k5
  have q7 := cell_regrown k7
  clear k0 k1 k2 k3 k4 k5 k6 k7 cD cS cM cK
  refine wp_region_quiet_below (by kernel_rfl) (by kernel_rfl) ?_
  repeat (go_big_quiet_step (first | (go_at_call 20; exact cM' _ _) | (go_at_call_of 19 d; exact cD' _ _) | (go_at_call_of 19 s; exact cS' _ _) | (go_at_call_of 19 t; exact cK' _ _)))
  refine wpQuiet_nil ?_
  rintro _ ⟨⟨dq, osq⟩, rfl⟩
  go_wp2
  go_ret2
  exact ⟨rfl, grown_then hb dq osq⟩

theorem add_bs (a b : List UInt8) (h : a.length + b.length ≤ 10000) (W : World) : (Op.stringOp .add (bs a) (bs b)).run Tryd.prog W = .ok (.string (bs (a ++ b))) W := by
  rw [run_string_add_sum W (bs a) (bs b) (by rw [bs_size, bs_size]; omega), bs_append]
theorem u64_small (n : Nat) (h : n < 65536) : IntKind.u64.wrap (n : Int) = (n : Int) := by rw [IntKind.wrap_u64]; omega
theorem build_ok (d s : Nat) (has : Bool) (pri : Int) (dei : Bool) (vid ty : Int) (l : List UInt8) (w : World) (h : (Fr.mk d s has pri dei vid ty l).check = 0) :
    Calls Tryd.prog 8 #[.agg #[.int .u64 d, .int .u64 s, .bool has, .int .i64 pri, .bool dei, .int .i64 vid, .int .i64 ty, .string (bs l)]] w fun e w' => e = .returned (.tuple #[.string (bs (Fr.mk d s has pri dei vid ty l).bytes), .int .i64 0]) ∧ Below w.heap.size w w' := by
  have c := check_spec _ h
  have t := tl_lt h
  simp only at c t
  have hsz : 14 + l.length + (if has then 4 else 0) ≤ 1600 := c.2.2.2.2
  have hl : l.length ≤ 10000 := by omega
  have cW := fun W => wrong_ok d s has pri dei vid ty l W hl h
  have cD := fun W => eput d 6 W (by decide) (by decide) (by rw [pow6]; exact c.1)
  have cS := fun W => eput s 6 W (by decide) (by decide) (by rw [pow6]; exact c.2.1)
  have cK := fun W => eput (Fr.mk d s has pri dei vid ty l).tl 2 W (by decide) (by decide) (by rw [pow2]; exact t.1)
  have hM : ((Fr.mk d s has pri dei vid ty l).tagB).length ≤ 4 := by unfold Fr.tagB; cases has <;> simp [be_length]
  have cM : ∀ W, Calls Tryd.prog 20 #[.agg #[.bool has, .int .i64 pri, .bool dei, .int .i64 vid]] W fun e w' => e = .returned (.string (bs (Fr.mk d s has pri dei vid ty l).tagB)) ∧ Below W.heap.size W w' := by
    intro W
    cases has
    · exact mark_not pri dei vid W
    · have h' : 0 ≤ pri ∧ pri ≤ 7 ∧ 0 ≤ vid ∧ vid ≤ 4095 := by simpa [tagOk] using c.2.2.1
      obtain ⟨p, rfl⟩ : ∃ p : Nat, pri = p := ⟨pri.toNat, by omega⟩
      obtain ⟨v, rfl⟩ : ∃ v : Nat, vid = v := ⟨vid.toNat, by omega⟩
      exact mark_has p dei v W (by omega) (by omega)
  have l6 := be_length d 6
  have m6 := be_length s 6
  have k2 := be_length (Fr.mk d s has pri dei vid ty l).tl 2
  have g1 := add_bs (be d 6) (be s 6) (by omega)
  have g2 := add_bs (be d 6 ++ be s 6) (Fr.mk d s has pri dei vid ty l).tagB (by simp only [List.length_append]; omega)
  have g3 := add_bs (be d 6 ++ be s 6 ++ (Fr.mk d s has pri dei vid ty l).tagB) (be (Fr.mk d s has pri dei vid ty l).tl 2) (by simp only [List.length_append]; omega)
  have g4 := add_bs (be d 6 ++ be s 6 ++ (Fr.mk d s has pri dei vid ty l).tagB ++ be (Fr.mk d s has pri dei vid ty l).tl 2) l (by simp only [List.length_append]; omega)
  by_cases z : ty = 0
  · exact build_go0 d s _ has pri dei vid ty (bs l) _ _ _ _ _ _ _ _ w z (by rw [bs_size]; exact (t.2.2.1 z).1.symm) (by rw [bs_size]; exact hl) (hide cW) cD cS cM cK g1 g2 g3 g4
  · exact build_go1 d s _ has pri dei vid ty (bs l) _ _ _ _ _ _ _ _ w z ((congrArg IntKind.u64.wrap (t.2.2.2 z).1).symm.trans (u64_small _ t.1)) (hide cW) cD cS cM cK g1 g2 g3 g4
end Go.Proofs.YtfndofbkfinnmaaDoor
