/-
  The contracts of arp.Check, written and Build: whether a message may be, and its bytes; no cell that was there before has turned.
-/
import Derived.Test.YtljhgehlaehgnaaDoorArp1
import Derived.Test.YtljhgehlaehgnaaDoorOwnMac5
namespace Go.Proofs.YtljhgehlaehgnaaDoor
open Go.RowKit Go.Sort

/-- a message as the program has it -/
def Ar.val (a : Ar) : Value := .agg #[.int .i64 a.op, .int .u64 (a.smac : Int), .int .u32 (a.sip : Int), .int .u64 (a.tmac : Int), .int .u32 (a.tip : Int)]
/-- a message's numbers are of their types -/
def Ar.fits (a : Ar) : Prop := (-9223372036854775808 ≤ a.op ∧ a.op ≤ 9223372036854775807) ∧ a.smac < 18446744073709551616 ∧ a.sip < 4294967296 ∧ a.tmac < 18446744073709551616 ∧ a.tip < 4294967296
set_option maxRecDepth 100000 in
theorem check_at (op S I T J : Int) (t1 t2 o t : Bool) (w : World) (h1 : (op != 1) = t1) (h2 : (op != 2) = t2)
    (cO : Hid (∀ W, Calls Tryd.prog 21 #[.int .u64 S] W fun e W' => e = .returned (.bool o) ∧ W' = W)) (hT : decide (281474976710656 ≤ T) = t) :
    Calls Tryd.prog 10 #[.agg #[.int .i64 op, .int .u64 S, .int .u32 I, .int .u64 T, .int .u32 J]] w fun e w' => e = .returned (.int .i64 (if (t1 && t2) || !o || t then 51 else 0)) ∧ Below w.heap.size w w' := by
  cases t1 <;> cases t2 <;> cases o <;> cases t
  all_goals
    go_enter Tryd.func10, Tryd.ntmps10
    go_wp2_with (go_at_call 21; refine (unhide cO _).mono ?_; rintro e w1 ⟨rfl, rfl⟩)
    go_ret
    exact ⟨rfl, alloc_below _ _⟩
theorem arpCheck_any (a : Ar) (w : World) (h : a.fits) : Calls Tryd.prog 10 #[a.val] w fun e w' => e = .returned (.int .i64 a.check) ∧ Below w.heap.size w w' := by
  obtain ⟨op, s, i, t, j⟩ := a
  obtain ⟨_, hs, _, _, _⟩ := h
  have c := check_at op s i t j _ _ (ownH s) _ w rfl rfl (hide fun W => own_any s W hs) rfl
  have e : (if ((op != 1) && (op != 2)) || !(ownH s) || decide (281474976710656 ≤ (t : Int)) then (51 : Int) else 0) = (Ar.mk op s i t j).check := by
    rw [show decide ((281474976710656 : Int) ≤ (t : Int)) = decide (281474976710656 ≤ t) from decide_eq_decide.2 (by omega)]
    have e1 : (op != 1 && op != 2) = decide (op < 1 ∨ 2 < op) := by
      by_cases a : op = 1
      · subst a; rfl
      · by_cases b : op = 2
        · subst b; rfl
        · rw [decide_eq_true (by omega)]
          simp [a, b]
    unfold Ar.check
    simp only
    rw [e1]
    by_cases a : op < 1 ∨ 2 < op <;> by_cases b : 281474976710656 ≤ t <;> cases ownH s <;> simp [a, b] <;> omega
  rw [e] at c
  exact c
/-- a message's parts -/
def Ar.parts (a : Ar) : List (Nat × Nat) := [(a.op.toNat, 2), (a.smac, 6), (a.sip, 4), (a.tmac, 6), (a.tip, 4)]
theorem Ar.parts_bytes (a : Ar) : arpHead ++ partBytes a.parts = a.bytes := by
  unfold Ar.parts Ar.bytes partBytes
  simp
set_option maxRecDepth 100000 in
theorem written_at (op s i t j : Nat) (R : ByteArray) (w : World) (hs : op < 9223372036854775808) (hi : i < 4294967296) (hj : j < 4294967296)
    (cJ : Hid (∀ W g, W.heap[g]? = some (.cells #[.int .u64 op, .int .i64 2, .int .u64 s, .int .i64 6, .int .u64 i, .int .i64 4, .int .u64 t, .int .i64 6, .int .u64 j, .int .i64 4] 117 (0, 0)) →
      Calls Tryd.prog 53 #[.slice (some ⟨g, 0, none⟩) 5 5] W fun e W' => e = .returned (.string R) ∧ Below W.heap.size W W'))
    (B : ByteArray) (hadd : ∀ W, (Op.stringOp .add ⟨#[0, 1, 8, 0, 6, 4]⟩ R).run Tryd.prog W = .ok (.string B) W) :
    Calls Tryd.prog 39 #[.agg #[.int .i64 op, .int .u64 s, .int .u32 i, .int .u64 t, .int .u32 j]] w fun e w' => e = .returned (.string B) ∧ Below w.heap.size w w' := by
  have e1 : IntKind.u64.wrap (op : Int) = (op : Int) := u64_id op (by omega)
  have e2 : IntKind.u64.wrap (i : Int) = (i : Int) := u64_id i (by omega)
  have e3 : IntKind.u64.wrap (j : Int) = (j : Int) := u64_id j (by omega)
  clear hs hi hj
  go_enter Tryd.func39, Tryd.ntmps39
  go_wp2_with fail
  refine (unhide cJ _ _ (heap_alloc2_new w _ _)).mono ?_
  rintro e w1 ⟨rfl, b1⟩
  have hb := bthen (alloc_then (alloc_below w _)) b1
  clear b1 cJ
  go_wp2_with fail
  go_ret
  exact ⟨rfl, hb⟩
theorem written_any (a : Ar) (w : World) (h : a.fits) (ho : 0 ≤ a.op) : Calls Tryd.prog 39 #[a.val] w fun e w' => e = .returned (.string (bs a.bytes)) ∧ Below w.heap.size w w' := by
  obtain ⟨op, s, i, t, j⟩ := a
  obtain ⟨h0, hs, hi, ht, hj⟩ := h
  simp only at h0 hs hi ht hj ho
  obtain ⟨o, rfl⟩ : ∃ o : Nat, op = o := ⟨op.toNat, by omega⟩
  have e : ((o : Int)).toNat = o := by omega
  have hp : ∀ p ∈ (Ar.mk o s i t j).parts, p.1 < 18446744073709551616 ∧ (p.2 = 2 ∨ p.2 = 4 ∨ p.2 = 6) := by
    intro p hp
    unfold Ar.parts at hp
    rw [e] at hp
    simp only [List.mem_cons, List.not_mem_nil, or_false] at hp
    rcases hp with rfl | rfl | rfl | rfl | rfl <;> simp <;> omega
  have hc : (partCells (Ar.mk o s i t j).parts).toArray = #[.int .u64 o, .int .i64 2, .int .u64 s, .int .i64 6, .int .u64 i, .int .i64 4, .int .u64 t, .int .i64 6, .int .u64 j, .int .i64 4] := by
    unfold Ar.parts
    rw [e]
    rfl
  refine written_at o s i t j (bs (partBytes (Ar.mk o s i t j).parts)) w (by omega) hi hj (hide fun W g hg => ?_) _ (fun W => ?_)
  · exact join_any (Ar.mk o s i t j).parts g W (by unfold Ar.parts; simp) (by unfold Ar.parts; simp) hp (by rw [hc]; exact hg)
  · rw [← Ar.parts_bytes]
    exact add_bs arpHead _ (by unfold Ar.parts partBytes arpHead; simp [be_length]) W
/-- a message's bytes, if it may be -/
def Ar.built (a : Ar) : List UInt8 := if a.check = 0 then a.bytes else []
end Go.Proofs.YtljhgehlaehgnaaDoor
