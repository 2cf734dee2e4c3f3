/-
  The contracts of dropAll's own closure (it asks the one that it has captured) and of slices.IndexFunc over parts with it: the first part whose state is one of those.
-/
import Derived.Test.YtljhgehlaehgnaaDoorAg6
import Derived.Shelf.Abstract
namespace Go.Proofs.YtljhgehlaehgnaaDoor
open Go.RowKit Go.Sort

/-- a part, as a value -/
def Ent.part (e : Ent) : Value := .agg #[.int .u64 e.key, .int .u64 e.val, .int .i64 e.at_, .bool e.fix]
/-- a closure's answer to states, as long as what was there stays but for one row -/
def Asks (f : FuncId) (lb : Array Value) (p : Ent → Bool) (row : Option Nat) (w : World) : Prop :=
  ∀ W (e : Ent), e.ok → w.grownBy W row → Calls Tryd.prog f (#[e.st] ++ lb) W fun x w' => x = .returned (.bool (p e)) ∧ Below W.heap.size W w'
/-- the same of parts, of dropAll's closure -/
def AsksPart (b : Nat) (p : Ent → Bool) (row : Option Nat) (w : World) : Prop :=
  ∀ W (e : Ent), e.ok → w.grownBy W row → Calls Tryd.prog 46 #[e.part, .pointer (some ⟨b, 0, none⟩)] W fun x w' => x = .returned (.bool (p e)) ∧ Below W.heap.size W w'
theorem grown_of {w W : World} (h : Below w.heap.size w W) (row : Option Nat) : w.grownBy W row := ⟨h.os, h.tape, h.output, h.size, fun k hk _ => h.block k hk⟩
theorem grown_trans {a b c : World} {row : Option Nat} (h : a.grownBy b row) (k : b.grownBy c row) : a.grownBy c row :=
  ⟨k.os.trans h.os, k.tape.trans h.tape, k.output.trans h.output, Nat.le_trans h.size k.size, fun i hi hr => (k.block i (Nat.lt_of_lt_of_le hi h.size) hr).trans (h.block i hi hr)⟩
theorem asks_grown {f : FuncId} {lb : Array Value} {p : Ent → Bool} {row : Option Nat} {w W : World} (h : Asks f lb p row w) (g : w.grownBy W row) : Asks f lb p row W := fun W' e he hg => h W' e he (grown_trans g hg)
theorem asksPart_grown {b : Nat} {p : Ent → Bool} {row : Option Nat} {w W : World} (h : AsksPart b p row w) (g : w.grownBy W row) : AsksPart b p row W := fun W' e he hg => h W' e he (grown_trans g hg)
set_option maxRecDepth 100000 in
theorem dcl_any (f : FuncId) (lb : Array Value) (eg : ∀ args w, (callFunc f args).run Tryd.prog w = .ok (.enter f args) w) (p : Ent → Bool) (row : Option Nat) (b : Nat) (w : World)
    (hb : w.heap[b]? = some (.cells #[.func (.func f) #[] lb] 102 (0, 0))) (hrow : some b ≠ row) (hp : Asks f lb p row w) : AsksPart b p row w := by
  intro W e he hg
  have hbW : W.cell? ⟨b, 0, none⟩ = some (.func (.func f) #[] lb) := cell_of_one ((hg.block b (lt_of_row hb) hrow).trans hb)
  have hbl := block_lt_of_cell hbW
  have C := hide (fun W' (h : Below W.heap.size W W') => hp W' e he (grown_trans hg (grown_of h row)))
  clear hp hb hg
  unfold Ent.part
  unfold Ent.st at C
  generalize p e = q at C ⊢
  go_enter Tryd.func46, Tryd.ntmps46
  go_wp2_with (go_at_fn f; refine (unhide C _ (alloc_below _ _)).mono ?_; rintro e' w2 ⟨rfl, b2⟩)
  go_ret
  exact ⟨rfl, bthen (alloc_below _ _) b2⟩
theorem ixf_at (L : List Ent) (r c b q : Nat) (z : Int) (p : Ent → Bool) (row : Option Nat) (w : World) (hr : Prow w r L) (hok : Oks L) (hc : L.length ≤ 4096) (hp : AsksPart b p row w) (hq : q ≤ L.length)
    (h1 : ∀ j (h : j < L.length), j < q → p (L[j]) = false) (h2 : ∀ h : q < L.length, p (L[q]) = true) (hz : z = if q < L.length then (q : Int) else -1) :
    Calls Tryd.prog 56 #[.slice (some ⟨r, 0, none⟩) L.length c, .func (.func 46) #[] #[.pointer (some ⟨b, 0, none⟩)]] w fun e w' => e = .returned (.int .i64 z) ∧ Below w.heap.size w w' := by
  have HR := hide hr
  have HP := hide hp
  have HK := hide hok
  have H1 := hide h1
  have H2 := hide h2
  have HZ := hide hz
  clear hr h1 h2 hz hp hok
  go_enter Tryd.func56, Tryd.ntmps56
  go_wp2_with fail
  go_loopw [8] (fun a wr => ∃ k : Nat, a = .int .i64 k ∧ k ≤ q ∧ k ≤ L.length ∧ Below w.heap.size w wr) (fun a _ => L.length - (intOf a).toNat)
  case atStart => exact ⟨0, rfl, Nat.zero_le _, Nat.zero_le _, Below.refl _ _⟩
  case round =>
    obtain ⟨k, rfl, hkq, hkl, hb⟩ := hrel
    have HB := hide hb
    have hr1 := (unhide HR).below hb
    clear hb
    by_cases hlt : k < L.length
    · have e0 := hr1.at0 k hlt
      have e1 := hr1.at1 k hlt
      have e2 := hr1.at2 k hlt
      have e3 := hr1.at3 k hlt
      have q1 := hide (fun x => unhide H1 k hlt x)
      have q2 := hide (fun (x : k = q) => by subst x; exact unhide H2 hlt : k = q → p (L[k]) = true)
      have C1 := hide ((unhide HP) wr (L[k]) ((unhide HK) _ (List.getElem_mem _)) (grown_of (unhide HB) row))
      unfold Ent.part at C1
      clear hr1
      generalize L[k] = E at e0 e1 e2 e3 q1 q2 C1
      by_cases hkk : k = q
      · rw [unhide q2 hkk] at C1
        have hz : z = (k : Int) := by rw [unhide HZ, if_pos (by omega), hkk]
        subst hz
        clear q1 q2 hkk
        go_wp2_with fail
        refine (unhide C1).mono ?_
        rintro e w2 ⟨rfl, b2⟩
        have hb2 := bthen (unhide HB) b2
        clear b2 e0 e1 e2 e3
        go_wp2_with fail
        go_ret
        exact ⟨rfl, hb2⟩
      · rw [unhide q1 (by omega)] at C1
        clear q1 q2
        go_wp2_with fail
        refine (unhide C1).mono ?_
        rintro e w2 ⟨rfl, b2⟩
        have hb2 := bthen (unhide HB) b2
        clear b2 e0 e1 e2 e3
        go_wp2_with fail
        go_roundw
        case rel => exact ⟨k + 1, by go_num, by omega, by omega, hb2⟩
        case measure => simp [intOf]; omega
    · have hz : z = -1 := by rw [unhide HZ, if_neg (by omega)]
      subst hz
      clear hr1
      go_wp2_with fail
      go_ret
      exact ⟨rfl, unhide HB⟩
theorem ixf_nil (b : Nat) (v : Value) (w : World) (hv : v = .slice none 0 0) :
    Calls Tryd.prog 56 #[v, .func (.func 46) #[] #[.pointer (some ⟨b, 0, none⟩)]] w fun e w' => e = .returned (.int .i64 (-1)) ∧ Below w.heap.size w w' := by
  subst hv
  go_enter Tryd.func56, Tryd.ntmps56
  go_wp2
  refine wp_loop_rounds 1 ?_
  rw [rounds_succ]
  go_wp2
  go_ret
  exact ⟨rfl, Below.refl _ _⟩
end Go.Proofs.YtljhgehlaehgnaaDoor
