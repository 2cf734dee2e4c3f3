/-
  The contracts of ordered's dropAll, and of Table's Clear and Expire: all of those are taken out, and how many.
-/
import Derived.Test.YtljhgehlaehgnaaDoorAg9
namespace Go.Proofs.YtljhgehlaehgnaaDoor
open Go.RowKit Go.Sort

/-- what a deletion leaves: a slice of the same row, owned -/
theorem delf_any (B : Nat) (L : List Ent) (v : Value) (b : Nat) (p : Ent → Bool) (w : World) (ho : Own B w v L) (hok : Oks L) (hc : L.length ≤ 4096) (hp : AsksPart b p v.ownBlock w) :
    ∃ (a : Option Addr) (c m : Nat), m = (kept p L).length ∧ (Value.slice a m c).ownBlock = v.ownBlock ∧ Calls Tryd.prog 45 #[v, .func (.func 46) #[] #[.pointer (some ⟨b, 0, none⟩)]] w fun e w' => e = .returned (.slice a m c) ∧ w.grownBy w' v.ownBlock ∧ Own B w' (.slice a m c) (kept p L) := by
  rcases ho.parts with ⟨rfl, rfl⟩ | ⟨r, cap, R, rfl, hB, hr, hcap, hm, hR⟩
  · refine ⟨none, 0, 0, rfl, rfl, ?_⟩
    have IX := hide (ixf_nil b (.slice none 0 0) w rfl)
    clear ho hok hp
    go_enter Tryd.func45, Tryd.ntmps45
    go_wp2_with fail
    refine (unhide IX).mono ?_
    rintro e w2 ⟨rfl, b2⟩
    go_wp2_with fail
    go_ret
    exact ⟨rfl, grown_of b2 _, World.ownsRow_nil _ _ _ _⟩
  · by_cases hh : ∃ q, ∃ h : q < L.length, p L[q] = true ∧ ∀ j (h : j < L.length), j < q → p L[j] = false
    · obtain ⟨q, hq, h2, h1⟩ := hh
      refine ⟨some ⟨r, 0, none⟩, cap, (kept p L).length, rfl, rfl, ?_⟩
      refine (delf_hit L r cap b q L.length R p w hr hok rfl hc hcap hm hR hp hq h1 (fun _ => h2)).mono ?_
      rintro e w' ⟨rfl, g, R', r', hR'⟩
      have := kept_len p L
      exact ⟨rfl, g, own_of hB r' (by omega) hm (by rw [hR']; omega)⟩
    · have hn : ∀ e ∈ L, p e = false := by
        intro e he
        obtain ⟨j, hj, rfl⟩ := List.mem_iff_getElem.1 he
        induction j using Nat.strongRecOn with
        | ind j ih =>
          cases hpj : p L[j] with
          | false => rfl
          | true => exact absurd ⟨j, hj, hpj, fun i hi hlt => ih i hlt hi (List.getElem_mem _)⟩ hh
      rw [kept_none p L hn]
      refine ⟨some ⟨r, 0, none⟩, cap, L.length, rfl, rfl, ?_⟩
      have IX := hide (ixf_at L r cap b L.length (-1) p (some r) w (prow_of hr) hok hc hp (Nat.le_refl _) (fun j h _ => hn _ (List.getElem_mem _)) (fun h => absurd h (by omega)) (by rw [if_neg (by omega)]))
      have HO := hide ho
      clear hr hok hp hh hn ho
      go_enter Tryd.func45, Tryd.ntmps45
      go_wp2_with fail
      refine (unhide IX).mono ?_
      rintro e w2 ⟨rfl, b2⟩
      go_wp2_with fail
      go_ret
      exact ⟨rfl, grown_of b2 _, (unhide HO).below b2⟩
theorem kept_oks {p : Ent → Bool} {L : List Ent} (h : Oks L) : Oks (kept p L) := h.filter _
theorem kept_srt {p : Ent → Bool} {L : List Ent} (h : Srt L) : Srt (kept p L) := h.filter _
set_option maxRecDepth 100000 in
theorem dropAll_any (B : Nat) (L : List Ent) (v : Value) (g : Nat) (room life : Int) (f : FuncId) (lb : Array Value) (eg : ∀ args w, (callFunc f args).run Tryd.prog w = .ok (.enter f args) w) (p : Ent → Bool) (d : Int) (w : World) (T : Tab B w g room life v L) (hp : Asks f lb p v.ownBlock w)
    (hd : d = (L.length : Int) - ((kept p L).length : Int)) :
    Calls Tryd.prog 35 #[.pointer (some ⟨g, 2, none⟩), .func (.func f) #[] lb] w fun e w' => e = .returned (.int .i64 d) ∧ Turned B g room life v (kept p L) w w' := by
  have hgl := T.lt
  have hB := alloc_below w (.cells #[.func (.func f) #[] lb] 102)
  have hbr : some w.heap.size ≠ v.ownBlock := fun e => by have := (T.vlt _ e.symm).2; omega
  have hrow := heap_alloc_new w (.cells #[.func (.func f) #[] lb] 102)
  have hq := dcl_any f lb eg p v.ownBlock w.heap.size (w.alloc (.cells #[.func (.func f) #[] lb] 102)) hrow hbr (asks_grown hp (grown_of hB _))
  have T1 := T.below hB
  obtain ⟨a, c, m, hm, hob, D⟩ := delf_any B L v w.heap.size p _ T1.own T.oks T.len hq
  have hcx := T1.cell
  have D := hide D
  have hml : (m : Int) ≤ (L.length : Int) := by rw [hm]; have := kept_len p L; omega
  have fin : Hid (∀ w2, (w.alloc (.cells #[.func (.func f) #[] lb] 102)).grownBy w2 v.ownBlock → Own B w2 (.slice a m c) (kept p L) → Turned B g room life v (kept p L) w (w2.setCell ⟨g, 2, none⟩ (.slice a m c))) := by
    intro w2 g2 o2
    exact turned_of T hB g2 (.inl rfl) o2 (.inl hob) (kept_srt T.srt) (kept_oks T.oks) (by have := T.fit; rw [← hm]; omega)
  have hgv : some g ≠ v.ownBlock := fun e => T.apart e.symm
  have hgrow := hide T1.row
  have hlen : L.length ≤ 4096 := T.len
  rw [← hm] at hd
  obtain ⟨av, cv, hv⟩ : ∃ av cv, v = .slice av L.length cv := by
    rcases T.own.parts with ⟨h, rfl⟩ | ⟨r, cap, R, h, _⟩
    · exact ⟨none, 0, h⟩
    · exact ⟨some ⟨r, 0, none⟩, cap, h⟩
  clear hm hob hq hrow T1 T hp hB
  subst hv
  generalize L.length = n at *
  go_enter Tryd.func35, Tryd.ntmps35
  go_wp2_with fail
  refine (unhide D).mono ?_
  rintro e w2 ⟨rfl, g2, o2⟩
  have r2 := (g2.block g (lt_of_row (unhide hgrow)) hgv).trans (unhide hgrow)
  have hc2 := (cells3 r2).2.2.1
  have hf2 := (cells3 r2).2.2.2.2.2
  have fin2 := hide (unhide fin w2 g2 o2)
  clear D fin r2 g2 o2 hgrow
  go_wp2_with fail
  go_ret
  exact ⟨by rw [hd]; rfl, unhide fin2⟩
end Go.Proofs.YtljhgehlaehgnaaDoor
