/-
  The contract of binding's Note.
-/
import Derived.Test.YtljhgehlaehgnaaDoorBd1
import Derived.Test.YtljhgehlaehgnaaDoorArp5
import Derived.Test.YtljhgehlaehgnaaDoorAgPlain3
import Derived.Deep.RegionHeld3
namespace Go.Proofs.YtljhgehlaehgnaaDoor
open Go.RowKit Go.Sort

/-- none is fixed -/
def NF (L : List Ent) : Prop := ∀ e ∈ L, e.fix = false
theorem nf_ins {L : List Ent} {x : Ent} (h : NF L) (hx : x.fix = false) : NF (ins x L) := fun y hy => by
  rcases mem_ins hy with rfl | hy
  · exact hx
  · exact h y hy
theorem nf_kept {L : List Ent} (p : Ent → Bool) (h : NF L) : NF (kept p L) := fun y hy => h y (List.mem_filter.1 hy).1
theorem nf_del {L : List Ent} (k : Int) (h : NF L) : NF (del L k) := fun y hy => h y (List.mem_filter.1 hy).1
theorem roomed_nf {room : Int} {L : List Ent} (hs : Srt L) (h : NF L) (h1 : 1 ≤ room) : ∃ L1, roomed room L = some L1 ∧ NF L1 := by
  unfold roomed
  by_cases hl : (L.length : Int) < room
  · rw [if_pos hl]; exact ⟨L, rfl, h⟩
  · rw [if_neg hl]
    cases ho : oldest L with
    | none =>
      have := oldest_none hs ho
      cases L with
      | nil => simp at hl; omega
      | cons e L =>
        have h2 := this e (by simp)
        rw [h e (by simp)] at h2
        cases h2
    | some b => exact ⟨_, rfl, nf_del _ h⟩
/-- what is put where none is fixed -/
theorem putP_nf {room life : Int} {L : List Ent} {x : Ent} (hs : Srt L) (h : NF L) (h1 : 1 ≤ room) (hx : x.fix = false) : (putP room life L x).1 = (if timeB x.at_ then 0 else 1) ∧ NF (putP room life L x).2 := by
  unfold putP
  cases ht : timeB x.at_ with
  | false => exact ⟨rfl, h⟩
  | true =>
    simp only [if_true]
    cases hl : look L x.key with
    | some y =>
      have hy : y.fix = false := h y (look_mem hl)
      simp only [hy]
      exact ⟨rfl, nf_ins h hx⟩
    | none =>
      have hn : look (kept (oldE life x.at_) L) x.key = none := by
        rw [look_none_iff] at hl ⊢
        exact fun y hy => hl y (List.mem_filter.1 hy).1
      obtain ⟨L1, h2, h3⟩ := roomed_nf (room := room) (hs.filter _) (nf_kept (oldE life x.at_) h) h1
      have e : noted room (kept (oldE life x.at_) L) x = some (ins x L1) := by
        unfold noted
        rw [hn]
        have : roomed room (kept (oldE life x.at_) L) = some L1 := h2
        simp [this]
      simp only [e]
      exact ⟨rfl, nf_ins h3 hx⟩
/-- is a message noted -/
def noteB (vid : Int) (a : Ar) (now : Int) : Bool := vlanB vid && (a.check == 0) && !(a.sip == 0) && timeB now
/-- what is noted -/
def noteE (vid : Int) (a : Ar) (now : Int) : Ent := ⟨bkey vid a.sip, a.smac, now, false⟩
/-- what is left -/
def noteL (room life : Int) (L : List Ent) (vid : Int) (a : Ar) (now : Int) : List Ent := if noteB vid a now then (putP room life L (noteE vid a now)).2 else L
theorem same_regrown {P : Program} {f : FuncId} {args : Array Value} {W1 : World} {d : Nat} {os : Array Obj} {v : Value} (h : Calls P f args (grow (redrawn W1 d) os) fun e w' => e = .returned v ∧ w' = grow (redrawn W1 d) os) :
    Calls P f args (grow (redrawn W1 d) os) fun e w'' => e = .returned v ∧ ∃ p : Regrown, w'' = grow (redrawn W1 p.d) p.os :=
  h.mono fun _ _ ⟨he, hw⟩ => ⟨he, ⟨d, os⟩, hw⟩
theorem below_then (w W : World) (h : Below w.heap.size w W) (d : Nat) (os : Array Obj) : Below w.heap.size w (grow (redrawn W d) os) := bthen h (below_regrown W d os)
/-- a message in a block of its own -/
def Ar.obj (a : Ar) : Obj := .cells #[.int .i64 a.op, .int .u64 (a.smac : Int), .int .u32 (a.sip : Int), .int .u64 (a.tmac : Int), .int .u32 (a.tip : Int)] 37 (0, 0)
set_option maxRecDepth 100000 in
theorem note_vid (g : Nat) (vid now : Int) (a : Ar) (W : World) (h : vlanB vid = false) :
    Calls Tryd.prog 8 #[.pointer (some ⟨g, 0, none⟩), .int .i64 vid, a.val, .int .i64 now] W fun e W' => e = .returned (.bool false) ∧ Below W.heap.size W W' := by
  obtain ⟨op, s, i, t, j⟩ := a
  have C : ∀ (W1 : World) d os, Calls Tryd.prog 17 #[.int .i64 vid] (grow (redrawn W1 d) os) fun e w'' => e = .returned (.bool false) ∧ ∃ p : Regrown, w'' = grow (redrawn W1 p.d) p.os := fun W1 d os => same_regrown (by have := isVlan_any vid (grow (redrawn W1 d) os); rw [h] at this; exact this)
  have B0 := hide (alloc_below W (.cells #[.int .i64 op, .int .u64 (s : Int), .int .u32 (i : Int), .int .u64 (t : Int), .int .u32 (j : Int)] 37))
  clear h
  unfold Ar.val
  simp only
  go_enter Tryd.func8, Tryd.ntmps8
  go_wp2_with fail
  generalize W.alloc (.cells #[.int .i64 op, .int .u64 (s : Int), .int .u32 (i : Int), .int .u64 (t : Int), .int .u32 (j : Int)] 37) = W1 at *
  have C1 := C W1
  clear C
  refine wp_region_quiet_below (by kernel_rfl) (by kernel_rfl) ?_
  repeat (go_big_quiet_step (first | (go_at_call 17; exact C1 _ _)))
  refine wpQuiet_nil ?_
  rintro _ ⟨⟨dq, osq⟩, rfl⟩
  go_wp2
  go_ret
  exact ⟨rfl, below_then W W1 (unhide B0) dq osq⟩
set_option maxRecDepth 100000 in
theorem note_check (g : Nat) (vid now : Int) (a : Ar) (W : World) (ha : a.fits) (h : vlanB vid = true) (hc : a.check ≠ 0) :
    Calls Tryd.prog 8 #[.pointer (some ⟨g, 0, none⟩), .int .i64 vid, a.val, .int .i64 now] W fun e W' => e = .returned (.bool false) ∧ Below W.heap.size W W' := by
  have C : ∀ (W1 : World) d os, Calls Tryd.prog 17 #[.int .i64 vid] (grow (redrawn W1 d) os) fun e w'' => e = .returned (.bool true) ∧ ∃ p : Regrown, w'' = grow (redrawn W1 p.d) p.os := fun W1 d os => same_regrown (by have := isVlan_any vid (grow (redrawn W1 d) os); rw [h] at this; exact this)
  have K : ∀ (W1 : World) d os, Calls Tryd.prog 10 #[a.val] (grow (redrawn W1 d) os) fun e w'' => e = .returned (.int .i64 a.check) ∧ ∃ p : Regrown, w'' = grow (redrawn W1 p.d) p.os := fun W1 d os => Calls.regrown_of (arpCheck_any a _ ha)
  have hc' : (a.check == 0) = false := by simpa using hc
  generalize a.check = c at K hc'
  clear hc
  obtain ⟨op, s, i, t, j⟩ := a
  have hi : i < 4294967296 := ha.2.2.1
  have B0 := hide (alloc_below W (.cells #[.int .i64 op, .int .u64 (s : Int), .int .u32 (i : Int), .int .u64 (t : Int), .int .u32 (j : Int)] 37))
  have k0 := fun d os => cell_regrown (cells5 (heap_alloc_new W (.cells #[.int .i64 op, .int .u64 (s : Int), .int .u32 (i : Int), .int .u64 (t : Int), .int .u32 (j : Int)] 37))).1 d os
  have k1 := fun d os => cell_regrown (cells5 (heap_alloc_new W (.cells #[.int .i64 op, .int .u64 (s : Int), .int .u32 (i : Int), .int .u64 (t : Int), .int .u32 (j : Int)] 37))).2.1 d os
  have k2 := fun d os => cell_regrown (cells5 (heap_alloc_new W (.cells #[.int .i64 op, .int .u64 (s : Int), .int .u32 (i : Int), .int .u64 (t : Int), .int .u32 (j : Int)] 37))).2.2.1 d os
  have k3 := fun d os => cell_regrown (cells5 (heap_alloc_new W (.cells #[.int .i64 op, .int .u64 (s : Int), .int .u32 (i : Int), .int .u64 (t : Int), .int .u32 (j : Int)] 37))).2.2.2.1 d os
  have k4 := fun d os => cell_regrown (cells5 (heap_alloc_new W (.cells #[.int .i64 op, .int .u64 (s : Int), .int .u32 (i : Int), .int .u64 (t : Int), .int .u32 (j : Int)] 37))).2.2.2.2.1 d os
  clear h ha
  unfold Ar.val at K ⊢
  simp only at K ⊢
  go_enter Tryd.func8, Tryd.ntmps8
  go_wp2_with fail
  generalize W.alloc (.cells #[.int .i64 op, .int .u64 (s : Int), .int .u32 (i : Int), .int .u64 (t : Int), .int .u32 (j : Int)] 37) = W1 at *
  have C1 := C W1
  have K1 := K W1
  clear C K
  refine wp_region_quiet_below (by kernel_rfl) (by kernel_rfl) ?_
  repeat (go_big_quiet_step (first | (go_at_call 17; exact C1 _ _) | (go_at_call 10; exact K1 _ _)))
  refine wpQuiet_nil ?_
  rintro _ ⟨⟨dq, osq⟩, rfl⟩
  go_wp2
  go_ret
  exact ⟨rfl, below_then W W1 (unhide B0) dq osq⟩
set_option maxRecDepth 100000 in
theorem note_zero (g : Nat) (vid now : Int) (a : Ar) (W : World) (ha : a.fits) (h : vlanB vid = true) (hc : a.check = 0) (hz : a.sip = 0) :
    Calls Tryd.prog 8 #[.pointer (some ⟨g, 0, none⟩), .int .i64 vid, a.val, .int .i64 now] W fun e W' => e = .returned (.bool false) ∧ Below W.heap.size W W' := by
  have C : ∀ (W1 : World) d os, Calls Tryd.prog 17 #[.int .i64 vid] (grow (redrawn W1 d) os) fun e w'' => e = .returned (.bool true) ∧ ∃ p : Regrown, w'' = grow (redrawn W1 p.d) p.os := fun W1 d os => same_regrown (by have := isVlan_any vid (grow (redrawn W1 d) os); rw [h] at this; exact this)
  have K : ∀ (W1 : World) d os, Calls Tryd.prog 10 #[a.val] (grow (redrawn W1 d) os) fun e w'' => e = .returned (.int .i64 a.check) ∧ ∃ p : Regrown, w'' = grow (redrawn W1 p.d) p.os := fun W1 d os => Calls.regrown_of (arpCheck_any a _ ha)
  rw [hc] at K
  have hz2 := hide hz
  clear hc hz
  obtain ⟨op, s, i, t, j⟩ := a
  have hi : i < 4294967296 := ha.2.2.1
  have B0 := hide (alloc_below W (.cells #[.int .i64 op, .int .u64 (s : Int), .int .u32 (i : Int), .int .u64 (t : Int), .int .u32 (j : Int)] 37))
  have k0 := fun d os => cell_regrown (cells5 (heap_alloc_new W (.cells #[.int .i64 op, .int .u64 (s : Int), .int .u32 (i : Int), .int .u64 (t : Int), .int .u32 (j : Int)] 37))).1 d os
  have k1 := fun d os => cell_regrown (cells5 (heap_alloc_new W (.cells #[.int .i64 op, .int .u64 (s : Int), .int .u32 (i : Int), .int .u64 (t : Int), .int .u32 (j : Int)] 37))).2.1 d os
  have k2 := fun d os => cell_regrown (cells5 (heap_alloc_new W (.cells #[.int .i64 op, .int .u64 (s : Int), .int .u32 (i : Int), .int .u64 (t : Int), .int .u32 (j : Int)] 37))).2.2.1 d os
  have k3 := fun d os => cell_regrown (cells5 (heap_alloc_new W (.cells #[.int .i64 op, .int .u64 (s : Int), .int .u32 (i : Int), .int .u64 (t : Int), .int .u32 (j : Int)] 37))).2.2.2.1 d os
  have k4 := fun d os => cell_regrown (cells5 (heap_alloc_new W (.cells #[.int .i64 op, .int .u64 (s : Int), .int .u32 (i : Int), .int .u64 (t : Int), .int .u32 (j : Int)] 37))).2.2.2.2.1 d os
  clear h ha
  unfold Ar.val at K ⊢
  simp only at K ⊢
  have hi0 : ((i : Int) != 0) = false := by have : i = 0 := unhide hz2
                                            subst this; rfl
  go_enter Tryd.func8, Tryd.ntmps8
  go_wp2_with fail
  generalize W.alloc (.cells #[.int .i64 op, .int .u64 (s : Int), .int .u32 (i : Int), .int .u64 (t : Int), .int .u32 (j : Int)] 37) = W1 at *
  have C1 := C W1
  have K1 := K W1
  clear C K
  refine wp_region_quiet_below (by kernel_rfl) (by kernel_rfl) ?_
  repeat (go_big_quiet_step (first | (go_at_call 17; exact C1 _ _) | (go_at_call 10; exact K1 _ _)))
  refine wpQuiet_nil ?_
  rintro _ ⟨⟨dq, osq⟩, rfl⟩
  go_wp2
  go_ret
  exact ⟨rfl, below_then W W1 (unhide B0) dq osq⟩
end Go.Proofs.YtljhgehlaehgnaaDoor
