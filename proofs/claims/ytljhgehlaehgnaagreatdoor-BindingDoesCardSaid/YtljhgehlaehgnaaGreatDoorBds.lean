/-
  A table of who has which address: what it holds; the contracts of binding's isVlan, keyOf, of and New.
  The contract of binding's Note.
  The contract of binding's Note, whole.
  The contract of binding's Find.
  The contract of binding's Reply.
-/
import Derived.Test.YtljhgehlaehgnaaGreatDoorAgs
import Derived.Handy
import Derived.Test.YtljhgehlaehgnaaGreatDoorArps
import Derived.Deep.RegionHeld3
namespace Go.Proofs.YtljhgehlaehgnaaGreatDoor
open Go.RowKit Go.Sort

/-- is a number a VLAN's -/
def vlanB (n : Int) : Bool := decide (1 ≤ n) && decide (n ≤ 4094)
theorem vlan_iff {n : Int} : vlanB n = true ↔ 1 ≤ n ∧ n ≤ 4094 := by simp [vlanB]
theorem isVlan_any (n : Int) (w : World) : Calls Tryz.prog 16 #[.int .i64 n] w fun e w' => e = .returned (.bool (vlanB n)) ∧ w' = w := by
  unfold vlanB
  by_cases h1 : 1 ≤ n
  · by_cases h2 : n ≤ 4094
    · rw [decide_eq_true h1, decide_eq_true h2]
      go_enter Tryz.func16, Tryz.ntmps16
      go_wp2
      go_ret
      exact ⟨rfl, rfl⟩
    · rw [decide_eq_true h1, decide_eq_false h2]
      go_enter Tryz.func16, Tryz.ntmps16
      go_wp2
      go_ret
      exact ⟨rfl, rfl⟩
  · rw [decide_eq_false h1]
    go_enter Tryz.func16, Tryz.ntmps16
    go_wp2
    go_ret
    exact ⟨rfl, rfl⟩
/-- the key of an address in a VLAN -/
def bkey (vid : Int) (ip : Nat) : Int := vid * 4294967296 + ip
theorem or_up (a b : Int) (n : Nat) (ha : 0 ≤ a) (hb : 0 ≤ b) (hb2 : b < ((2 ^ n : Nat) : Int)) (h : a * ((2 ^ n : Nat) : Int) + b < 18446744073709551616) :
    bits BinOp.or IntKind.u64 (a * ((2 ^ n : Nat) : Int)) b = a * ((2 ^ n : Nat) : Int) + b := by
  obtain ⟨x, rfl⟩ := Int.eq_ofNat_of_zero_le ha
  obtain ⟨y, rfl⟩ := Int.eq_ofNat_of_zero_le hb
  have e : ((x : Int) * ((2 ^ n : Nat) : Int)) = ((x * 2 ^ n : Nat) : Int) := by simp
  rw [e] at h ⊢
  rw [u64_or_nat _ _ (by omega) (by omega), Nat.mul_comm x, ← Nat.two_pow_add_eq_or_of_lt (by omega)]
  omega
theorem or_ip (vid ip : Int) (h1 : 1 ≤ vid ∧ vid ≤ 4094) (h2 : 0 ≤ ip ∧ ip < 4294967296) : bits BinOp.or IntKind.u64 (vid * 4294967296) ip = vid * 4294967296 + ip := by
  have e : ((2 ^ 32 : Nat) : Int) = 4294967296 := by decide
  have := or_up vid ip 32 (by omega) h2.1 (by rw [e]; omega) (by rw [e]; omega)
  rw [e] at this
  exact this
theorem bkeyOf_at (vid ip : Int) (w : World) (hv : 1 ≤ vid ∧ vid ≤ 4094) (hi : 0 ≤ ip ∧ ip < 4294967296) :
    Calls Tryz.prog 19 #[.int .i64 vid, .int .u32 ip] w fun e w' => e = .returned (.int .u64 (vid * 4294967296 + ip)) ∧ w' = w := by
  have e := or_ip vid ip hv hi
  go_enter Tryz.func19, Tryz.ntmps19
  go_wp2
  go_ret
  exact ⟨rfl, rfl⟩
theorem bkeyOf_any (vid : Int) (ip : Nat) (w : World) (hv : 1 ≤ vid ∧ vid ≤ 4094) (hi : ip < 4294967296) :
    Calls Tryz.prog 19 #[.int .i64 vid, .int .u32 (ip : Int)] w fun e w' => e = .returned (.int .u64 (bkey vid ip)) ∧ w' = w := bkeyOf_at vid ip w hv (by omega)
theorem bkey_rng {vid : Int} {ip : Nat} (hv : 1 ≤ vid ∧ vid ≤ 4094) (hi : ip < 4294967296) : 0 ≤ bkey vid ip ∧ bkey vid ip < 18446744073709551616 := by unfold bkey; omega
/-- a table of addresses that was made since w: what it holds in W -/
structure Bnd (w : World) (g p : Nat) (room life : Int) (L : List Ent) (W : World) : Prop where
  row : W.heap[g]? = some (.cells #[.iface 47 (.pointer (some ⟨p, 0, none⟩)), .pointer (some ⟨p, 0, none⟩)] 49 (0, 0))
  has : Has w p room life L W
  low : w.heap.size ≤ g
  nf : ∀ e ∈ L, e.fix = false
theorem Bnd.below {w W W' : World} {g p : Nat} {room life : Int} {L : List Ent} (h : Bnd w g p room life L W) (b : Below W.heap.size W W') : Bnd w g p room life L W' := ⟨Below.row b h.row, h.has.below b, h.low, h.nf⟩
theorem Bnd.ptr {w W : World} {g p : Nat} {room life : Int} {L : List Ent} (h : Bnd w g p room life L W) : W.cell? ⟨g, 0, none⟩ = some (.iface 47 (.pointer (some ⟨p, 0, none⟩))) ∧ W.cell? ⟨g, 1, none⟩ = some (.pointer (some ⟨p, 0, none⟩)) := ⟨(cells2 h.row).1, (cells2 h.row).2.1⟩
theorem Bnd.lt {w W : World} {g p : Nat} {room life : Int} {L : List Ent} (h : Bnd w g p room life L W) : g < W.heap.size := lt_of_row h.row
theorem Bnd.stays {w W W' : World} {g p : Nat} {room life : Int} {L L' : List Ent} (h : Bnd w g p room life L W) (h' : Has w p room life L' W') (s : Stays W W') (n : ∀ e ∈ L', e.fix = false) : Bnd w g p room life L' W' :=
  ⟨s _ _ rfl h.row, h', h.low, n⟩
/-- of -/
theorem bof_any (p : Nat) (w : World) : Calls Tryz.prog 14 #[.pointer (some ⟨p, 0, none⟩)] w fun e w' => e = .returned (.pointer (some ⟨w.heap.size, 0, none⟩)) ∧ w' = w.alloc (.cells #[.iface 47 (.pointer (some ⟨p, 0, none⟩)), .pointer (some ⟨p, 0, none⟩)] 49) := by
  go_enter Tryz.func14, Tryz.ntmps14
  go_wp2_with fail
  go_ret
  exact ⟨rfl, rfl⟩
theorem bnew_ok {w W : World} (room life : Int) (b : Below w.heap.size w W) (h : newOk room life) :
    Calls Tryz.prog 4 #[.int .i64 room, .int .i64 life] W fun e W' => ∃ g p, e = .returned (.tuple #[.pointer (some ⟨g, 0, none⟩), .int .i64 0]) ∧ Bnd w g p room life [] W' ∧ Below W.heap.size W W' := by
  have C := hide (has_new (w := w) room life b h)
  have O := hide (fun p W => bof_any p W)
  have hb := hide b
  clear b h
  go_enter Tryz.func4, Tryz.ntmps4
  go_wp2_with fail
  refine (unhide C).mono ?_
  rintro e w1 ⟨rfl, h1, b1⟩
  have H1 := hide h1
  have B1 := hide b1
  clear h1 b1 C
  go_wp2_with fail
  refine (unhide O _ _).mono ?_
  rintro e w2 ⟨rfl, rfl⟩
  go_wp2_with fail
  go_ret2
  exact ⟨_, _, rfl, ⟨heap_alloc_new w1 _, (unhide H1).below (alloc_below _ _), Nat.le_trans (unhide hb).size (unhide B1).size, by simp⟩, alloc_then (unhide B1)⟩
theorem bnew_no {W : World} (room life : Int) (h : ¬ newOk room life) :
    Calls Tryz.prog 4 #[.int .i64 room, .int .i64 life] W fun e W' => e = .returned (.tuple #[.pointer none, .int .i64 1]) ∧ Below W.heap.size W W' := by
  have C := hide (fun W => new_no room life W h)
  clear h
  go_enter Tryz.func4, Tryz.ntmps4
  go_wp2_with fail
  refine (unhide C _).mono ?_
  rintro e w1 ⟨rfl, rfl⟩
  go_wp2_with fail
  go_ret2
  exact ⟨rfl, Below.refl _ _⟩
end Go.Proofs.YtljhgehlaehgnaaGreatDoor
namespace Go.Proofs.YtljhgehlaehgnaaGreatDoor
open Go.RowKit Go.Sort

/-- none is fixed -/
def NF (L : List Ent) : Prop := ∀ e ∈ L, e.fix = false
theorem nf_ins {L : List Ent} {x : Ent} (h : NF L) (hx : x.fix = false) : NF (ins x L) := fun y hy => by
  rcases mem_ins hy with rfl | hy
  · exact hx
  · exact h y hy
theorem nf_kept {L : List Ent} (p : Ent → Bool) (h : NF L) : NF (kept p L) := fun y hy => h y (List.mem_filter.1 hy).1
theorem nf_del {L : List Ent} (k : Int) (h : NF L) : NF (del L k) := fun y hy => h y (List.mem_filter.1 hy).1
theorem roomed_nf {room : Int} {L : List Ent} (hs : Srt L) (h : NF L) (h1 : 1 ≤ room) : ∃ L1, roomed room L = some L1 ∧ NF L1 := by
  unfold roomed
  by_cases hl : (L.length : Int) < room
  · rw [if_pos hl]; exact ⟨L, rfl, h⟩
  · rw [if_neg hl]
    cases ho : oldest L with
    | none =>
      have := oldest_none hs ho
      cases L with
      | nil => simp at hl; omega
      | cons e L =>
        have h2 := this e (by simp)
        rw [h e (by simp)] at h2
        cases h2
    | some b => exact ⟨_, rfl, nf_del _ h⟩
/-- what is put where none is fixed -/
theorem putP_nf {room life : Int} {L : List Ent} {x : Ent} (hs : Srt L) (h : NF L) (h1 : 1 ≤ room) (hx : x.fix = false) : (putP room life L x).1 = (if timeB x.at_ then 0 else 1) ∧ NF (putP room life L x).2 := by
  unfold putP
  cases ht : timeB x.at_ with
  | false => exact ⟨rfl, h⟩
  | true =>
    simp only [if_true]
    cases hl : look L x.key with
    | some y =>
      have hy : y.fix = false := h y (look_mem hl)
      simp only [hy]
      exact ⟨rfl, nf_ins h hx⟩
    | none =>
      have hn : look (kept (oldE life x.at_) L) x.key = none := by
        rw [look_none_iff] at hl ⊢
        exact fun y hy => hl y (List.mem_filter.1 hy).1
      obtain ⟨L1, h2, h3⟩ := roomed_nf (room := room) (hs.filter _) (nf_kept (oldE life x.at_) h) h1
      have e : noted room (kept (oldE life x.at_) L) x = some (ins x L1) := by
        unfold noted
        rw [hn]
        have : roomed room (kept (oldE life x.at_) L) = some L1 := h2
        simp [this]
      simp only [e]
      exact ⟨rfl, nf_ins h3 hx⟩
/-- is a message noted -/
def noteB (vid : Int) (a : Ar) (now : Int) : Bool := vlanB vid && (a.check == 0) && !(a.sip == 0) && timeB now
/-- what is noted -/
def noteE (vid : Int) (a : Ar) (now : Int) : Ent := ⟨bkey vid a.sip, a.smac, now, false⟩
/-- what is left -/
def noteL (room life : Int) (L : List Ent) (vid : Int) (a : Ar) (now : Int) : List Ent := if noteB vid a now then (putP room life L (noteE vid a now)).2 else L
theorem same_regrown {P : Program} {f : FuncId} {args : Array Value} {W1 : World} {d : Nat} {os : Array Obj} {v : Value} (h : Calls P f args (grow (redrawn W1 d) os) fun e w' => e = .returned v ∧ w' = grow (redrawn W1 d) os) :
    Calls P f args (grow (redrawn W1 d) os) fun e w'' => e = .returned v ∧ ∃ p : Regrown, w'' = grow (redrawn W1 p.d) p.os :=
  h.mono fun _ _ ⟨he, hw⟩ => ⟨he, ⟨d, os⟩, hw⟩
theorem below_then (w W : World) (h : Below w.heap.size w W) (d : Nat) (os : Array Obj) : Below w.heap.size w (grow (redrawn W d) os) := bthen h (below_regrown W d os)
/-- a message in a block of its own -/
def Ar.obj (a : Ar) : Obj := .cells #[.int .i64 a.op, .int .u64 (a.smac : Int), .int .u32 (a.sip : Int), .int .u64 (a.tmac : Int), .int .u32 (a.tip : Int)] 35 (0, 0)
set_option maxRecDepth 100000 in
theorem note_vid (g : Nat) (vid now : Int) (a : Ar) (W : World) (h : vlanB vid = false) :
    Calls Tryz.prog 7 #[.pointer (some ⟨g, 0, none⟩), .int .i64 vid, a.val, .int .i64 now] W fun e W' => e = .returned (.bool false) ∧ Below W.heap.size W W' := by
  obtain ⟨op, s, i, t, j⟩ := a
  have C : ∀ (W1 : World) d os, Calls Tryz.prog 16 #[.int .i64 vid] (grow (redrawn W1 d) os) fun e w'' => e = .returned (.bool false) ∧ ∃ p : Regrown, w'' = grow (redrawn W1 p.d) p.os := fun W1 d os => same_regrown (by have := isVlan_any vid (grow (redrawn W1 d) os); rw [h] at this; exact this)
  have B0 := hide (alloc_below W (.cells #[.int .i64 op, .int .u64 (s : Int), .int .u32 (i : Int), .int .u64 (t : Int), .int .u32 (j : Int)] 35))
  clear h
  unfold Ar.val
  simp only
  go_enter Tryz.func7, Tryz.ntmps7
  go_wp2_with fail
  generalize W.alloc (.cells #[.int .i64 op, .int .u64 (s : Int), .int .u32 (i : Int), .int .u64 (t : Int), .int .u32 (j : Int)] 35) = W1 at *
  have C1 := C W1
  clear C
  refine wp_region_quiet_below (by kernel_rfl) (by kernel_rfl) ?_
  repeat (go_big_quiet_step (first | (go_at_call 16; exact C1 _ _)))
  refine wpQuiet_nil ?_
  rintro _ ⟨⟨dq, osq⟩, rfl⟩
  go_wp2
  go_ret
  exact ⟨rfl, below_then W W1 (unhide B0) dq osq⟩
set_option maxRecDepth 100000 in
theorem note_check (g : Nat) (vid now : Int) (a : Ar) (W : World) (ha : a.fits) (h : vlanB vid = true) (hc : a.check ≠ 0) :
    Calls Tryz.prog 7 #[.pointer (some ⟨g, 0, none⟩), .int .i64 vid, a.val, .int .i64 now] W fun e W' => e = .returned (.bool false) ∧ Below W.heap.size W W' := by
  have C : ∀ (W1 : World) d os, Calls Tryz.prog 16 #[.int .i64 vid] (grow (redrawn W1 d) os) fun e w'' => e = .returned (.bool true) ∧ ∃ p : Regrown, w'' = grow (redrawn W1 p.d) p.os := fun W1 d os => same_regrown (by have := isVlan_any vid (grow (redrawn W1 d) os); rw [h] at this; exact this)
  have K : ∀ (W1 : World) d os, Calls Tryz.prog 17 #[a.val] (grow (redrawn W1 d) os) fun e w'' => e = .returned (.int .i64 a.check) ∧ ∃ p : Regrown, w'' = grow (redrawn W1 p.d) p.os := fun W1 d os => Calls.regrown_of (arpCheck_any a _ ha)
  have hc' : (a.check == 0) = false := by simpa using hc
  generalize a.check = c at K hc'
  clear hc
  obtain ⟨op, s, i, t, j⟩ := a
  have hi : i < 4294967296 := ha.2.2.1
  have B0 := hide (alloc_below W (.cells #[.int .i64 op, .int .u64 (s : Int), .int .u32 (i : Int), .int .u64 (t : Int), .int .u32 (j : Int)] 35))
  have k0 := fun d os => cell_regrown (cells5 (heap_alloc_new W (.cells #[.int .i64 op, .int .u64 (s : Int), .int .u32 (i : Int), .int .u64 (t : Int), .int .u32 (j : Int)] 35))).1 d os
  have k1 := fun d os => cell_regrown (cells5 (heap_alloc_new W (.cells #[.int .i64 op, .int .u64 (s : Int), .int .u32 (i : Int), .int .u64 (t : Int), .int .u32 (j : Int)] 35))).2.1 d os
  have k2 := fun d os => cell_regrown (cells5 (heap_alloc_new W (.cells #[.int .i64 op, .int .u64 (s : Int), .int .u32 (i : Int), .int .u64 (t : Int), .int .u32 (j : Int)] 35))).2.2.1 d os
  have k3 := fun d os => cell_regrown (cells5 (heap_alloc_new W (.cells #[.int .i64 op, .int .u64 (s : Int), .int .u32 (i : Int), .int .u64 (t : Int), .int .u32 (j : Int)] 35))).2.2.2.1 d os
  have k4 := fun d os => cell_regrown (cells5 (heap_alloc_new W (.cells #[.int .i64 op, .int .u64 (s : Int), .int .u32 (i : Int), .int .u64 (t : Int), .int .u32 (j : Int)] 35))).2.2.2.2.1 d os
  clear h ha
  unfold Ar.val at K ⊢
  simp only at K ⊢
  go_enter Tryz.func7, Tryz.ntmps7
  go_wp2_with fail
  generalize W.alloc (.cells #[.int .i64 op, .int .u64 (s : Int), .int .u32 (i : Int), .int .u64 (t : Int), .int .u32 (j : Int)] 35) = W1 at *
  have C1 := C W1
  have K1 := K W1
  clear C K
  refine wp_region_quiet_below (by kernel_rfl) (by kernel_rfl) ?_
  repeat (go_big_quiet_step (first | (go_at_call 16; exact C1 _ _) | (go_at_call 17; exact K1 _ _)))
  refine wpQuiet_nil ?_
  rintro _ ⟨⟨dq, osq⟩, rfl⟩
  go_wp2
  go_ret
  exact ⟨rfl, below_then W W1 (unhide B0) dq osq⟩
set_option maxRecDepth 100000 in
theorem note_zero (g : Nat) (vid now : Int) (a : Ar) (W : World) (ha : a.fits) (h : vlanB vid = true) (hc : a.check = 0) (hz : a.sip = 0) :
    Calls Tryz.prog 7 #[.pointer (some ⟨g, 0, none⟩), .int .i64 vid, a.val, .int .i64 now] W fun e W' => e = .returned (.bool false) ∧ Below W.heap.size W W' := by
  have C : ∀ (W1 : World) d os, Calls Tryz.prog 16 #[.int .i64 vid] (grow (redrawn W1 d) os) fun e w'' => e = .returned (.bool true) ∧ ∃ p : Regrown, w'' = grow (redrawn W1 p.d) p.os := fun W1 d os => same_regrown (by have := isVlan_any vid (grow (redrawn W1 d) os); rw [h] at this; exact this)
  have K : ∀ (W1 : World) d os, Calls Tryz.prog 17 #[a.val] (grow (redrawn W1 d) os) fun e w'' => e = .returned (.int .i64 a.check) ∧ ∃ p : Regrown, w'' = grow (redrawn W1 p.d) p.os := fun W1 d os => Calls.regrown_of (arpCheck_any a _ ha)
  rw [hc] at K
  have hz2 := hide hz
  clear hc hz
  obtain ⟨op, s, i, t, j⟩ := a
  have hi : i < 4294967296 := ha.2.2.1
  have B0 := hide (alloc_below W (.cells #[.int .i64 op, .int .u64 (s : Int), .int .u32 (i : Int), .int .u64 (t : Int), .int .u32 (j : Int)] 35))
  have k0 := fun d os => cell_regrown (cells5 (heap_alloc_new W (.cells #[.int .i64 op, .int .u64 (s : Int), .int .u32 (i : Int), .int .u64 (t : Int), .int .u32 (j : Int)] 35))).1 d os
  have k1 := fun d os => cell_regrown (cells5 (heap_alloc_new W (.cells #[.int .i64 op, .int .u64 (s : Int), .int .u32 (i : Int), .int .u64 (t : Int), .int .u32 (j : Int)] 35))).2.1 d os
  have k2 := fun d os => cell_regrown (cells5 (heap_alloc_new W (.cells #[.int .i64 op, .int .u64 (s : Int), .int .u32 (i : Int), .int .u64 (t : Int), .int .u32 (j : Int)] 35))).2.2.1 d os
  have k3 := fun d os => cell_regrown (cells5 (heap_alloc_new W (.cells #[.int .i64 op, .int .u64 (s : Int), .int .u32 (i : Int), .int .u64 (t : Int), .int .u32 (j : Int)] 35))).2.2.2.1 d os
  have k4 := fun d os => cell_regrown (cells5 (heap_alloc_new W (.cells #[.int .i64 op, .int .u64 (s : Int), .int .u32 (i : Int), .int .u64 (t : Int), .int .u32 (j : Int)] 35))).2.2.2.2.1 d os
  clear h ha
  unfold Ar.val at K ⊢
  simp only at K ⊢
  have hi0 : ((i : Int) != 0) = false := by have : i = 0 := unhide hz2
                                            subst this; rfl
  go_enter Tryz.func7, Tryz.ntmps7
  go_wp2_with fail
  generalize W.alloc (.cells #[.int .i64 op, .int .u64 (s : Int), .int .u32 (i : Int), .int .u64 (t : Int), .int .u32 (j : Int)] 35) = W1 at *
  have C1 := C W1
  have K1 := K W1
  clear C K
  refine wp_region_quiet_below (by kernel_rfl) (by kernel_rfl) ?_
  repeat (go_big_quiet_step (first | (go_at_call 16; exact C1 _ _) | (go_at_call 17; exact K1 _ _)))
  refine wpQuiet_nil ?_
  rintro _ ⟨⟨dq, osq⟩, rfl⟩
  go_wp2
  go_ret
  exact ⟨rfl, below_then W W1 (unhide B0) dq osq⟩
end Go.Proofs.YtljhgehlaehgnaaGreatDoor
namespace Go.Proofs.YtljhgehlaehgnaaGreatDoor
open Go.RowKit Go.Sort

set_option maxRecDepth 100000 in
theorem note_put_at {w W : World} {g p : Nat} {room life : Int} {L L' : List Ent} {vid now op s i t j key c : Int} (hB : Bnd w g p room life L W)
    (C : Hid (∀ W, Calls Tryz.prog 16 #[.int .i64 vid] W fun e w' => e = .returned (.bool true) ∧ w' = W))
    (K : Hid (∀ W, Calls Tryz.prog 17 #[.agg #[.int .i64 op, .int .u64 s, .int .u32 i, .int .u64 t, .int .u32 j]] W fun e w' => e = .returned (.int .i64 0) ∧ Below W.heap.size W w'))
    (V : Hid (∀ W, Calls Tryz.prog 19 #[.int .i64 vid, .int .u32 i] W fun e w' => e = .returned (.int .u64 key) ∧ w' = W))
    (hk : 0 ≤ key ∧ key < 18446744073709551616) (hv : 0 ≤ s ∧ s < 18446744073709551616) (hi : (i != 0) = true) (hP : putP room life L ⟨key, s, now, false⟩ = (c, L')) :
    Calls Tryz.prog 7 #[.pointer (some ⟨g, 0, none⟩), .int .i64 vid, .agg #[.int .i64 op, .int .u64 s, .int .u32 i, .int .u64 t, .int .u32 j], .int .i64 now] W fun e W' => e = .returned (.bool (c == 0)) ∧ Has w p room life L' W' ∧ Stays W W' := by
  have r0 := heap_alloc_new W (.cells #[.int .i64 op, .int .u64 s, .int .u32 i, .int .u64 t, .int .u32 j] 35)
  have b0 := alloc_below W (.cells #[.int .i64 op, .int .u64 s, .int .u32 i, .int .u64 t, .int .u32 j] 35)
  have F1 := hide (hB.below b0)
  have B0 := hide b0
  have G : Hid (∀ W2, Below (W.alloc (.cells #[.int .i64 op, .int .u64 s, .int .u32 i, .int .u64 t, .int .u32 j] 35)).heap.size (W.alloc (.cells #[.int .i64 op, .int .u64 s, .int .u32 i, .int .u64 t, .int .u32 j] 35)) W2 →
      Calls Tryz.prog 18 #[.pointer (some ⟨p, 0, none⟩), .int .u64 key, .int .u64 s, .int .i64 now] W2 fun e W' => e = .returned (.int .i64 c) ∧ Has w p room life L' W' ∧ Stays (W.alloc (.cells #[.int .i64 op, .int .u64 s, .int .u32 i, .int .u64 t, .int .u32 j] 35)) W') := fun W2 b => by
    have h := has_put (w := w) (W := W2) (g := p) (room := room) (life := life) (L := L) key s now (((unhide F1).below b).has) hk hv
    rw [hP] at h
    exact h.mono fun e W' ⟨h1, h2, h3⟩ => ⟨h1, h2, (Stays.of b).trans h3⟩
  have hw : w.heap.size ≤ W.heap.size := hB.has.1.size
  have R1 := hide r0
  generalize hW1 : W.alloc (.cells #[.int .i64 op, .int .u64 s, .int .u32 i, .int .u64 t, .int .u32 j] 35) = W1 at *
  have keepG : Hid (∀ W2, Below W1.heap.size W1 W2 → W2.cell? ⟨g, 1, none⟩ = some (.pointer (some ⟨p, 0, none⟩)) ∧ W2.cell? ⟨W.heap.size, 0, none⟩ = some (.int .i64 op) ∧ W2.cell? ⟨W.heap.size, 1, none⟩ = some (.int .u64 s) ∧ W2.cell? ⟨W.heap.size, 2, none⟩ = some (.int .u32 i) ∧ W2.cell? ⟨W.heap.size, 3, none⟩ = some (.int .u64 t) ∧ W2.cell? ⟨W.heap.size, 4, none⟩ = some (.int .u32 j)) := fun W2 h => by
    have c := cells5 (Below.row h (unhide R1))
    exact ⟨((unhide F1).below h).ptr.2, c.1, c.2.1, c.2.2.1, c.2.2.2.1, c.2.2.2.2.1⟩
  have keepS : Hid (∀ W2, Stays W1 W2 → W2.cell? ⟨g, 1, none⟩ = some (.pointer (some ⟨p, 0, none⟩)) ∧ W2.cell? ⟨W.heap.size, 0, none⟩ = some (.int .i64 op) ∧ W2.cell? ⟨W.heap.size, 1, none⟩ = some (.int .u64 s) ∧ W2.cell? ⟨W.heap.size, 2, none⟩ = some (.int .u32 i) ∧ W2.cell? ⟨W.heap.size, 3, none⟩ = some (.int .u64 t) ∧ W2.cell? ⟨W.heap.size, 4, none⟩ = some (.int .u32 j)) := fun W2 h => by
    have c := cells5 (h _ _ rfl (unhide R1))
    exact ⟨(cells2 (h _ _ rfl (unhide F1).row)).2.1, c.1, c.2.1, c.2.2.1, c.2.2.2.1, c.2.2.2.2.1⟩
  clear r0 b0 hB hP hk hv
  go_enter Tryz.func7, Tryz.ntmps7
  go_wp2_with fail
  clear hW1
  go_region_held3 (fun w' => w'.cell? ⟨g, 1, none⟩ = some (.pointer (some ⟨p, 0, none⟩)) ∧ w'.cell? ⟨W.heap.size, 0, none⟩ = some (.int .i64 op) ∧ w'.cell? ⟨W.heap.size, 1, none⟩ = some (.int .u64 s) ∧ w'.cell? ⟨W.heap.size, 2, none⟩ = some (.int .u32 i) ∧ w'.cell? ⟨W.heap.size, 3, none⟩ = some (.int .u64 t) ∧ w'.cell? ⟨W.heap.size, 4, none⟩ = some (.int .u32 j)) ((first | exact unhide keepS _ (unhide S3) | (refine unhide keepG _ ?_; (repeat (first | (with_reducible exact Below.refl _ _) | (with_reducible refine Below.drew ?_) | (with_reducible refine bthen ?_ B2))); done)))
    ((first | (go_at_call 16; refine (unhide C _).mono ?_; rintro e2 w4 ⟨rfl, rfl⟩) | (go_at_call 17; refine (unhide K _).mono ?_; rintro e2 w2 ⟨rfl, B2⟩) | (go_at_call 19; refine (unhide V _).mono ?_; rintro e2 w5 ⟨rfl, rfl⟩) | (go_at_call 18; refine (unhide G _ ?_).mono ?_; (repeat (first | (with_reducible exact Below.refl _ _) | (with_reducible refine Below.drew ?_) | (with_reducible refine bthen ?_ B2))); rintro e3 w3 ⟨rfl, h3, s3⟩; have H3 := hide h3; have S3 := hide s3; clear h3 s3)))
  all_goals
    go_wp2_with fail
    go_ret
    exact ⟨rfl, unhide H3, (Stays.of (unhide B0)).trans (unhide S3)⟩
theorem bnote_any {w W : World} {g p : Nat} {room life : Int} {L : List Ent} (vid now : Int) (a : Ar) (hB : Bnd w g p room life L W) (hs : Srt L) (h1 : 1 ≤ room) (ha : a.fits) :
    Calls Tryz.prog 7 #[.pointer (some ⟨g, 0, none⟩), .int .i64 vid, a.val, .int .i64 now] W fun e W' => e = .returned (.bool (noteB vid a now)) ∧ Bnd w g p room life (noteL room life L vid a now) W' ∧ Stays W W' := by
  have no : ∀ (_ : noteB vid a now = false), Calls Tryz.prog 7 #[.pointer (some ⟨g, 0, none⟩), .int .i64 vid, a.val, .int .i64 now] W (fun e W' => e = .returned (.bool false) ∧ Below W.heap.size W W') → Calls Tryz.prog 7 #[.pointer (some ⟨g, 0, none⟩), .int .i64 vid, a.val, .int .i64 now] W fun e W' => e = .returned (.bool (noteB vid a now)) ∧ Bnd w g p room life (noteL room life L vid a now) W' ∧ Stays W W' := fun hn h => by
    unfold noteL
    rw [hn]
    exact h.mono fun e W' ⟨h1, h2⟩ => ⟨h1, hB.below h2, Stays.of h2⟩
  cases hv : vlanB vid with
  | false => exact no (by simp [noteB, hv]) (note_vid g vid now a W hv)
  | true =>
    by_cases hc : a.check = 0
    · by_cases hz : a.sip = 0
      · exact no (by simp [noteB, hz]) (note_zero g vid now a W ha hv hc hz)
      · have hr := bkey_rng (vlan_iff.1 hv) ha.2.2.1
        obtain ⟨hp1, hp2⟩ := putP_nf (room := room) (life := life) (x := ⟨bkey vid a.sip, a.smac, now, false⟩) hs hB.nf h1 rfl
        have hn : noteB vid a now = timeB now := by simp [noteB, hv, hc, hz]
        have C := hide (fun W => isVlan_any vid W)
        rw [hv] at C
        have K := hide (fun W => arpCheck_any a W ha)
        rw [hc] at K
        refine (note_put_at (c := (putP room life L ⟨bkey vid a.sip, a.smac, now, false⟩).1) (L' := (putP room life L ⟨bkey vid a.sip, a.smac, now, false⟩).2) hB C K (hide (fun W => bkeyOf_any vid a.sip W (vlan_iff.1 hv) ha.2.2.1)) hr (by have := ha.2.1; omega) (by simp; omega) rfl).mono fun e W' ⟨h2, h3, h4⟩ => ⟨?_, ?_, h4⟩
        · rw [h2, hp1, hn]
          cases timeB now <;> rfl
        · have e : noteL room life L vid a now = (putP room life L ⟨bkey vid a.sip, a.smac, now, false⟩).2 := by
            unfold noteL
            rw [hn]
            cases ht : timeB now with
            | true => rfl
            | false => simp [putP, ht]
          rw [e]
          exact hB.stays h3 h4 hp2
    · exact no (by simp [noteB, hc]) (note_check g vid now a W ha hv hc)
end Go.Proofs.YtljhgehlaehgnaaGreatDoor
namespace Go.Proofs.YtljhgehlaehgnaaGreatDoor
open Go.RowKit Go.Sort

/-- the answer to who has an address -/
def macO : Option Ent → Value
  | some e => .tuple #[.int .u64 e.val, .bool true]
  | none => .tuple #[.int .u64 0, .bool false]
/-- the entry that answers -/
def findE (life now : Int) (L : List Ent) (vid : Int) (ip : Nat) : Option Ent := if vlanB vid then told life now (look L (bkey vid ip)) else none
theorem ent_parts (t : Option Ent) : ∃ (E : Ent) (is : Bool), entO t = .tuple #[.agg #[.int .u64 E.key, .int .u64 E.val, .int .i64 E.at_, .bool E.fix], .bool is] ∧ macO t = .tuple #[.int .u64 E.val, .bool is] := by
  cases t with
  | none => exact ⟨⟨0, 0, 0, false⟩, false, rfl, rfl⟩
  | some e => exact ⟨e, true, rfl, rfl⟩
theorem bfind_not {vid now i : Int} (g : Nat) (W : World) (h : vlanB vid = false) :
    Calls Tryz.prog 21 #[.pointer (some ⟨g, 0, none⟩), .int .i64 vid, .int .u32 i, .int .i64 now] W fun e W' => e = .returned (macO none) ∧ W' = W := by
  have C := hide (fun W => isVlan_any vid W)
  rw [h] at C
  clear h
  unfold macO
  go_enter Tryz.func21, Tryz.ntmps21
  go_wp2_with fail
  refine (unhide C _).mono ?_
  rintro e w1 ⟨rfl, rfl⟩
  go_wp2_with fail
  go_ret2
  exact ⟨rfl, rfl⟩
set_option maxHeartbeats 1000000 in
theorem bfind_at {w W1 : World} {g p : Nat} {room life : Int} {L : List Ent} {vid now i key : Int} (hB : Bnd w g p room life L W1)
    (C : Hid (∀ W, Calls Tryz.prog 16 #[.int .i64 vid] W fun e w' => e = .returned (.bool true) ∧ w' = W))
    (K : Hid (∀ W, Calls Tryz.prog 19 #[.int .i64 vid, .int .u32 i] W fun e w' => e = .returned (.int .u64 key) ∧ w' = W)) :
    Calls Tryz.prog 21 #[.pointer (some ⟨g, 0, none⟩), .int .i64 vid, .int .u32 i, .int .i64 now] W1 fun e W' => e = .returned (macO (told life now (look L key))) ∧ Below W1.heap.size W1 W' := by
  have G := hide (fun W2 (h : Below W1.heap.size W1 W2) => has_get (w := w) (W := W2) (g := p) (room := room) (life := life) (L := L) key now (hB.has.below h))
  obtain ⟨E, is, hE, ht⟩ := ent_parts (told life now (look L key))
  rw [hE] at G
  rw [ht]
  have f2 := hB.ptr.2
  have keepG : Hid (∀ W2, Below W1.heap.size W1 W2 → W2.cell? ⟨g, 1, none⟩ = some (.pointer (some ⟨p, 0, none⟩))) := fun W2 h => (h.cell (p := ⟨g, 1, none⟩) (block_lt_of_cell f2)).trans f2
  clear hE ht hB
  go_enter Tryz.func21, Tryz.ntmps21
  go_wp2_with fail
  refine (unhide C _).mono ?_
  rintro e w1 ⟨rfl, rfl⟩
  go_wp2_with fail
  go_cut [10, 11] (fun x y wx => ∃ X : Nat, x = .pointer (some ⟨X, 0, none⟩) ∧ y = .bool is ∧ Below w1.heap.size w1 wx ∧ wx.heap[X]? = some (.cells #[.int .u64 E.key, .int .u64 E.val, .int .i64 E.at_, .bool E.fix] 73 (0, 0)) ∧ w1.heap.size ≤ X)
  case first =>
    go_region_held3 (fun w' => w'.cell? ⟨g, 1, none⟩ = some (.pointer (some ⟨p, 0, none⟩))) ((refine unhide keepG _ ?_; (repeat (first | (with_reducible exact Below.refl _ _) | (with_reducible refine Below.drew ?_) | (with_reducible refine alloc_then ?_) | (with_reducible refine bthen ?_ B3) | (with_reducible refine Below.setCell ?_ (by first | (show w1.heap.size ≤ w1.heap.size; exact Nat.le_refl _) | (show w1.heap.size ≤ w3.heap.size; exact B3.size)) _))); done))
      ((first | (go_at_call 19; refine (unhide K _).mono ?_; rintro e2 w2 ⟨rfl, rfl⟩) | (go_at_call 37; refine (unhide G _ ?_).mono ?_; (repeat (first | (with_reducible exact Below.refl _ _) | (with_reducible refine Below.drew ?_) | (with_reducible refine alloc_then ?_))); rintro e3 w3 ⟨rfl, B3⟩; (try (have r3 := Below.row B3 (heap_alloc_new w1 (.cells #[.int .u64 0, .int .u64 0, .int .i64 0, .bool false] 73)); obtain ⟨x0, x1, x2, x3, u0, u1, u2, u3⟩ := cells4 r3)))))
    all_goals
      go_wp2_with fail
      go_meet
    · refine ⟨_, rfl, rfl, ?_, heap_alloc_new w3 _, B3.size⟩
      repeat (first | (with_reducible exact Below.refl _ _) | (with_reducible refine Below.drew ?_) | (with_reducible refine alloc_then ?_) | (with_reducible refine bthen ?_ B3))
    all_goals
      refine ⟨_, rfl, rfl, below4 ?_ (Nat.le_refl _), set4 r3, Nat.le_refl _⟩
      repeat (first | (with_reducible exact Below.refl _ _) | (with_reducible refine Below.drew ?_) | (with_reducible refine alloc_then ?_) | (with_reducible refine bthen ?_ B3))
  case rest =>
    obtain ⟨X, rfl, rfl, bc, rX, hX⟩ := hcut
    obtain ⟨x0, x1, x2, x3, _⟩ := cells4 rX
    have HB := hide bc
    clear K G C keepG bc rX
    go_wp2_with fail
    go_ret2
    exact ⟨rfl, unhide HB⟩
theorem bfind_any {w W : World} {g p : Nat} {room life : Int} {L : List Ent} (vid now : Int) (ip : Nat) (hB : Bnd w g p room life L W) (hi : ip < 4294967296) :
    Calls Tryz.prog 21 #[.pointer (some ⟨g, 0, none⟩), .int .i64 vid, .int .u32 (ip : Int), .int .i64 now] W fun e W' => e = .returned (macO (findE life now L vid ip)) ∧ Below W.heap.size W W' := by
  unfold findE
  cases hv : vlanB vid with
  | false => exact (bfind_not g W hv).mono fun e W' ⟨h1, h2⟩ => ⟨h1, by rw [h2]; exact Below.refl _ _⟩
  | true =>
    have C := hide (fun W => isVlan_any vid W)
    rw [hv] at C
    exact bfind_at hB C (hide (fun W => bkeyOf_any vid ip W (vlan_iff.1 hv) hi))
end Go.Proofs.YtljhgehlaehgnaaGreatDoor
namespace Go.Proofs.YtljhgehlaehgnaaGreatDoor
open Go.RowKit Go.Sort

set_option maxRecDepth 100000 in
theorem breply_none (g : Nat) (op s i t j vid now m : Int) (is z1 z2 : Bool) (W : World) (h1 : (i == 0) = z1) (h2 : (i == j) = z2) (h3 : (is && !z1 && !z2) = false)
    (C : Hid (∀ W2, Below W.heap.size W W2 → Calls Tryz.prog 21 #[.pointer (some ⟨g, 0, none⟩), .int .i64 vid, .int .u32 j, .int .i64 now] W2 fun e W' => e = .returned (.tuple #[.int .u64 m, .bool is]) ∧ Below W2.heap.size W2 W')) :
    Calls Tryz.prog 23 #[.pointer (some ⟨g, 0, none⟩), .int .i64 vid, .agg #[.int .i64 op, .int .u64 s, .int .u32 i, .int .u64 t, .int .u32 j], .int .i64 now] W fun e W' => e = .returned (.tuple #[.agg #[.int .u64 0, .int .u64 0, .bool false, .int .i64 0, .bool false, .int .i64 0, .int .i64 0, .string ⟨#[]⟩], .bool false]) ∧ Below W.heap.size W W' := by
  have hb0 := alloc_then (o := .cells #[.int .u64 0, .int .u64 0, .bool false, .int .i64 0, .bool false, .int .i64 0, .int .i64 0, .string ⟨#[]⟩] 68) (alloc_below W (.cells #[.int .i64 op, .int .u64 s, .int .u32 i, .int .u64 t, .int .u32 j] 35))
  have C1 := hide (unhide C _ hb0)
  have q0 := heap_alloc2_old W (.cells #[.int .i64 op, .int .u64 s, .int .u32 i, .int .u64 t, .int .u32 j] 35) (.cells #[.int .u64 0, .int .u64 0, .bool false, .int .i64 0, .bool false, .int .i64 0, .int .i64 0, .string ⟨#[]⟩] 68)
  have r0 := heap_alloc2_new W (.cells #[.int .i64 op, .int .u64 s, .int .u32 i, .int .u64 t, .int .u32 j] 35) (.cells #[.int .u64 0, .int .u64 0, .bool false, .int .i64 0, .bool false, .int .i64 0, .int .i64 0, .string ⟨#[]⟩] 68)
  have k4 := (cells5 q0).2.2.2.2.1
  have Q0 := hide q0
  have R0 := hide r0
  have HB := hide hb0
  clear C q0 r0 hb0
  go_enter Tryz.func23, Tryz.ntmps23
  go_wp2_with fail
  refine (unhide C1).mono ?_
  rintro e w1 ⟨rfl, b1⟩
  have hb1 := hide (bthen (unhide HB) b1)
  have hr := Below.row b1 (unhide R0)
  obtain ⟨_, _, k2', _, k4', _⟩ := cells5 (Below.row b1 (unhide Q0))
  obtain ⟨c0, c1, c2, c3, c4, c5, c6, c7, f0, f1, f2, f3, f4, f5, f6, f7⟩ := cells8 hr
  have HR := hide hr
  clear hr b1 k4 C1 R0 HB Q0
  cases is with
  | false =>
    go_wp2_with fail
    refine bodyPost_ret ?_ rfl ⟨rfl, below8 (unhide hb1) (Nat.le_succ _)⟩
    exact results_row2 rfl _ _ (W.heap.size + 1) 68 _ _ _ _ rfl rfl (set8 (unhide HR)) Tryz.underlying68 rfl (by kernel_rfl)
  | true =>
    cases z1 with
    | true =>
      go_wp2_with fail
      refine bodyPost_ret ?_ rfl ⟨rfl, below8 (unhide hb1) (Nat.le_succ _)⟩
      exact results_row2 rfl _ _ (W.heap.size + 1) 68 _ _ _ _ rfl rfl (set8 (unhide HR)) Tryz.underlying68 rfl (by kernel_rfl)
    | false =>
      cases z2 with
      | true =>
        go_wp2_with fail
        refine bodyPost_ret ?_ rfl ⟨rfl, below8 (unhide hb1) (Nat.le_succ _)⟩
        exact results_row2 rfl _ _ (W.heap.size + 1) 68 _ _ _ _ rfl rfl (set8 (unhide HR)) Tryz.underlying68 rfl (by kernel_rfl)
      | false => cases h3
set_option maxRecDepth 100000 in
theorem breply_tell (g : Nat) (op s i t j vid now m d q pri vid2 ty c : Int) (has dei z : Bool) (R : ByteArray) (W : World) (h1 : (i == 0) = false) (h2 : (i == j) = false) (hz : (c == 0) = z)
    (C : Hid (∀ W2, Below W.heap.size W W2 → Calls Tryz.prog 21 #[.pointer (some ⟨g, 0, none⟩), .int .i64 vid, .int .u32 j, .int .i64 now] W2 fun e W' => e = .returned (.tuple #[.int .u64 m, .bool true]) ∧ Below W2.heap.size W2 W'))
    (T : Hid (∀ W, Calls Tryz.prog 38 #[.agg #[.int .i64 op, .int .u64 s, .int .u32 i, .int .u64 t, .int .u32 j], .int .u64 m] W fun e W' => e = .returned (.tuple #[.agg #[.int .u64 d, .int .u64 q, .bool has, .int .i64 pri, .bool dei, .int .i64 vid2, .int .i64 ty, .string R], .int .i64 c]) ∧ Below W.heap.size W W')) :
    Calls Tryz.prog 23 #[.pointer (some ⟨g, 0, none⟩), .int .i64 vid, .agg #[.int .i64 op, .int .u64 s, .int .u32 i, .int .u64 t, .int .u32 j], .int .i64 now] W fun e W' => e = .returned (.tuple #[.agg #[.int .u64 d, .int .u64 q, .bool has, .int .i64 pri, .bool dei, .int .i64 vid2, .int .i64 ty, .string R], .bool z]) ∧ Below W.heap.size W W' := by
  have hb0 := alloc_then (o := .cells #[.int .u64 0, .int .u64 0, .bool false, .int .i64 0, .bool false, .int .i64 0, .int .i64 0, .string ⟨#[]⟩] 68) (alloc_below W (.cells #[.int .i64 op, .int .u64 s, .int .u32 i, .int .u64 t, .int .u32 j] 35))
  have C1 := hide (unhide C _ hb0)
  have q0 := heap_alloc2_old W (.cells #[.int .i64 op, .int .u64 s, .int .u32 i, .int .u64 t, .int .u32 j] 35) (.cells #[.int .u64 0, .int .u64 0, .bool false, .int .i64 0, .bool false, .int .i64 0, .int .i64 0, .string ⟨#[]⟩] 68)
  have r0 := heap_alloc2_new W (.cells #[.int .i64 op, .int .u64 s, .int .u32 i, .int .u64 t, .int .u32 j] 35) (.cells #[.int .u64 0, .int .u64 0, .bool false, .int .i64 0, .bool false, .int .i64 0, .int .i64 0, .string ⟨#[]⟩] 68)
  have k4 := (cells5 q0).2.2.2.2.1
  have Q0 := hide q0
  have R0 := hide r0
  have HB := hide hb0
  clear C q0 r0 hb0
  go_enter Tryz.func23, Tryz.ntmps23
  go_wp2_with fail
  refine (unhide C1).mono ?_
  rintro e w1 ⟨rfl, b1⟩
  have hb1 := hide (bthen (unhide HB) b1)
  have R1 := hide (Below.row b1 (unhide R0))
  obtain ⟨k0', k1', k2', k3', k4', _⟩ := cells5 (Below.row b1 (unhide Q0))
  clear b1 k4 C1 R0 HB Q0
  go_wp2_with fail
  refine (unhide T _).mono ?_
  rintro e w2 ⟨rfl, b2⟩
  have b3 := alloc_then (o := .cells #[.int .u64 d, .int .u64 q, .bool has, .int .i64 pri, .bool dei, .int .i64 vid2, .int .i64 ty, .string R] 68) b2
  have hb3 := hide (bthen (unhide hb1) b3)
  have hr := Below.row b3 (unhide R1)
  obtain ⟨c0, c1, c2, c3, c4, c5, c6, c7, f0, f1, f2, f3, f4, f5, f6, f7⟩ := cells8 hr
  have HR := hide hr
  obtain ⟨e0, e1, e2, e3, e4, e5, e6, e7, _⟩ := cells8 (heap_alloc_new w2 (.cells #[.int .u64 d, .int .u64 q, .bool has, .int .i64 pri, .bool dei, .int .i64 vid2, .int .i64 ty, .string R] 68))
  clear hr b2 b3 hb1 R1 T k0' k1' k2' k3' k4'
  go_wp2_with fail
  refine bodyPost_ret ?_ rfl ⟨rfl, below8 (unhide hb3) (Nat.le_succ _)⟩
  exact results_row2 rfl _ _ (W.heap.size + 1) 68 _ _ _ _ rfl rfl (set8 (unhide HR)) Tryz.underlying68 rfl (by kernel_rfl)
/-- what is answered -/
def replyF (life now : Int) (L : List Ent) (vid : Int) (a : Ar) : Fr × Bool :=
  match findE life now L vid a.tip with
  | none => (Fr.none, false)
  | some e => if a.sip = 0 ∨ a.sip = a.tip then (Fr.none, false) else ((tells a e.val.toNat).1, (tells a e.val.toNat).2 == 0)
theorem findE_mem {life now vid : Int} {L : List Ent} {ip : Nat} {e : Ent} (h : findE life now L vid ip = some e) : e ∈ L := by
  unfold findE at h
  split at h
  · unfold told at h
    exact look_mem (Option.filter_eq_some_iff.1 h).1
  · cases h
theorem Bnd.oks {w W : World} {g p : Nat} {room life : Int} {L : List Ent} (h : Bnd w g p room life L W) : Oks L := by
  obtain ⟨_, v, T⟩ := h.has
  exact T.oks
theorem breply_any {w W : World} {g p : Nat} {room life : Int} {L : List Ent} (vid now : Int) (a : Ar) (hB : Bnd w g p room life L W) (ha : a.fits) :
    Calls Tryz.prog 23 #[.pointer (some ⟨g, 0, none⟩), .int .i64 vid, a.val, .int .i64 now] W fun e W' => e = .returned (.tuple #[(replyF life now L vid a).1.val, .bool (replyF life now L vid a).2]) ∧ Below W.heap.size W W' := by
  have C : ∀ W2, Below W.heap.size W W2 → Calls Tryz.prog 21 #[.pointer (some ⟨g, 0, none⟩), .int .i64 vid, .int .u32 (a.tip : Int), .int .i64 now] W2 fun e W' => e = .returned (macO (findE life now L vid a.tip)) ∧ Below W2.heap.size W2 W' := fun W2 b => bfind_any vid now a.tip (hB.below b) ha.2.2.2.2
  unfold replyF
  cases hf : findE life now L vid a.tip with
  | none =>
    rw [hf] at C
    exact breply_none g a.op a.smac a.sip a.tmac a.tip vid now 0 false _ _ W rfl rfl rfl (hide C)
  | some e =>
    have hv := (hB.oks e (findE_mem hf)).2.2
    rw [hf] at C
    by_cases hz : a.sip = 0 ∨ a.sip = a.tip
    · simp only [hz, if_true]
      exact breply_none g a.op a.smac a.sip a.tmac a.tip vid now e.val true _ _ W rfl rfl (by rcases hz with hz | hz <;> simp [hz]) (hide C)
    · simp only [hz, if_false]
      obtain ⟨m, hm⟩ : ∃ m : Nat, e.val = m := ⟨e.val.toNat, by omega⟩
      have hme : e.val.toNat = m := by omega
      rw [hme]
      have C2 := C
      unfold macO at C2
      simp only [hm] at C2
      exact breply_tell g a.op a.smac a.sip a.tmac a.tip vid now m _ _ _ _ _ _ _ _ _ _ W (by simp; omega) (by simp; omega) rfl (hide C2) (hide fun W => tell_any a m W ha (by omega))
end Go.Proofs.YtljhgehlaehgnaaGreatDoor
