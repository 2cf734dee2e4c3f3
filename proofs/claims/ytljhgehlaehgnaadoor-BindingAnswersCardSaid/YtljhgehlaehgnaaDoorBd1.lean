/-
  A table of who has which address: what it holds; the contracts of binding's isVlan, keyOf, of and New.
-/
import Derived.Test.YtljhgehlaehgnaaDoorHas11
import Derived.Handy
namespace Go.Proofs.YtljhgehlaehgnaaDoor
open Go.RowKit Go.Sort

/-- is a number a VLAN's -/
def vlanB (n : Int) : Bool := decide (1 ≤ n) && decide (n ≤ 4094)
theorem vlan_iff {n : Int} : vlanB n = true ↔ 1 ≤ n ∧ n ≤ 4094 := by simp [vlanB]
theorem isVlan_any (n : Int) (w : World) : Calls Tryd.prog 17 #[.int .i64 n] w fun e w' => e = .returned (.bool (vlanB n)) ∧ w' = w := by
  unfold vlanB
  by_cases h1 : 1 ≤ n
  · by_cases h2 : n ≤ 4094
    · rw [decide_eq_true h1, decide_eq_true h2]
      go_enter Tryd.func17, Tryd.ntmps17
      go_wp2
      go_ret
      exact ⟨rfl, rfl⟩
    · rw [decide_eq_true h1, decide_eq_false h2]
      go_enter Tryd.func17, Tryd.ntmps17
      go_wp2
      go_ret
      exact ⟨rfl, rfl⟩
  · rw [decide_eq_false h1]
    go_enter Tryd.func17, Tryd.ntmps17
    go_wp2
    go_ret
    exact ⟨rfl, rfl⟩
/-- the key of an address in a VLAN -/
def bkey (vid : Int) (ip : Nat) : Int := vid * 4294967296 + ip
theorem or_up (a b : Int) (n : Nat) (ha : 0 ≤ a) (hb : 0 ≤ b) (hb2 : b < ((2 ^ n : Nat) : Int)) (h : a * ((2 ^ n : Nat) : Int) + b < 18446744073709551616) :
    bits BinOp.or IntKind.u64 (a * ((2 ^ n : Nat) : Int)) b = a * ((2 ^ n : Nat) : Int) + b := by
  obtain ⟨x, rfl⟩ := Int.eq_ofNat_of_zero_le ha
  obtain ⟨y, rfl⟩ := Int.eq_ofNat_of_zero_le hb
  have e : ((x : Int) * ((2 ^ n : Nat) : Int)) = ((x * 2 ^ n : Nat) : Int) := by simp
  rw [e] at h ⊢
  rw [u64_or_nat _ _ (by omega) (by omega), Nat.mul_comm x, ← Nat.two_pow_add_eq_or_of_lt (by omega)]
  omega
theorem or_ip (vid ip : Int) (h1 : 1 ≤ vid ∧ vid ≤ 4094) (h2 : 0 ≤ ip ∧ ip < 4294967296) : bits BinOp.or IntKind.u64 (vid * 4294967296) ip = vid * 4294967296 + ip := by
  have e : ((2 ^ 32 : Nat) : Int) = 4294967296 := by decide
  have := or_up vid ip 32 (by omega) h2.1 (by rw [e]; omega) (by rw [e]; omega)
  rw [e] at this
  exact this
theorem bkeyOf_at (vid ip : Int) (w : World) (hv : 1 ≤ vid ∧ vid ≤ 4094) (hi : 0 ≤ ip ∧ ip < 4294967296) :
    Calls Tryd.prog 19 #[.int .i64 vid, .int .u32 ip] w fun e w' => e = .returned (.int .u64 (vid * 4294967296 + ip)) ∧ w' = w := by
  have e := or_ip vid ip hv hi
  go_enter Tryd.func19, Tryd.ntmps19
  go_wp2
  go_ret
  exact ⟨rfl, rfl⟩
theorem bkeyOf_any (vid : Int) (ip : Nat) (w : World) (hv : 1 ≤ vid ∧ vid ≤ 4094) (hi : ip < 4294967296) :
    Calls Tryd.prog 19 #[.int .i64 vid, .int .u32 (ip : Int)] w fun e w' => e = .returned (.int .u64 (bkey vid ip)) ∧ w' = w := bkeyOf_at vid ip w hv (by omega)
theorem bkey_rng {vid : Int} {ip : Nat} (hv : 1 ≤ vid ∧ vid ≤ 4094) (hi : ip < 4294967296) : 0 ≤ bkey vid ip ∧ bkey vid ip < 18446744073709551616 := by unfold bkey; omega
/-- a table of addresses that was made since w: what it holds in W -/
structure Bnd (w : World) (g p : Nat) (room life : Int) (L : List Ent) (W : World) : Prop where
  row : W.heap[g]? = some (.cells #[.iface 51 (.pointer (some ⟨p, 0, none⟩)), .pointer (some ⟨p, 0, none⟩)] 66 (0, 0))
  has : Has w p room life L W
  low : w.heap.size ≤ g
  nf : ∀ e ∈ L, e.fix = false
theorem Bnd.below {w W W' : World} {g p : Nat} {room life : Int} {L : List Ent} (h : Bnd w g p room life L W) (b : Below W.heap.size W W') : Bnd w g p room life L W' := ⟨Below.row b h.row, h.has.below b, h.low, h.nf⟩
theorem Bnd.ptr {w W : World} {g p : Nat} {room life : Int} {L : List Ent} (h : Bnd w g p room life L W) : W.cell? ⟨g, 0, none⟩ = some (.iface 51 (.pointer (some ⟨p, 0, none⟩))) ∧ W.cell? ⟨g, 1, none⟩ = some (.pointer (some ⟨p, 0, none⟩)) := ⟨(cells2 h.row).1, (cells2 h.row).2.1⟩
theorem Bnd.lt {w W : World} {g p : Nat} {room life : Int} {L : List Ent} (h : Bnd w g p room life L W) : g < W.heap.size := lt_of_row h.row
theorem Bnd.stays {w W W' : World} {g p : Nat} {room life : Int} {L L' : List Ent} (h : Bnd w g p room life L W) (h' : Has w p room life L' W') (s : Stays W W') (n : ∀ e ∈ L', e.fix = false) : Bnd w g p room life L' W' :=
  ⟨s _ _ rfl h.row, h', h.low, n⟩
/-- of -/
theorem bof_any (p : Nat) (w : World) : Calls Tryd.prog 13 #[.pointer (some ⟨p, 0, none⟩)] w fun e w' => e = .returned (.pointer (some ⟨w.heap.size, 0, none⟩)) ∧ w' = w.alloc (.cells #[.iface 51 (.pointer (some ⟨p, 0, none⟩)), .pointer (some ⟨p, 0, none⟩)] 66) := by
  go_enter Tryd.func13, Tryd.ntmps13
  go_wp2_with fail
  go_ret
  exact ⟨rfl, rfl⟩
theorem bnew_ok {w W : World} (room life : Int) (b : Below w.heap.size w W) (h : newOk room life) :
    Calls Tryd.prog 5 #[.int .i64 room, .int .i64 life] W fun e W' => ∃ g p, e = .returned (.tuple #[.pointer (some ⟨g, 0, none⟩), .int .i64 0]) ∧ Bnd w g p room life [] W' ∧ Below W.heap.size W W' := by
  have C := hide (has_new (w := w) room life b h)
  have O := hide (fun p W => bof_any p W)
  have hb := hide b
  clear b h
  go_enter Tryd.func5, Tryd.ntmps5
  go_wp2_with fail
  refine (unhide C).mono ?_
  rintro e w1 ⟨rfl, h1, b1⟩
  have H1 := hide h1
  have B1 := hide b1
  clear h1 b1 C
  go_wp2_with fail
  refine (unhide O _ _).mono ?_
  rintro e w2 ⟨rfl, rfl⟩
  go_wp2_with fail
  go_ret2
  exact ⟨_, _, rfl, ⟨heap_alloc_new w1 _, (unhide H1).below (alloc_below _ _), Nat.le_trans (unhide hb).size (unhide B1).size, by simp⟩, alloc_then (unhide B1)⟩
theorem bnew_no {W : World} (room life : Int) (h : ¬ newOk room life) :
    Calls Tryd.prog 5 #[.int .i64 room, .int .i64 life] W fun e W' => e = .returned (.tuple #[.pointer none, .int .i64 1]) ∧ Below W.heap.size W W' := by
  have C := hide (fun W => new_no room life W h)
  clear h
  go_enter Tryd.func5, Tryd.ntmps5
  go_wp2_with fail
  refine (unhide C _).mono ?_
  rintro e w1 ⟨rfl, rfl⟩
  go_wp2_with fail
  go_ret2
  exact ⟨rfl, Below.refl _ _⟩
end Go.Proofs.YtljhgehlaehgnaaDoor
