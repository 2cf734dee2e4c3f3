/-
  The contracts of inet.within, wrong, Check, Part, flags, put, get and opening: whether a packet may be, the word of its flags, its bytes ahead of the checksum; no cell that was there before has turned.
-/
import Derived.Test.YtojipoifjioglaaDoorInetPlain
import Derived.Test.YtojipoifjioglaaDoorCells10
import Derived.Test.YtojipoifjioglaaDoorGet5
import Derived.Test.YtojipoifjioglaaDoorFault6
import Derived.Laws.BitsAllLaws
namespace Go.Proofs.YtojipoifjioglaaDoor
open Go.RowKit Go.Sort

/-- a packet as the program has it -/
def Pk.val (p : Pk) : Value := .agg #[.int .i64 p.tos, .int .i64 p.id, .bool p.whole, .bool p.more, .int .i64 p.off, .int .i64 p.ttl, .int .i64 p.proto, .int .u32 (p.src : Int), .int .u32 (p.dst : Int), .string (bs p.body)]
/-- a packet's numbers are of their types, and its body is not long -/
def Pk.fits (p : Pk) : Prop := p.src < 4294967296 ∧ p.dst < 4294967296 ∧ p.body.length ≤ 1700
/-- an error, by its number: none, or a fault that wraps it -/
def Fl (c : Int) (E : Value) : Prop := if c = 0 then E = .nilIface else ∃ part, E = .iface 55 (.agg #[.string part, .int .i64 c])
theorem Fl.nil {c : Int} {E : Value} (h : Fl c E) (hc : c = 0) : E = .nilIface := by unfold Fl at h; rw [if_pos hc] at h; exact h
theorem Fl.some {c : Int} {E : Value} (h : Fl c E) (hc : c ≠ 0) : ∃ part, E = .iface 55 (.agg #[.string part, .int .i64 c]) := by unfold Fl at h; rw [if_neg hc] at h; exact h
theorem fl_nil : Fl 0 .nilIface := by unfold Fl; rw [if_pos rfl]
theorem fl_some {c : Int} (hc : c ≠ 0) (part : ByteArray) : Fl c (.iface 55 (.agg #[.string part, .int .i64 c])) := by unfold Fl; rw [if_neg hc]; exact ⟨_, rfl⟩
theorem number_fl (c : Int) (E : Value) (w : World) (h : Fl c E) (hg : Et w) : Calls Tryd.prog 21 #[E] w fun e w' => e = .returned (.int .i64 c) ∧ Below w.heap.size w w' := by
  by_cases hc : c = 0
  · obtain rfl := h.nil hc
    subst hc
    exact (number_nil w).mono fun e w' ⟨h1, h2⟩ => ⟨h1, by rw [h2]; exact Below.refl _ _⟩
  · obtain ⟨part, rfl⟩ := h.some hc
    exact number_fault part c w hg
theorem within_any (v l : Int) (w : World) : Calls Tryd.prog 35 #[.int .i64 v, .int .i64 l] w fun e w' => e = .returned (.bool (decide (0 ≤ v ∧ v ≤ l))) ∧ w' = w := by
  by_cases h : 0 ≤ v
  · have e : decide (0 ≤ v ∧ v ≤ l) = decide (v ≤ l) := decide_eq_decide.2 ⟨fun x => x.2, fun x => ⟨h, x⟩⟩
    rw [e]
    go_enter Tryd.func35, Tryd.ntmps35
    go_wp2
    go_ret
    exact ⟨rfl, rfl⟩
  · have e : decide (0 ≤ v ∧ v ≤ l) = false := decide_eq_false fun x => h x.1
    rw [e]
    go_enter Tryd.func35, Tryd.ntmps35
    go_wp2
    go_ret
    exact ⟨rfl, rfl⟩
set_option maxRecDepth 100000 in
theorem wrong_at (a b o t q : Int) (x y : Bool) (s d : Int) (B : ByteArray) (t1 t2 t3 t4 t5 : Bool) (c : Int) (w : World) (hB : (B.size : Int) ≤ 1700)
    (k1 : Hid (∀ W, Calls Tryd.prog 35 #[.int .i64 a, .int .i64 255] W fun e W' => e = .returned (.bool t1) ∧ W' = W))
    (k2 : Hid (∀ W, Calls Tryd.prog 35 #[.int .i64 t, .int .i64 255] W fun e W' => e = .returned (.bool t2) ∧ W' = W))
    (k3 : Hid (∀ W, Calls Tryd.prog 35 #[.int .i64 q, .int .i64 255] W fun e W' => e = .returned (.bool t3) ∧ W' = W))
    (k4 : Hid (∀ W, Calls Tryd.prog 35 #[.int .i64 b, .int .i64 65535] W fun e W' => e = .returned (.bool t4) ∧ W' = W))
    (k5 : Hid (∀ W, Calls Tryd.prog 35 #[.int .i64 o, .int .i64 8191] W fun e W' => e = .returned (.bool t5) ∧ W' = W))
    (hc : c = if (t1 && t2 && t3 && t4 && t5) then 0 else 61) :
    Calls Tryd.prog 20 #[.agg #[.int .i64 a, .int .i64 b, .bool x, .bool y, .int .i64 o, .int .i64 t, .int .i64 q, .int .u32 s, .int .u32 d, .string B]] w fun e w' => ∃ E, e = .returned E ∧ Fl c E ∧ Below w.heap.size w w' := by
  subst hc
  have n61 : (61 : Int) ≠ 0 := by decide
  cases t1
  · go_enter Tryd.func20, Tryd.ntmps20
    go_wp2_with fail
    refine (unhide k1 _).mono ?_
    rintro e w1 ⟨rfl, rfl⟩
    go_wp2_with fail
    go_ret
    exact ⟨_, rfl, fl_some n61 _, alloc_below _ _⟩
  cases t2
  · go_enter Tryd.func20, Tryd.ntmps20
    go_wp2_with fail
    refine (unhide k1 _).mono ?_
    rintro e w1 ⟨rfl, rfl⟩
    go_wp2_with fail
    refine (unhide k2 _).mono ?_
    rintro e w1 ⟨rfl, rfl⟩
    go_wp2_with fail
    go_ret
    exact ⟨_, rfl, fl_some n61 _, alloc_below _ _⟩
  cases t3
  · go_enter Tryd.func20, Tryd.ntmps20
    go_wp2_with fail
    refine (unhide k1 _).mono ?_
    rintro e w1 ⟨rfl, rfl⟩
    go_wp2_with fail
    refine (unhide k2 _).mono ?_
    rintro e w1 ⟨rfl, rfl⟩
    go_wp2_with fail
    refine (unhide k3 _).mono ?_
    rintro e w1 ⟨rfl, rfl⟩
    go_wp2_with fail
    go_ret
    exact ⟨_, rfl, fl_some n61 _, alloc_below _ _⟩
  cases t4
  · go_enter Tryd.func20, Tryd.ntmps20
    go_wp2_with fail
    refine (unhide k1 _).mono ?_
    rintro e w1 ⟨rfl, rfl⟩
    go_wp2_with fail
    refine (unhide k2 _).mono ?_
    rintro e w1 ⟨rfl, rfl⟩
    go_wp2_with fail
    refine (unhide k3 _).mono ?_
    rintro e w1 ⟨rfl, rfl⟩
    go_wp2_with fail
    refine (unhide k4 _).mono ?_
    rintro e w1 ⟨rfl, rfl⟩
    go_wp2_with fail
    go_ret
    exact ⟨_, rfl, fl_some n61 _, alloc_below _ _⟩
  cases t5
  · go_enter Tryd.func20, Tryd.ntmps20
    go_wp2_with fail
    refine (unhide k1 _).mono ?_
    rintro e w1 ⟨rfl, rfl⟩
    go_wp2_with fail
    refine (unhide k2 _).mono ?_
    rintro e w1 ⟨rfl, rfl⟩
    go_wp2_with fail
    refine (unhide k3 _).mono ?_
    rintro e w1 ⟨rfl, rfl⟩
    go_wp2_with fail
    refine (unhide k4 _).mono ?_
    rintro e w1 ⟨rfl, rfl⟩
    go_wp2_with fail
    refine (unhide k5 _).mono ?_
    rintro e w1 ⟨rfl, rfl⟩
    go_wp2_with fail
    go_ret
    exact ⟨_, rfl, fl_some n61 _, alloc_below _ _⟩
  · go_enter Tryd.func20, Tryd.ntmps20
    go_wp2_with fail
    refine (unhide k1 _).mono ?_
    rintro e w1 ⟨rfl, rfl⟩
    go_wp2_with fail
    refine (unhide k2 _).mono ?_
    rintro e w1 ⟨rfl, rfl⟩
    go_wp2_with fail
    refine (unhide k3 _).mono ?_
    rintro e w1 ⟨rfl, rfl⟩
    go_wp2_with fail
    refine (unhide k4 _).mono ?_
    rintro e w1 ⟨rfl, rfl⟩
    go_wp2_with fail
    refine (unhide k5 _).mono ?_
    rintro e w1 ⟨rfl, rfl⟩
    go_wp2_with fail
    go_ret
    exact ⟨_, rfl, fl_nil, alloc_below _ _⟩
theorem check_bools (p : Pk) (h : p.body.length ≤ 1700) :
    p.check = if (decide (0 ≤ p.tos ∧ p.tos ≤ 255) && decide (0 ≤ p.ttl ∧ p.ttl ≤ 255) && decide (0 ≤ p.proto ∧ p.proto ≤ 255) && decide (0 ≤ p.id ∧ p.id ≤ 65535) && decide (0 ≤ p.off ∧ p.off ≤ 8191)) = true then 0 else 61 := by
  unfold Pk.check Pk.ok
  simp only [Bool.and_eq_true, decide_eq_true_eq]
  by_cases a : (((0 ≤ p.tos ∧ p.tos ≤ 255) ∧ 0 ≤ p.ttl ∧ p.ttl ≤ 255) ∧ 0 ≤ p.proto ∧ p.proto ≤ 255) ∧ 0 ≤ p.id ∧ p.id ≤ 65535
  · by_cases b : 0 ≤ p.off ∧ p.off ≤ 8191
    · rw [if_pos ⟨a.1.1.1, a.1.1.2, a.1.2, a.2, b, by omega⟩, if_pos ⟨a, b⟩]
    · rw [if_neg fun z => b z.2.2.2.2.1, if_neg fun z => b z.2]
  · rw [if_neg fun z => a ⟨⟨⟨z.1, z.2.1⟩, z.2.2.1⟩, z.2.2.2.1⟩, if_neg fun z => a z.1]
theorem wrong_any (p : Pk) (w : World) (h : p.fits) : Calls Tryd.prog 20 #[p.val] w fun e w' => ∃ E, e = .returned E ∧ Fl p.check E ∧ Below w.heap.size w w' :=
  wrong_at p.tos p.id p.off p.ttl p.proto p.whole p.more p.src p.dst (bs p.body) _ _ _ _ _ p.check w (by rw [bs_size]; have := h.2.2; omega) (hide fun W => within_any _ _ W) (hide fun W => within_any _ _ W) (hide fun W => within_any _ _ W) (hide fun W => within_any _ _ W) (hide fun W => within_any _ _ W) (check_bools p h.2.2)
theorem inetCheck_any (p : Pk) (w : World) (h : p.fits) (hg : Et w) : Calls Tryd.prog 13 #[p.val] w fun e w' => e = .returned (.int .i64 p.check) ∧ Below w.heap.size w w' := by
  have C := hide fun W => wrong_any p W h
  clear h
  obtain ⟨a, b, x, y, o, t, q, s, d, l⟩ := p
  unfold Pk.val at *
  simp only at *
  generalize (Pk.mk a b x y o t q s d l).check = c at *
  go_enter Tryd.func13, Tryd.ntmps13
  go_wp2_with fail
  refine (unhide C _).mono ?_
  rintro e w1 ⟨E, rfl, hE, b1⟩
  have hb := bthen (alloc_below w _) b1
  have hg1 : Et w1 := hg.next hb
  clear b1 C
  go_wp2_with fail
  refine (number_fl c E _ hE hg1).mono ?_
  rintro e w2 ⟨rfl, b2⟩
  have hb2 := bthen hb b2
  go_wp2_with fail
  go_ret
  exact ⟨rfl, hb2⟩
/-- is a packet a part -/
def Pk.part (p : Pk) : Bool := p.more || decide (0 < p.off)
theorem part_any (p : Pk) (w : World) : Calls Tryd.prog 15 #[p.val] w fun e w' => e = .returned (.bool p.part) ∧ Below w.heap.size w w' := by
  obtain ⟨a, b, x, y, o, t, q, s, d, l⟩ := p
  unfold Pk.val Pk.part
  simp only
  cases y
  all_goals
    go_enter Tryd.func15, Tryd.ntmps15
    go_wp2
    go_ret
    exact ⟨rfl, alloc_below _ _⟩
theorem ofInt_i64 (a : Nat) (ha : a < 9223372036854775808) : (BitVec.ofInt 64 (a : Int)).toNat = a := by
  rw [BitVec.ofInt_natCast, BitVec.toNat_ofNat]; omega
theorem i64_or_nat (a b : Nat) (ha : a < 65536) (hb : b < 65536) : bits BinOp.or IntKind.i64 (a : Int) (b : Int) = ((a ||| b : Nat) : Int) := by
  show IntKind.i64.wrap ((BitVec.ofInt 64 (a : Int) ||| BitVec.ofInt 64 (b : Int)).toNat : Int) = _
  rw [BitVec.toNat_or, ofInt_i64 a (by omega), ofInt_i64 b (by omega), IntKind.wrap_i64]
  have : a ||| b < 2 ^ 16 := Nat.or_lt_two_pow ha hb
  omega
theorem i64_and_nat (a b : Nat) (ha : a < 65536) (hb : b < 65536) : bits BinOp.and IntKind.i64 (a : Int) (b : Int) = ((a &&& b : Nat) : Int) := by
  show IntKind.i64.wrap ((BitVec.ofInt 64 (a : Int) &&& BitVec.ofInt 64 (b : Int)).toNat : Int) = _
  rw [BitVec.toNat_and, ofInt_i64 a (by omega), ofInt_i64 b (by omega), IntKind.wrap_i64]
  have : a &&& b ≤ b := Nat.and_le_right
  omega
theorem or_whole (o : Nat) (h : o < 8192) : o ||| 16384 = o + 16384 := by
  have := Nat.shiftLeft_add_eq_or_of_lt (i := 14) (show o < 2 ^ 14 by omega) 1
  rw [Nat.or_comm, Nat.add_comm]
  exact this.symm
theorem or_more (o : Nat) (h : o < 8192) : o ||| 8192 = o + 8192 := by
  have := Nat.shiftLeft_add_eq_or_of_lt (i := 13) (show o < 2 ^ 13 by omega) 1
  rw [Nat.or_comm, Nat.add_comm]
  exact this.symm
theorem or_both (o : Nat) (h : o < 8192) : (o + 16384) ||| 8192 = o + 16384 + 8192 := by
  have h2 := Nat.shiftLeft_add_eq_or_of_lt (i := 13) (show o < 2 ^ 13 by omega) 2
  have h3 := Nat.shiftLeft_add_eq_or_of_lt (i := 13) (show o < 2 ^ 13 by omega) 3
  rw [Nat.shiftLeft_eq] at h2 h3
  have e : (o + 16384) ||| 8192 = 3 * 2 ^ 13 ||| o := by
    rw [show o + 16384 = 2 * 2 ^ 13 + o by omega, h2, Nat.or_assoc, Nat.or_comm o, ← Nat.or_assoc]
    rfl
  rw [e, ← h3]
  omega
theorem bit_and (f i : Nat) : (f &&& 2 ^ i != 0) = decide (f / 2 ^ i % 2 = 1) := by
  rw [← Nat.testBit_eq_decide_div_mod_eq]
  cases h : f.testBit i
  · have : f &&& 2 ^ i = 0 := by
      apply Nat.eq_of_testBit_eq
      intro j
      rw [Nat.testBit_and, Nat.testBit_two_pow, Nat.zero_testBit]
      by_cases z : i = j
      · subst z; rw [h]; rfl
      · rw [decide_eq_false z, Bool.and_false]
    rw [this]; rfl
  · rw [bne_iff_ne]
    intro e
    have : (f &&& 2 ^ i).testBit i = true := by rw [Nat.testBit_and, Nat.testBit_two_pow, h, decide_eq_true rfl]; rfl
    rw [e, Nat.zero_testBit] at this
    cases this
theorem flags_any (p : Pk) (w : World) (h : 0 ≤ p.off ∧ p.off ≤ 8191) : Calls Tryd.prog 37 #[p.val] w fun e w' => e = .returned (.int .i64 (p.flags : Nat)) ∧ Below w.heap.size w w' := by
  obtain ⟨a, b, x, y, o, t, q, s, d, l⟩ := p
  unfold Pk.val Pk.flags
  simp only at *
  obtain ⟨o, rfl⟩ : ∃ k : Nat, o = k := ⟨o.toNat, by omega⟩
  rw [Int.toNat_natCast]
  have e1 : bits BinOp.or IntKind.i64 (o : Int) 16384 = ((o + 16384 : Nat) : Int) := by
    have := i64_or_nat o 16384 (by omega) (by decide)
    rw [or_whole o (by omega)] at this
    exact this
  have e2 : bits BinOp.or IntKind.i64 (o : Int) 8192 = ((o + 8192 : Nat) : Int) := by
    have := i64_or_nat o 8192 (by omega) (by decide)
    rw [or_more o (by omega)] at this
    exact this
  have e3 : bits BinOp.or IntKind.i64 ((o + 16384 : Nat) : Int) 8192 = ((o + 16384 + 8192 : Nat) : Int) := by
    have := i64_or_nat (o + 16384) 8192 (by omega) (by decide)
    rw [or_both o (by omega)] at this
    exact this
  clear h
  cases x <;> cases y
  · simp only [Bool.false_eq_true, if_false, Nat.add_zero]
    go_enter Tryd.func37, Tryd.ntmps37
    go_wp2
    go_ret
    exact ⟨rfl, alloc_below _ _⟩
  · simp only [Bool.false_eq_true, if_false, if_true, Nat.add_zero]
    generalize o + 8192 = z at *
    go_enter Tryd.func37, Tryd.ntmps37
    go_wp2
    go_ret
    exact ⟨rfl, alloc_below _ _⟩
  · simp only [Bool.false_eq_true, if_false, if_true, Nat.add_zero]
    generalize o + 16384 = z at *
    go_enter Tryd.func37, Tryd.ntmps37
    go_wp2
    go_ret
    exact ⟨rfl, alloc_below _ _⟩
  · simp only [if_true]
    generalize o + 16384 = z at *
    generalize z + 8192 = z2 at *
    go_enter Tryd.func37, Tryd.ntmps37
    go_wp2
    go_ret
    exact ⟨rfl, alloc_below _ _⟩
theorem iput_any (v n : Nat) (w : World) (h1 : 1 ≤ n) (h2 : n ≤ 8) (hv : v < 256 ^ n) (hv2 : v < 4294967296) :
    Calls Tryd.prog 23 #[.int .i64 v, .int .i64 n] w fun e w' => e = .returned (.string (bs (be v n))) ∧ Below w.heap.size w w' := by
  have e1 : IntKind.u64.wrap (v : Int) = (v : Int) := u64_id v (by omega)
  have P := hide (fun W => put_ok v n W h1 h2 hv)
  generalize bs (be v n) = B at P ⊢
  clear hv hv2
  go_enter Tryd.func23, Tryd.ntmps23
  go_wp2_with fail
  refine (unhide P _).mono ?_
  rintro e w1 ⟨rfl, b1⟩
  go_wp2_with fail
  go_ret
  exact ⟨rfl, b1⟩
theorem nm_extract (l : List UInt8) (a n : Nat) : num ((bs l).extract a (a + n)).data.toList = nm l a n := by
  rw [extract_toList, bs_toList, show a + n - a = n by omega]; rfl
theorem iget_any (l : List UInt8) (a n : Nat) (w : World) (hl : l.length ≤ 10000) (h1 : 1 ≤ n) (h2 : n ≤ 4) (h : a + n ≤ l.length) :
    Calls Tryd.prog 31 #[.string (bs l), .int .i64 a, .int .i64 n] w fun e w' => e = .returned (.int .i64 (nm l a n : Nat)) ∧ w' = w := by
  have G := hide (fun W => get_ok (bs l) a n W (by rw [bs_size]; unfold maxLen; omega) h1 (by omega) (by rw [bs_size]; exact h))
  rw [nm_extract] at G
  have hlt : nm l a n < 4294967296 := Nat.lt_of_lt_of_le (nm_lt l a n) (Nat.le_trans (Nat.pow_le_pow_right (by decide) h2) (by decide))
  have e1 : IntKind.i64.wrap ((nm l a n : Nat) : Int) = ((nm l a n : Nat) : Int) := by rw [IntKind.wrap_i64]; omega
  generalize nm l a n = v at *
  generalize bs l = s at *
  clear hlt
  go_enter Tryd.func31, Tryd.ntmps31
  go_wp2_with fail
  refine (unhide G _).mono ?_
  rintro e w1 ⟨rfl, rfl⟩
  go_wp2_with fail
  go_ret
  exact ⟨rfl, rfl⟩
end Go.Proofs.YtojipoifjioglaaDoor
