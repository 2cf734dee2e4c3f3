/-
  The contracts of udp.word, wrong, number, Check, told, put and get: whether a datagram may be, a kind's number, words there and back; no cell that was there before has turned.
-/
import Derived.Test.YtcgilcofcjehmaaDoorUdpPlain
import Derived.Test.YtcgilcofcjehmaaDoorCells4
import Derived.Test.YtcgilcofcjehmaaDoorGet5
namespace Go.Proofs.YtcgilcofcjehmaaDoor
open Go.RowKit Go.Sort

/-- a datagram as the program has it -/
def Ud.val (u : Ud) : Value := .agg #[.int .i64 u.src, .int .i64 u.dst, .bool u.noSum, .string (bs u.body)]
theorem word_any (v : Int) (w : World) : Calls Tryd.prog 35 #[.int .i64 v] w fun e w' => e = .returned (.bool (decide (0 ≤ v ∧ v ≤ 65535))) ∧ w' = w := by
  by_cases h : 0 ≤ v
  · have e : decide (0 ≤ v ∧ v ≤ 65535) = decide (v ≤ 65535) := decide_eq_decide.2 ⟨fun x => x.2, fun x => ⟨h, x⟩⟩
    rw [e]
    go_enter Tryd.func35, Tryd.ntmps35
    go_wp2
    go_ret
    exact ⟨rfl, rfl⟩
  · have e : decide (0 ≤ v ∧ v ≤ 65535) = false := decide_eq_false fun x => h x.1
    rw [e]
    go_enter Tryd.func35, Tryd.ntmps35
    go_wp2
    go_ret
    exact ⟨rfl, rfl⟩
set_option maxRecDepth 100000 in
theorem wrong_at (a b : Int) (x : Bool) (B : ByteArray) (t1 t2 : Bool) (k : Int) (w : World) (hB : (B.size : Int) ≤ 1700)
    (k1 : Hid (∀ W, Calls Tryd.prog 35 #[.int .i64 a] W fun e W' => e = .returned (.bool t1) ∧ W' = W))
    (k2 : Hid (∀ W, Calls Tryd.prog 35 #[.int .i64 b] W fun e W' => e = .returned (.bool t2) ∧ W' = W))
    (hk : k = if (t1 && t2) then 0 else 3) :
    Calls Tryd.prog 24 #[.agg #[.int .i64 a, .int .i64 b, .bool x, .string B]] w fun e w' => e = .returned (.int .i64 k) ∧ Below w.heap.size w w' := by
  subst hk
  cases t1
  · go_enter Tryd.func24, Tryd.ntmps24
    go_wp2_with fail
    refine (unhide k1 _).mono ?_
    rintro e w1 ⟨rfl, rfl⟩
    go_wp2_with fail
    go_ret
    exact ⟨rfl, alloc_below _ _⟩
  cases t2
  all_goals
    go_enter Tryd.func24, Tryd.ntmps24
    go_wp2_with fail
    refine (unhide k1 _).mono ?_
    rintro e w1 ⟨rfl, rfl⟩
    go_wp2_with fail
    refine (unhide k2 _).mono ?_
    rintro e w1 ⟨rfl, rfl⟩
    go_wp2_with fail
    go_ret
    exact ⟨rfl, alloc_below _ _⟩
/-- the kind of what is wrong with a datagram of at most 1700 bytes -/
def Ud.kind (u : Ud) : Nat := if u.ok then 0 else 3
theorem kind_bools (u : Ud) (h : u.body.length ≤ 1700) : ((u.kind : Nat) : Int) = if (decide (0 ≤ u.src ∧ u.src ≤ 65535) && decide (0 ≤ u.dst ∧ u.dst ≤ 65535)) = true then 0 else 3 := by
  unfold Ud.kind
  simp only [Bool.and_eq_true, decide_eq_true_eq]
  by_cases a : (0 ≤ u.src ∧ u.src ≤ 65535) ∧ 0 ≤ u.dst ∧ u.dst ≤ 65535
  · rw [if_pos ⟨a.1, a.2, by omega⟩, if_pos a]; rfl
  · rw [if_neg fun z => a ⟨z.1, z.2.1⟩, if_neg a]; rfl
theorem wrong_any (u : Ud) (w : World) (h : u.body.length ≤ 1700) : Calls Tryd.prog 24 #[u.val] w fun e w' => e = .returned (.int .i64 (u.kind : Nat)) ∧ Below w.heap.size w w' :=
  wrong_at u.src u.dst u.noSum (bs u.body) _ _ _ w (by rw [bs_size]; omega) (hide fun W => word_any _ W) (hide fun W => word_any _ W) (kind_bools u h)
set_option maxRecDepth 100000 in
theorem number_any (k : Nat) (w : World) (h : k ≤ 6) : Calls Tryd.prog 23 #[.int .i64 (k : Int)] w fun e w' => e = .returned (.int .i64 (numOf k)) ∧ w' = w := by
  match k, h with
  | 0, _ | 1, _ | 2, _ | 3, _ | 4, _ | 5, _ | 6, _ =>
    go_enter Tryd.func23, Tryd.ntmps23
    go_wp2
    go_ret
    exact ⟨rfl, rfl⟩
theorem check_kind (u : Ud) : numOf u.kind = u.check := by
  unfold Ud.kind Ud.check
  split <;> rfl
theorem udpCheck_any (u : Ud) (w : World) (h : u.body.length ≤ 1700) : Calls Tryd.prog 12 #[u.val] w fun e w' => e = .returned (.int .i64 u.check) ∧ Below w.heap.size w w' := by
  have C := hide fun W => wrong_any u W h
  have N := hide fun W => number_any u.kind W (by unfold Ud.kind; split <;> decide)
  rw [check_kind] at N
  clear h
  obtain ⟨a, b, x, l⟩ := u
  unfold Ud.val at *
  simp only at *
  generalize (Ud.mk a b x l).check = c at *
  generalize (Ud.mk a b x l).kind = k at *
  go_enter Tryd.func12, Tryd.ntmps12
  go_wp2_with fail
  refine (unhide C _).mono ?_
  rintro e w1 ⟨rfl, b1⟩
  have hb := bthen (alloc_below w _) b1
  clear b1 C
  go_wp2_with fail
  refine (unhide N _).mono ?_
  rintro e w2 ⟨rfl, rfl⟩
  go_wp2_with fail
  go_ret
  exact ⟨rfl, hb⟩
theorem told_any (c : Nat) (w : World) : Calls Tryd.prog 17 #[.int .i64 (c : Int)] w fun e w' => e = .returned (.int .i64 (told c : Nat)) ∧ w' = w := by
  unfold told
  by_cases h : c = 0
  · subst h
    rw [if_pos rfl]
    go_enter Tryd.func17, Tryd.ntmps17
    go_wp2
    go_ret
    exact ⟨rfl, rfl⟩
  · have h0 : ((c : Int) == 0) = false := by rw [beq_eq_false_iff_ne]; omega
    rw [if_neg h]
    clear h
    go_enter Tryd.func17, Tryd.ntmps17
    go_wp2
    go_ret
    exact ⟨rfl, rfl⟩
theorem uput_any (v : Nat) (w : World) (hv : v < 65536) :
    Calls Tryd.prog 16 #[.int .i64 v] w fun e w' => e = .returned (.string (bs (be v 2))) ∧ Below w.heap.size w w' := by
  have e1 : IntKind.u64.wrap (v : Int) = (v : Int) := u64_id v (by omega)
  have P := hide (fun W => put_ok v 2 W (by decide) (by decide) hv)
  generalize bs (be v 2) = B at P ⊢
  clear hv
  go_enter Tryd.func16, Tryd.ntmps16
  go_wp2_with fail
  refine (unhide P _).mono ?_
  rintro e w1 ⟨rfl, b1⟩
  go_wp2_with fail
  go_ret
  exact ⟨rfl, b1⟩
theorem nm_extract (l : List UInt8) (a n : Nat) : num ((bs l).extract a (a + n)).data.toList = nm l a n := by
  rw [extract_toList, bs_toList, show a + n - a = n by omega]; rfl
theorem uget_any (l : List UInt8) (a : Nat) (w : World) (hl : l.length ≤ 10000) (h : a + 2 ≤ l.length) :
    Calls Tryd.prog 27 #[.string (bs l), .int .i64 a] w fun e w' => e = .returned (.int .i64 (nm l a 2 : Nat)) ∧ w' = w := by
  have G := hide (fun W => get_ok (bs l) a 2 W (by rw [bs_size]; unfold maxLen; omega) (by decide) (by decide) (by rw [bs_size]; exact h))
  rw [nm_extract] at G
  have hlt := nm2_lt l a
  have e1 : IntKind.i64.wrap ((nm l a 2 : Nat) : Int) = ((nm l a 2 : Nat) : Int) := by rw [IntKind.wrap_i64]; omega
  generalize nm l a 2 = v at *
  generalize bs l = s at *
  clear hlt
  go_enter Tryd.func27, Tryd.ntmps27
  go_wp2_with fail
  refine (unhide G _).mono ?_
  rintro e w1 ⟨rfl, rfl⟩
  go_wp2_with fail
  go_ret
  exact ⟨rfl, rfl⟩
end Go.Proofs.YtcgilcofcjehmaaDoor
