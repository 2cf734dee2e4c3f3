/-
  gangwaylaw10.some: a call that takes nothing fixed out; what a script's round keeps.
-/
import Derived.Test.YtppfhbcfmekdoaaBegun10
import Derived.Test.YtppfhbcfmekdoaaBoundsPlain10
import Derived.Test.YtppfhbcfmekdoaaOps10
namespace Go.Proofs.Ytppfhbcfmekdoaa
open Go.RowKit Go.Sort

theorem Has.srt {w W : World} {g : Nat} {room life : Int} {L : List Ent} (h : Has w g room life L W) : Srt L := by
  obtain ⟨_, v, T⟩ := h; exact T.srt
theorem Has.fit {w W : World} {g : Nat} {room life : Int} {L : List Ent} (h : Has w g room life L W) : (L.length : Int) ≤ room := by
  obtain ⟨_, v, T⟩ := h; exact T.fit
/-- a call, as a value -/
def opV (q : Int × Int × Int × Int) : Value := .agg #[.int .i64 q.1, .int .u64 q.2.1, .int .u64 q.2.2.1, .int .i64 q.2.2.2]
/-- what such a call leaves -/
def Some' (w : World) (g : Nat) (room life : Int) (L : List Ent) (W W' : World) : Prop := ∃ L', Has w g room life L' W' ∧ KeepFix L L' ∧ Stays W W'
set_option maxHeartbeats 1000000 in
set_option maxRecDepth 100000 in
theorem some_any (w W : World) (g : Nat) (room life k key val now : Int) (L : List Ent) (h : Has w g room life L W) (hk : 0 ≤ key ∧ key < 18446744073709551616) (hv : 0 ≤ val ∧ val < 18446744073709551616) :
    Calls Try.prog 21 #[.pointer (some ⟨g, 0, none⟩), .agg #[.int .i64 k, .int .u64 key, .int .u64 val, .int .i64 now]] W fun e W' => e = .returned (.bool true) ∧ Some' w g room life L W W' := by
  have b0 := alloc_below W (.cells #[.int .i64 k, .int .u64 key, .int .u64 val, .int .i64 now] 31)
  have h0 := h.below b0
  have S0 := Stays.of b0
  have C0 := hide (has_put (w := w) (g := g) (room := room) (life := life) (L := L) key val now h0 hk hv)
  have C4 := hide (has_clear (w := w) (g := g) (room := room) (life := life) (L := L) val h0)
  have C5 := hide (has_expire (w := w) (g := g) (room := room) (life := life) (L := L) now h0)
  have K0 := hide (keep_put (room := room) (life := life) (x := ⟨key, val, now, false⟩) h.srt)
  have H0 := hide h0
  have HS := hide S0
  clear b0 h0 S0 hk hv h
  by_cases e0 : k = 0
  · subst e0
    go_enter Try.func21, Try.ntmps21
    go_wp2_with fail
    refine (unhide C0).mono ?_
    rintro e w1 ⟨rfl, h1, s1⟩
    have H1 := hide h1
    have S1 := hide s1
    clear h1 s1
    go_wp2_with fail
    go_ret
    exact ⟨rfl, _, unhide H1, unhide K0, (unhide HS).trans (unhide S1)⟩
  · by_cases e4 : k = 4
    · subst e4
      go_enter Try.func21, Try.ntmps21
      go_wp2_with fail
      refine (unhide C4).mono ?_
      rintro e w1 ⟨rfl, h1, s1⟩
      have H1 := hide h1
      have S1 := hide s1
      clear h1 s1
      go_wp2_with fail
      go_ret
      exact ⟨rfl, _, unhide H1, keep_clear _ _, (unhide HS).trans (unhide S1)⟩
    · by_cases e5 : k = 5
      · subst e5
        go_enter Try.func21, Try.ntmps21
        go_wp2_with fail
        refine (unhide C5).mono ?_
        rintro e w1 ⟨rfl, h1, s1⟩
        have H1 := hide h1
        have S1 := hide s1
        clear h1 s1
        go_wp2_with fail
        go_ret
        exact ⟨rfl, _, unhide H1, keep_exp _ _ _, (unhide HS).trans (unhide S1)⟩
      · have f0 : (k == 0) = false := beq_eq_false_iff_ne.2 e0
        have f4 : (k == 4) = false := beq_eq_false_iff_ne.2 e4
        have f5 : (k == 5) = false := beq_eq_false_iff_ne.2 e5
        go_enter Try.func21, Try.ntmps21
        go_wp2_with fail
        go_ret
        exact ⟨rfl, _, unhide H0, KeepFix.refl _, unhide HS⟩
end Go.Proofs.Ytppfhbcfmekdoaa
