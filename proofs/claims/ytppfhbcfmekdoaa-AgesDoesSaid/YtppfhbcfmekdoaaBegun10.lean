/-
  gangwaylaw10.begun and some: two tables with a room, and a life, of at most 8, and 32; a call that takes nothing fixed out.
-/
import Derived.Test.YtppfhbcfmekdoaaFixed10
import Derived.Test.YtppfhbcfmekdoaaRef10a
import Derived.Test.YtppfhbcfmekdoaaMask10
namespace Go.Proofs.Ytppfhbcfmekdoaa
open Go.RowKit Go.Sort

theorem RTab.below {B : Nat} {w w' : World} {g : Nat} {room life : Int} {v : Value} {M : List Ent} (h : RTab B w g room life v M) (b : Below w.heap.size w w') : RTab B w' g room life v M :=
  ⟨Below.row b h.row, owns_below h.own b, h.low, h.apart, h.uniq, h.oks, h.fit, h.room1, h.room2, h.life1, h.life2⟩
/-- the document's table that was made since w: what it holds in W -/
def HasR (w : World) (g : Nat) (room life : Int) (M : List Ent) (W : World) : Prop := Below w.heap.size w W ∧ ∃ v, RTab w.heap.size W g room life v M
theorem HasR.below {w W W' : World} {g : Nat} {room life : Int} {M : List Ent} (h : HasR w g room life M W) (b : Below W.heap.size W W') : HasR w g room life M W' := by
  obtain ⟨h1, v, T⟩ := h
  exact ⟨bthen h1 b, v, T.below b⟩
/-- a room, and a life, of a statement's size -/
def roomOf (a : Int) : Int := 1 + a % 8
def lifeOf (b : Int) : Int := 1 + b % 32
set_option maxRecDepth 100000 in
theorem begun_any (a b : Int) (w W : World) (hW : Below w.heap.size w W) :
    Calls Try.prog 9 #[.agg #[.int .i64 a, .int .i64 b]] W fun e W' => ∃ g1 g2, e = .returned (.tuple #[.pointer (some ⟨g1, 0, none⟩), .pointer (some ⟨g2, 0, none⟩)]) ∧ Has w g1 (roomOf a) (lifeOf b) [] W' ∧ HasR w g2 (roomOf a) (lifeOf b) [] W' ∧ Below W.heap.size W W' := by
  have ha := i64_and7 a
  have hb := i64_and31 b
  obtain ⟨m, hm⟩ : ∃ m, a % 8 = m := ⟨_, rfl⟩
  obtain ⟨l, hl⟩ : ∃ l, b % 32 = l := ⟨_, rfl⟩
  unfold roomOf lifeOf
  rw [hm, hl]
  have m0 : 0 ≤ m := by omega
  have m1 : m < 8 := by omega
  have l0 : 0 ≤ l := by omega
  have l1 : l < 32 := by omega
  rw [hm] at ha
  rw [hl] at hb
  clear hm hl
  obtain ⟨ro, hro⟩ : ∃ ro, 1 + m = ro := ⟨_, rfl⟩
  obtain ⟨li, hli⟩ : ∃ li, 1 + l = li := ⟨_, rfl⟩
  rw [hro, hli]
  have r0 : 1 ≤ ro := by omega
  have r1 : ro ≤ 8 := by omega
  have li0 : 1 ≤ li := by omega
  have li1 : li ≤ 32 := by omega
  have hw1 : IntKind.i64.wrap ro = ro := by rw [IntKind.wrap_i64]; omega
  have hw2 : IntKind.i64.wrap li = li := by rw [IntKind.wrap_i64]; omega
  have b0 := alloc_below W (.cells #[.int .i64 a, .int .i64 b] 23)
  have C1 := hide (fun V (h : Below w.heap.size w V) => has_new (w := w) (W := V) ro li h (by unfold newOk; omega))
  have C2 := hide (fun V (h : Below w.heap.size w V) => rnew_ok w.heap.size ro li V (by unfold newOk; omega) h.size)
  have HB := hide b0
  have HW := hide (bthen hW b0)
  clear b0 hW
  go_enter Try.func9, Try.ntmps9
  go_wp2_with fail
  go_quiet (fail)
  have hB1 := hide (drewN_below (unhide HB) nq)
  have hW1 := hide (drewN_below (unhide HW) nq)
  generalize (W.alloc (.cells #[.int .i64 a, .int .i64 b] 23)).drewN nq = V1 at *
  go_wp2_with fail
  refine (unhide C1 _ (unhide hW1)).mono ?_
  rintro e V2 ⟨rfl, h2, b2⟩
  have H2 := hide h2
  have hB2 := hide (bthen (unhide hB1) b2)
  clear h2 b2 hB1 hW1 HB HW C1
  generalize V1.heap.size = g1 at *
  go_wp2_with fail
  refine (unhide C2 _ (unhide H2).1).mono ?_
  rintro e V3 ⟨rfl, b3, t3⟩
  have H3 := hide ((unhide H2).below b3)
  have R3 := hide (show HasR w V2.heap.size ro li [] V3 from ⟨bthen (unhide H2).1 b3, _, t3⟩)
  have hB3 := hide (bthen (unhide hB2) b3)
  clear b3 t3 H2 hB2 C2
  generalize V2.heap.size = g2 at *
  go_wp2_with fail
  go_ret2
  exact ⟨g1, g2, rfl, unhide H3, unhide R3, unhide hB3⟩
end Go.Proofs.Ytppfhbcfmekdoaa
