/-
  The contracts of fdb's Learn where an address goes to another place.
-/
import Derived.Test.YtpddbfdgaeldjaaFd6
namespace Go.Proofs.Ytpddbfdgaeldjaa
open Go.RowKit Go.Sort

set_option maxHeartbeats 1000000 in
set_option maxRecDepth 100000 in
theorem learn_held {w : World} {g p b : Nat} {mr : Option Nat} {v : Value} {most win room life : Int} {L : List Ent} {M : List Int} {vid mac k n now ek ev ea val : Int} (W : World) (hF : Fdb w g p b mr v most win room life L M W) (hm : 0 ≤ mac ∧ mac < 18446744073709551616) (hn : 0 ≤ n ∧ n < 4294967296) (h : mayB vid mac = true) (ht : Tgt k n) (hkey : vid * 281474976710656 + mac = 281474976710658) (hval : k * 4294967296 + n = val)
    (hE : entO (told life now (look L 281474976710658)) = .tuple #[.agg #[.int .u64 ek, .int .u64 ev, .int .i64 ea, .bool false], .bool true]) (hne : (ev != val) = true) (hl : M.length ≤ 64) (htm : 0 ≤ now ∧ now ≤ 1099511627776) (hc : most ≤ cnt M now win) :
    Calls Try.prog 14 #[.pointer (some ⟨g, 0, none⟩), .int .i64 vid, .int .u64 mac, .agg #[.int .i64 k, .int .u32 n], .int .i64 now] W fun e W' => e = .returned (.int .i64 4) ∧ Below W.heap.size W W' := by
  have C := hide (fun W => may_any vid mac W hm)
  rw [h] at C
  obtain ⟨hv, hmm⟩ := mac_lt h hm.1
  have T := hide (fun W => isTarget_any k n true W hn.1 ⟨fun _ => ht, fun _ => rfl⟩)
  have V := hide (fun W => valueOf_any k n W (tgt_rng ht) hn)
  have K := hide (fun W => keyOf_any vid mac W hv hmm)
  have hvb : 0 ≤ val ∧ val < 18446744073709551616 := by have := tgt_rng ht; omega
  rw [hkey] at K
  rw [hval] at V
  have r0 := heap_alloc_new W (.cells #[.int .i64 k, .int .u32 n] 42)
  have b0 := alloc_below W (.cells #[.int .i64 k, .int .u32 n] 42)
  obtain ⟨q0, q1, _⟩ := cells2 r0
  have G := hide (fun W2 (h : Below W.heap.size W W2) => has_get (w := w) (W := W2) (g := p) (room := room) (life := life) (L := L) 281474976710658 now (hF.has.below h))
  rw [hE] at G
  have MH := hide (fun W1 (bl : Below W.heap.size W W1) => move_held (val := val) W1 (hF.below bl) hl htm hc)
  clear hc hl htm
  have F0 := hide hF
  have B0 := hide b0
  have R0 := hide r0
  clear b0 r0 hE hF h hv hmm hvb ht hkey hval
  go_enter Try.func14, Try.ntmps14
  go_wp2_with fail
  refine (unhide C _).mono ?_
  rintro e w1 ⟨rfl, rfl⟩
  go_wp2_with fail
  refine (unhide T _).mono ?_
  rintro e w2 ⟨rfl, b2⟩
  have B2 := hide (bthen (unhide B0) b2)
  have R2 := hide (Below.row b2 (unhide R0))
  have keepG : Hid (∀ W2, Below w2.heap.size w2 W2 → W2.cell? ⟨W.heap.size, 0, none⟩ = some (.int .i64 k) ∧ W2.cell? ⟨W.heap.size, 1, none⟩ = some (.int .u32 n)) := fun W2 h => by
    have c := cells2 (Below.row h (unhide R2))
    exact ⟨c.1, c.2.1⟩
  clear b2 C T q0 q1
  go_wp2_with fail
  go_region_held3 (fun w' => w'.cell? ⟨W.heap.size, 0, none⟩ = some (.int .i64 k) ∧ w'.cell? ⟨W.heap.size, 1, none⟩ = some (.int .u32 n)) ((refine unhide keepG _ ?_; (repeat (first | (with_reducible exact Below.refl _ _) | (with_reducible refine Below.drew ?_) | (with_reducible refine bthen ?_ B3))); done))
    ((first | (go_at_call 27; refine (unhide K _).mono ?_; rintro e2 w4 ⟨rfl, rfl⟩) | (go_at_call 30; refine (unhide V _).mono ?_; rintro e2 w3 ⟨rfl, B3⟩)))
  have B4 := hide (bthen (unhide B2) (bthen (w := w2) (by (repeat (first | (with_reducible exact Below.refl _ _) | (with_reducible refine Below.drew ?_)))) B3))
  have p4 := ((unhide F0).below (unhide B4)).ptr
  clear B3 keepG K V
  go_wp2_with fail
  refine (unhide G _ (unhide B4)).mono ?_
  rintro e w5 ⟨rfl, b5⟩
  have b6 := bthen (bthen (unhide B4) b5) (alloc_below w5 (.cells #[.int .u64 ek, .int .u64 ev, .int .i64 ea, .bool false] 72))
  have B6 := hide b6
  have r6 := heap_alloc_new w5 (.cells #[.int .u64 ek, .int .u64 ev, .int .i64 ea, .bool false] 72)
  obtain ⟨s0, s1, s2, s3, _⟩ := cells4 r6
  have F6 := hide ((unhide F0).below b6)
  have p6 := (unhide F6).ptr
  clear b5 b6 p4 G B4
  have P6 := hide (unhide MH _ (unhide B6))
  clear MH r6
  go_wp2_with fail
  refine (unhide P6).mono ?_
  rintro e w7 ⟨rfl, b7⟩
  have B7 := hide (bthen (unhide B6) b7)
  clear b7 p6 P6 s0 s1 s2 s3
  go_wp2_with fail
  go_ret
  exact ⟨rfl, unhide B7⟩
set_option maxHeartbeats 1000000 in
set_option maxRecDepth 100000 in
theorem learn_moved {w : World} {g p b : Nat} {mr : Option Nat} {v : Value} {most : Nat} {win room life : Int} {L : List Ent} {M : List Int} {vid mac k n now ek ev ea val : Int} {c : Int} {L' : List Ent} (W : World) (hF : Fdb w g p b mr v most win room life L M W) (hm : 0 ≤ mac ∧ mac < 18446744073709551616) (hn : 0 ≤ n ∧ n < 4294967296) (h : mayB vid mac = true) (ht : Tgt k n) (hkey : vid * 281474976710656 + mac = 281474976710658) (hval : k * 4294967296 + n = val)
    (hE : entO (told life now (look L 281474976710658)) = .tuple #[.agg #[.int .u64 ek, .int .u64 ev, .int .i64 ea, .bool false], .bool true]) (hne : (ev != val) = true) (q : Nat) (hln : M.length = q) (hl : q ≤ 11) (htm : 0 ≤ now ∧ now ≤ 1099511627776) (hc : cnt M now win < most) (hmo : most ≤ 64) (hx : ∀ y ∈ M, y ≤ now) (hP : putP room life L ⟨281474976710658, val, now, false⟩ = (c, L')) :
    Calls Try.prog 14 #[.pointer (some ⟨g, 0, none⟩), .int .i64 vid, .int .u64 mac, .agg #[.int .i64 k, .int .u32 n], .int .i64 now] W fun e W' => e = .returned (.int .i64 3) ∧ ∃ mr', (∃ v', Fdb w g p b mr' v' most win room life L' ((M ++ [now]).drop (q + 1 - most)) W') ∧ StaysM mr W W' ∧ Apart mr mr' W := by
  have C := hide (fun W => may_any vid mac W hm)
  rw [h] at C
  obtain ⟨hv, hmm⟩ := mac_lt h hm.1
  have T := hide (fun W => isTarget_any k n true W hn.1 ⟨fun _ => ht, fun _ => rfl⟩)
  have V := hide (fun W => valueOf_any k n W (tgt_rng ht) hn)
  have K := hide (fun W => keyOf_any vid mac W hv hmm)
  have hvb : 0 ≤ val ∧ val < 18446744073709551616 := by have := tgt_rng ht; omega
  rw [hkey] at K
  rw [hval] at V
  have r0 := heap_alloc_new W (.cells #[.int .i64 k, .int .u32 n] 42)
  have b0 := alloc_below W (.cells #[.int .i64 k, .int .u32 n] 42)
  obtain ⟨q0, q1, _⟩ := cells2 r0
  have G := hide (fun W2 (h : Below W.heap.size W W2) => has_get (w := w) (W := W2) (g := p) (room := room) (life := life) (L := L) 281474976710658 now (hF.has.below h))
  rw [hE] at G
  have MH := hide (fun W1 (bl : Below W.heap.size W W1) => move_moved (val := val) W1 q (hF.below bl) hln hl htm hc hmo hx hvb hP)
  clear hc hl htm hln hmo hx hP
  have F0 := hide hF
  have B0 := hide b0
  have R0 := hide r0
  clear b0 r0 hE hF h hv hmm hvb ht hkey hval
  go_enter Try.func14, Try.ntmps14
  go_wp2_with fail
  refine (unhide C _).mono ?_
  rintro e w1 ⟨rfl, rfl⟩
  go_wp2_with fail
  refine (unhide T _).mono ?_
  rintro e w2 ⟨rfl, b2⟩
  have B2 := hide (bthen (unhide B0) b2)
  have R2 := hide (Below.row b2 (unhide R0))
  have keepG : Hid (∀ W2, Below w2.heap.size w2 W2 → W2.cell? ⟨W.heap.size, 0, none⟩ = some (.int .i64 k) ∧ W2.cell? ⟨W.heap.size, 1, none⟩ = some (.int .u32 n)) := fun W2 h => by
    have c := cells2 (Below.row h (unhide R2))
    exact ⟨c.1, c.2.1⟩
  clear b2 C T q0 q1
  go_wp2_with fail
  go_region_held3 (fun w' => w'.cell? ⟨W.heap.size, 0, none⟩ = some (.int .i64 k) ∧ w'.cell? ⟨W.heap.size, 1, none⟩ = some (.int .u32 n)) ((refine unhide keepG _ ?_; (repeat (first | (with_reducible exact Below.refl _ _) | (with_reducible refine Below.drew ?_) | (with_reducible refine bthen ?_ B3))); done))
    ((first | (go_at_call 27; refine (unhide K _).mono ?_; rintro e2 w4 ⟨rfl, rfl⟩) | (go_at_call 30; refine (unhide V _).mono ?_; rintro e2 w3 ⟨rfl, B3⟩)))
  have B4 := hide (bthen (unhide B2) (bthen (w := w2) (by (repeat (first | (with_reducible exact Below.refl _ _) | (with_reducible refine Below.drew ?_)))) B3))
  have p4 := ((unhide F0).below (unhide B4)).ptr
  clear B3 keepG K V
  go_wp2_with fail
  refine (unhide G _ (unhide B4)).mono ?_
  rintro e w5 ⟨rfl, b5⟩
  have b6 := bthen (bthen (unhide B4) b5) (alloc_below w5 (.cells #[.int .u64 ek, .int .u64 ev, .int .i64 ea, .bool false] 72))
  have B6 := hide b6
  have r6 := heap_alloc_new w5 (.cells #[.int .u64 ek, .int .u64 ev, .int .i64 ea, .bool false] 72)
  obtain ⟨s0, s1, s2, s3, _⟩ := cells4 r6
  have F6 := hide ((unhide F0).below b6)
  have p6 := (unhide F6).ptr
  clear b5 b6 p4 G B4
  have P6 := hide (unhide MH _ (unhide B6))
  clear MH r6
  go_wp2_with fail
  refine (unhide P6).mono ?_
  rintro e w7 ⟨rfl, mr', ⟨v', h7⟩, s7, a7⟩
  have H7 := hide h7
  have S7 := hide ((StaysM.of (unhide B6)).trans s7)
  have A7 : Hid (Apart mr mr' W) := fun k o h1 h2 h3 => a7 k o h1 h2 (Below.row (unhide B6) h3)
  clear h7 s7 a7 p6 P6 s0 s1 s2 s3
  go_wp2_with fail
  go_ret
  exact ⟨rfl, mr', ⟨v', unhide H7⟩, unhide S7, unhide A7⟩
end Go.Proofs.Ytpddbfdgaeldjaa
