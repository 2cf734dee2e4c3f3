/-
  The contracts of fdb's Learn, case by case.
-/
import Derived.Test.YtpddbfdgaeldjaaFd4
namespace Go.Proofs.Ytpddbfdgaeldjaa
open Go.RowKit Go.Sort

theorem learn_not {vid mac k n now : Int} (g : Nat) (W : World) (hm : 0 ≤ mac ∧ mac < 18446744073709551616) (h : mayB vid mac = false) :
    Calls Try.prog 14 #[.pointer (some ⟨g, 0, none⟩), .int .i64 vid, .int .u64 mac, .agg #[.int .i64 k, .int .u32 n], .int .i64 now] W fun e W' => e = .returned (.int .i64 0) ∧ Below W.heap.size W W' := by
  have C := hide (fun W => may_any vid mac W hm)
  rw [h] at C
  have B0 := hide (alloc_below W (.cells #[.int .i64 k, .int .u32 n] 42))
  go_enter Try.func14, Try.ntmps14
  go_wp2_with fail
  refine (unhide C _).mono ?_
  rintro e w1 ⟨rfl, rfl⟩
  go_wp2_with fail
  go_ret
  exact ⟨rfl, unhide B0⟩
theorem learn_no_target {vid mac k n now : Int} (g : Nat) (W : World) (hm : 0 ≤ mac ∧ mac < 18446744073709551616) (hn : 0 ≤ n) (h : mayB vid mac = true) (ht : ¬ Tgt k n) :
    Calls Try.prog 14 #[.pointer (some ⟨g, 0, none⟩), .int .i64 vid, .int .u64 mac, .agg #[.int .i64 k, .int .u32 n], .int .i64 now] W fun e W' => e = .returned (.int .i64 0) ∧ Below W.heap.size W W' := by
  have C := hide (fun W => may_any vid mac W hm)
  rw [h] at C
  have T := hide (fun W => isTarget_any k n false W hn ⟨fun h => (by cases h), fun q => absurd q ht⟩)
  have b0 := alloc_below W (.cells #[.int .i64 k, .int .u32 n] 42)
  obtain ⟨q0, q1, _⟩ := cells2 (heap_alloc_new W (.cells #[.int .i64 k, .int .u32 n] 42))
  have B0 := hide b0
  clear b0
  go_enter Try.func14, Try.ntmps14
  go_wp2_with fail
  refine (unhide C _).mono ?_
  rintro e w1 ⟨rfl, rfl⟩
  go_wp2_with fail
  refine (unhide T _).mono ?_
  rintro e w2 ⟨rfl, b2⟩
  have B2 := hide (bthen (unhide B0) b2)
  clear b2 C T
  go_wp2_with fail
  go_ret
  exact ⟨rfl, unhide B2⟩
set_option maxHeartbeats 1000000 in
set_option maxRecDepth 100000 in
theorem learn_new {w : World} {g p b : Nat} {mr : Option Nat} {v : Value} {most win room life : Int} {L : List Ent} {M : List Int} {vid mac k n now ek ev ea key val : Int} {c : Int} {L' : List Ent} (W : World) (hF : Fdb w g p b mr v most win room life L M W) (hm : 0 ≤ mac ∧ mac < 18446744073709551616) (hn : 0 ≤ n ∧ n < 4294967296) (h : mayB vid mac = true) (ht : Tgt k n) (hkey : vid * 281474976710656 + mac = key) (hval : k * 4294967296 + n = val)
    (hE : entO (told life now (look L key)) = .tuple #[.agg #[.int .u64 ek, .int .u64 ev, .int .i64 ea, .bool false], .bool false]) (hP : putP room life L ⟨key, val, now, false⟩ = (c, L')) (hc : c = 0) :
    Calls Try.prog 14 #[.pointer (some ⟨g, 0, none⟩), .int .i64 vid, .int .u64 mac, .agg #[.int .i64 k, .int .u32 n], .int .i64 now] W fun e W' => e = .returned (.int .i64 2) ∧ Fdb w g p b mr v most win room life L' M W' ∧ StaysM mr W W' := by
  have C := hide (fun W => may_any vid mac W hm)
  rw [h] at C
  obtain ⟨hv, hmm⟩ := mac_lt h hm.1
  have T := hide (fun W => isTarget_any k n true W hn.1 ⟨fun _ => ht, fun _ => rfl⟩)
  have V := hide (fun W => valueOf_any k n W (tgt_rng ht) hn)
  have K := hide (fun W => keyOf_any vid mac W hv hmm)
  have hkb : 0 ≤ key ∧ key < 18446744073709551616 := by omega
  have hvb : 0 ≤ val ∧ val < 18446744073709551616 := by have := tgt_rng ht; omega
  rw [hkey] at K
  rw [hval] at V
  have r0 := heap_alloc_new W (.cells #[.int .i64 k, .int .u32 n] 42)
  have b0 := alloc_below W (.cells #[.int .i64 k, .int .u32 n] 42)
  obtain ⟨q0, q1, _⟩ := cells2 r0
  have G := hide (fun W2 (h : Below W.heap.size W W2) => has_get (w := w) (W := W2) (g := p) (room := room) (life := life) (L := L) key now (hF.has.below h))
  rw [hE] at G
  have PG := hide (fun W1 (bl : Below W.heap.size W W1) => fdb_call (hF.below bl) (fun W2 h => has_put (w := w) (W := W2) (g := p) (room := room) (life := life) (L := L) key val now h hkb hvb))
  rw [hP] at PG
  subst hc
  have F0 := hide hF
  have B0 := hide b0
  have R0 := hide r0
  clear b0 r0 hE hF h hv hmm hkb hvb ht hkey hval
  go_enter Try.func14, Try.ntmps14
  go_wp2_with fail
  refine (unhide C _).mono ?_
  rintro e w1 ⟨rfl, rfl⟩
  go_wp2_with fail
  refine (unhide T _).mono ?_
  rintro e w2 ⟨rfl, b2⟩
  have B2 := hide (bthen (unhide B0) b2)
  have R2 := hide (Below.row b2 (unhide R0))
  have keepG : Hid (∀ W2, Below w2.heap.size w2 W2 → W2.cell? ⟨W.heap.size, 0, none⟩ = some (.int .i64 k) ∧ W2.cell? ⟨W.heap.size, 1, none⟩ = some (.int .u32 n)) := fun W2 h => by
    have c := cells2 (Below.row h (unhide R2))
    exact ⟨c.1, c.2.1⟩
  clear b2 C T q0 q1
  go_wp2_with fail
  go_region_held3 (fun w' => w'.cell? ⟨W.heap.size, 0, none⟩ = some (.int .i64 k) ∧ w'.cell? ⟨W.heap.size, 1, none⟩ = some (.int .u32 n)) ((refine unhide keepG _ ?_; (repeat (first | (with_reducible exact Below.refl _ _) | (with_reducible refine Below.drew ?_) | (with_reducible refine bthen ?_ B3))); done))
    ((first | (go_at_call 27; refine (unhide K _).mono ?_; rintro e2 w4 ⟨rfl, rfl⟩) | (go_at_call 30; refine (unhide V _).mono ?_; rintro e2 w3 ⟨rfl, B3⟩)))
  have B4 := hide (bthen (unhide B2) (bthen (w := w2) (by (repeat (first | (with_reducible exact Below.refl _ _) | (with_reducible refine Below.drew ?_)))) B3))
  have p4 := ((unhide F0).below (unhide B4)).ptr
  clear B3 keepG K V
  go_wp2_with fail
  refine (unhide G _ (unhide B4)).mono ?_
  rintro e w5 ⟨rfl, b5⟩
  have b6 := bthen (bthen (unhide B4) b5) (alloc_below w5 (.cells #[.int .u64 ek, .int .u64 ev, .int .i64 ea, .bool false] 72))
  have B6 := hide b6
  have r6 := heap_alloc_new w5 (.cells #[.int .u64 ek, .int .u64 ev, .int .i64 ea, .bool false] 72)
  obtain ⟨s0, s1, s2, s3, _⟩ := cells4 r6
  have F6 := hide ((unhide F0).below b6)
  have p6 := (unhide F6).ptr
  clear b5 b6 p4 G B4
  have P6 := hide (unhide PG _ (unhide B6) _ (Below.refl _ _))
  clear PG r6
  go_wp2_with fail
  refine (unhide P6).mono ?_
  rintro e w7 ⟨rfl, h7, s7⟩
  have H7 := hide h7
  have S7 := hide ((StaysM.of (unhide B6)).trans s7)
  clear h7 s7 p6 P6 s0 s1 s2 s3
  go_wp2_with fail
  go_ret
  exact ⟨rfl, unhide H7, unhide S7⟩
set_option maxHeartbeats 1000000 in
set_option maxRecDepth 100000 in
theorem learn_full {w : World} {g p b : Nat} {mr : Option Nat} {v : Value} {most win room life : Int} {L : List Ent} {M : List Int} {vid mac k n now ek ev ea key val : Int} {c : Int} {L' : List Ent} (W : World) (hF : Fdb w g p b mr v most win room life L M W) (hm : 0 ≤ mac ∧ mac < 18446744073709551616) (hn : 0 ≤ n ∧ n < 4294967296) (h : mayB vid mac = true) (ht : Tgt k n) (hkey : vid * 281474976710656 + mac = key) (hval : k * 4294967296 + n = val)
    (hE : entO (told life now (look L key)) = .tuple #[.agg #[.int .u64 ek, .int .u64 ev, .int .i64 ea, .bool false], .bool false]) (hP : putP room life L ⟨key, val, now, false⟩ = (c, L')) (hc : (c != 0) = true) :
    Calls Try.prog 14 #[.pointer (some ⟨g, 0, none⟩), .int .i64 vid, .int .u64 mac, .agg #[.int .i64 k, .int .u32 n], .int .i64 now] W fun e W' => e = .returned (.int .i64 0) ∧ Fdb w g p b mr v most win room life L' M W' ∧ StaysM mr W W' := by
  have C := hide (fun W => may_any vid mac W hm)
  rw [h] at C
  obtain ⟨hv, hmm⟩ := mac_lt h hm.1
  have T := hide (fun W => isTarget_any k n true W hn.1 ⟨fun _ => ht, fun _ => rfl⟩)
  have V := hide (fun W => valueOf_any k n W (tgt_rng ht) hn)
  have K := hide (fun W => keyOf_any vid mac W hv hmm)
  have hkb : 0 ≤ key ∧ key < 18446744073709551616 := by omega
  have hvb : 0 ≤ val ∧ val < 18446744073709551616 := by have := tgt_rng ht; omega
  rw [hkey] at K
  rw [hval] at V
  have r0 := heap_alloc_new W (.cells #[.int .i64 k, .int .u32 n] 42)
  have b0 := alloc_below W (.cells #[.int .i64 k, .int .u32 n] 42)
  obtain ⟨q0, q1, _⟩ := cells2 r0
  have G := hide (fun W2 (h : Below W.heap.size W W2) => has_get (w := w) (W := W2) (g := p) (room := room) (life := life) (L := L) key now (hF.has.below h))
  rw [hE] at G
  have PG := hide (fun W1 (bl : Below W.heap.size W W1) => fdb_call (hF.below bl) (fun W2 h => has_put (w := w) (W := W2) (g := p) (room := room) (life := life) (L := L) key val now h hkb hvb))
  rw [hP] at PG
  have F0 := hide hF
  have B0 := hide b0
  have R0 := hide r0
  clear b0 r0 hE hF h hv hmm hkb hvb ht hkey hval
  go_enter Try.func14, Try.ntmps14
  go_wp2_with fail
  refine (unhide C _).mono ?_
  rintro e w1 ⟨rfl, rfl⟩
  go_wp2_with fail
  refine (unhide T _).mono ?_
  rintro e w2 ⟨rfl, b2⟩
  have B2 := hide (bthen (unhide B0) b2)
  have R2 := hide (Below.row b2 (unhide R0))
  have keepG : Hid (∀ W2, Below w2.heap.size w2 W2 → W2.cell? ⟨W.heap.size, 0, none⟩ = some (.int .i64 k) ∧ W2.cell? ⟨W.heap.size, 1, none⟩ = some (.int .u32 n)) := fun W2 h => by
    have c := cells2 (Below.row h (unhide R2))
    exact ⟨c.1, c.2.1⟩
  clear b2 C T q0 q1
  go_wp2_with fail
  go_region_held3 (fun w' => w'.cell? ⟨W.heap.size, 0, none⟩ = some (.int .i64 k) ∧ w'.cell? ⟨W.heap.size, 1, none⟩ = some (.int .u32 n)) ((refine unhide keepG _ ?_; (repeat (first | (with_reducible exact Below.refl _ _) | (with_reducible refine Below.drew ?_) | (with_reducible refine bthen ?_ B3))); done))
    ((first | (go_at_call 27; refine (unhide K _).mono ?_; rintro e2 w4 ⟨rfl, rfl⟩) | (go_at_call 30; refine (unhide V _).mono ?_; rintro e2 w3 ⟨rfl, B3⟩)))
  have B4 := hide (bthen (unhide B2) (bthen (w := w2) (by (repeat (first | (with_reducible exact Below.refl _ _) | (with_reducible refine Below.drew ?_)))) B3))
  have p4 := ((unhide F0).below (unhide B4)).ptr
  clear B3 keepG K V
  go_wp2_with fail
  refine (unhide G _ (unhide B4)).mono ?_
  rintro e w5 ⟨rfl, b5⟩
  have b6 := bthen (bthen (unhide B4) b5) (alloc_below w5 (.cells #[.int .u64 ek, .int .u64 ev, .int .i64 ea, .bool false] 72))
  have B6 := hide b6
  have r6 := heap_alloc_new w5 (.cells #[.int .u64 ek, .int .u64 ev, .int .i64 ea, .bool false] 72)
  obtain ⟨s0, s1, s2, s3, _⟩ := cells4 r6
  have F6 := hide ((unhide F0).below b6)
  have p6 := (unhide F6).ptr
  clear b5 b6 p4 G B4
  have P6 := hide (unhide PG _ (unhide B6) _ (Below.refl _ _))
  clear PG r6
  go_wp2_with fail
  refine (unhide P6).mono ?_
  rintro e w7 ⟨rfl, h7, s7⟩
  have H7 := hide h7
  have S7 := hide ((StaysM.of (unhide B6)).trans s7)
  clear h7 s7 p6 P6 s0 s1 s2 s3
  go_wp2_with fail
  go_ret
  exact ⟨rfl, unhide H7, unhide S7⟩
set_option maxHeartbeats 1000000 in
set_option maxRecDepth 100000 in
theorem learn_fixed {w : World} {g p b : Nat} {mr : Option Nat} {v : Value} {most win room life : Int} {L : List Ent} {M : List Int} {vid mac k n now ek ev ea key val : Int} {c : Int} {L' : List Ent} (W : World) (hF : Fdb w g p b mr v most win room life L M W) (hm : 0 ≤ mac ∧ mac < 18446744073709551616) (hn : 0 ≤ n ∧ n < 4294967296) (h : mayB vid mac = true) (ht : Tgt k n) (hkey : vid * 281474976710656 + mac = key) (hval : k * 4294967296 + n = val)
    (hE : entO (told life now (look L key)) = .tuple #[.agg #[.int .u64 ek, .int .u64 ev, .int .i64 ea, .bool true], .bool true]) (hP : putP room life L ⟨key, val, now, false⟩ = (c, L')) (hc : (c != 0) = true) :
    Calls Try.prog 14 #[.pointer (some ⟨g, 0, none⟩), .int .i64 vid, .int .u64 mac, .agg #[.int .i64 k, .int .u32 n], .int .i64 now] W fun e W' => e = .returned (.int .i64 0) ∧ Fdb w g p b mr v most win room life L' M W' ∧ StaysM mr W W' := by
  have C := hide (fun W => may_any vid mac W hm)
  rw [h] at C
  obtain ⟨hv, hmm⟩ := mac_lt h hm.1
  have T := hide (fun W => isTarget_any k n true W hn.1 ⟨fun _ => ht, fun _ => rfl⟩)
  have V := hide (fun W => valueOf_any k n W (tgt_rng ht) hn)
  have K := hide (fun W => keyOf_any vid mac W hv hmm)
  have hkb : 0 ≤ key ∧ key < 18446744073709551616 := by omega
  have hvb : 0 ≤ val ∧ val < 18446744073709551616 := by have := tgt_rng ht; omega
  rw [hkey] at K
  rw [hval] at V
  have r0 := heap_alloc_new W (.cells #[.int .i64 k, .int .u32 n] 42)
  have b0 := alloc_below W (.cells #[.int .i64 k, .int .u32 n] 42)
  obtain ⟨q0, q1, _⟩ := cells2 r0
  have G := hide (fun W2 (h : Below W.heap.size W W2) => has_get (w := w) (W := W2) (g := p) (room := room) (life := life) (L := L) key now (hF.has.below h))
  rw [hE] at G
  have PG := hide (fun W1 (bl : Below W.heap.size W W1) => fdb_call (hF.below bl) (fun W2 h => has_put (w := w) (W := W2) (g := p) (room := room) (life := life) (L := L) key val now h hkb hvb))
  rw [hP] at PG
  have F0 := hide hF
  have B0 := hide b0
  have R0 := hide r0
  clear b0 r0 hE hF h hv hmm hkb hvb ht hkey hval
  go_enter Try.func14, Try.ntmps14
  go_wp2_with fail
  refine (unhide C _).mono ?_
  rintro e w1 ⟨rfl, rfl⟩
  go_wp2_with fail
  refine (unhide T _).mono ?_
  rintro e w2 ⟨rfl, b2⟩
  have B2 := hide (bthen (unhide B0) b2)
  have R2 := hide (Below.row b2 (unhide R0))
  have keepG : Hid (∀ W2, Below w2.heap.size w2 W2 → W2.cell? ⟨W.heap.size, 0, none⟩ = some (.int .i64 k) ∧ W2.cell? ⟨W.heap.size, 1, none⟩ = some (.int .u32 n)) := fun W2 h => by
    have c := cells2 (Below.row h (unhide R2))
    exact ⟨c.1, c.2.1⟩
  clear b2 C T q0 q1
  go_wp2_with fail
  go_region_held3 (fun w' => w'.cell? ⟨W.heap.size, 0, none⟩ = some (.int .i64 k) ∧ w'.cell? ⟨W.heap.size, 1, none⟩ = some (.int .u32 n)) ((refine unhide keepG _ ?_; (repeat (first | (with_reducible exact Below.refl _ _) | (with_reducible refine Below.drew ?_) | (with_reducible refine bthen ?_ B3))); done))
    ((first | (go_at_call 27; refine (unhide K _).mono ?_; rintro e2 w4 ⟨rfl, rfl⟩) | (go_at_call 30; refine (unhide V _).mono ?_; rintro e2 w3 ⟨rfl, B3⟩)))
  have B4 := hide (bthen (unhide B2) (bthen (w := w2) (by (repeat (first | (with_reducible exact Below.refl _ _) | (with_reducible refine Below.drew ?_)))) B3))
  have p4 := ((unhide F0).below (unhide B4)).ptr
  clear B3 keepG K V
  go_wp2_with fail
  refine (unhide G _ (unhide B4)).mono ?_
  rintro e w5 ⟨rfl, b5⟩
  have b6 := bthen (bthen (unhide B4) b5) (alloc_below w5 (.cells #[.int .u64 ek, .int .u64 ev, .int .i64 ea, .bool true] 72))
  have B6 := hide b6
  have r6 := heap_alloc_new w5 (.cells #[.int .u64 ek, .int .u64 ev, .int .i64 ea, .bool true] 72)
  obtain ⟨s0, s1, s2, s3, _⟩ := cells4 r6
  have F6 := hide ((unhide F0).below b6)
  have p6 := (unhide F6).ptr
  clear b5 b6 p4 G B4
  have P6 := hide (unhide PG _ (unhide B6) _ (Below.refl _ _))
  clear PG r6
  go_wp2_with fail
  refine (unhide P6).mono ?_
  rintro e w7 ⟨rfl, h7, s7⟩
  have H7 := hide h7
  have S7 := hide ((StaysM.of (unhide B6)).trans s7)
  clear h7 s7 p6 P6 s0 s1 s2 s3
  go_wp2_with fail
  go_ret
  exact ⟨rfl, unhide H7, unhide S7⟩
set_option maxHeartbeats 1000000 in
set_option maxRecDepth 100000 in
theorem learn_same {w : World} {g p b : Nat} {mr : Option Nat} {v : Value} {most win room life : Int} {L : List Ent} {M : List Int} {vid mac k n now ek ea key val : Int} {c : Int} {L' : List Ent} (W : World) (hF : Fdb w g p b mr v most win room life L M W) (hm : 0 ≤ mac ∧ mac < 18446744073709551616) (hn : 0 ≤ n ∧ n < 4294967296) (h : mayB vid mac = true) (ht : Tgt k n) (hkey : vid * 281474976710656 + mac = key) (hval : k * 4294967296 + n = val)
    (hE : entO (told life now (look L key)) = .tuple #[.agg #[.int .u64 ek, .int .u64 val, .int .i64 ea, .bool false], .bool true]) (hP : putP room life L ⟨key, val, now, false⟩ = (c, L')) (hc : c = 0) :
    Calls Try.prog 14 #[.pointer (some ⟨g, 0, none⟩), .int .i64 vid, .int .u64 mac, .agg #[.int .i64 k, .int .u32 n], .int .i64 now] W fun e W' => e = .returned (.int .i64 1) ∧ Fdb w g p b mr v most win room life L' M W' ∧ StaysM mr W W' := by
  have C := hide (fun W => may_any vid mac W hm)
  rw [h] at C
  obtain ⟨hv, hmm⟩ := mac_lt h hm.1
  have T := hide (fun W => isTarget_any k n true W hn.1 ⟨fun _ => ht, fun _ => rfl⟩)
  have V := hide (fun W => valueOf_any k n W (tgt_rng ht) hn)
  have K := hide (fun W => keyOf_any vid mac W hv hmm)
  have hkb : 0 ≤ key ∧ key < 18446744073709551616 := by omega
  have hvb : 0 ≤ val ∧ val < 18446744073709551616 := by have := tgt_rng ht; omega
  rw [hkey] at K
  rw [hval] at V
  have r0 := heap_alloc_new W (.cells #[.int .i64 k, .int .u32 n] 42)
  have b0 := alloc_below W (.cells #[.int .i64 k, .int .u32 n] 42)
  obtain ⟨q0, q1, _⟩ := cells2 r0
  have G := hide (fun W2 (h : Below W.heap.size W W2) => has_get (w := w) (W := W2) (g := p) (room := room) (life := life) (L := L) key now (hF.has.below h))
  rw [hE] at G
  have PG := hide (fun W1 (bl : Below W.heap.size W W1) => fdb_call (hF.below bl) (fun W2 h => has_put (w := w) (W := W2) (g := p) (room := room) (life := life) (L := L) key val now h hkb hvb))
  rw [hP] at PG
  subst hc
  have hne : (val != val) = false := by simp
  have F0 := hide hF
  have B0 := hide b0
  have R0 := hide r0
  clear b0 r0 hE hF h hv hmm hkb hvb ht hkey hval
  go_enter Try.func14, Try.ntmps14
  go_wp2_with fail
  refine (unhide C _).mono ?_
  rintro e w1 ⟨rfl, rfl⟩
  go_wp2_with fail
  refine (unhide T _).mono ?_
  rintro e w2 ⟨rfl, b2⟩
  have B2 := hide (bthen (unhide B0) b2)
  have R2 := hide (Below.row b2 (unhide R0))
  have keepG : Hid (∀ W2, Below w2.heap.size w2 W2 → W2.cell? ⟨W.heap.size, 0, none⟩ = some (.int .i64 k) ∧ W2.cell? ⟨W.heap.size, 1, none⟩ = some (.int .u32 n)) := fun W2 h => by
    have c := cells2 (Below.row h (unhide R2))
    exact ⟨c.1, c.2.1⟩
  clear b2 C T q0 q1
  go_wp2_with fail
  go_region_held3 (fun w' => w'.cell? ⟨W.heap.size, 0, none⟩ = some (.int .i64 k) ∧ w'.cell? ⟨W.heap.size, 1, none⟩ = some (.int .u32 n)) ((refine unhide keepG _ ?_; (repeat (first | (with_reducible exact Below.refl _ _) | (with_reducible refine Below.drew ?_) | (with_reducible refine bthen ?_ B3))); done))
    ((first | (go_at_call 27; refine (unhide K _).mono ?_; rintro e2 w4 ⟨rfl, rfl⟩) | (go_at_call 30; refine (unhide V _).mono ?_; rintro e2 w3 ⟨rfl, B3⟩)))
  have B4 := hide (bthen (unhide B2) (bthen (w := w2) (by (repeat (first | (with_reducible exact Below.refl _ _) | (with_reducible refine Below.drew ?_)))) B3))
  have p4 := ((unhide F0).below (unhide B4)).ptr
  clear B3 keepG K V
  go_wp2_with fail
  refine (unhide G _ (unhide B4)).mono ?_
  rintro e w5 ⟨rfl, b5⟩
  have b6 := bthen (bthen (unhide B4) b5) (alloc_below w5 (.cells #[.int .u64 ek, .int .u64 val, .int .i64 ea, .bool false] 72))
  have B6 := hide b6
  have r6 := heap_alloc_new w5 (.cells #[.int .u64 ek, .int .u64 val, .int .i64 ea, .bool false] 72)
  obtain ⟨s0, s1, s2, s3, _⟩ := cells4 r6
  have F6 := hide ((unhide F0).below b6)
  have p6 := (unhide F6).ptr
  clear b5 b6 p4 G B4
  have P6 := hide (unhide PG _ (unhide B6) _ (Below.refl _ _))
  clear PG r6
  go_wp2_with fail
  refine (unhide P6).mono ?_
  rintro e w7 ⟨rfl, h7, s7⟩
  have H7 := hide h7
  have S7 := hide ((StaysM.of (unhide B6)).trans s7)
  clear h7 s7 p6 P6 s0 s1 s2 s3
  go_wp2_with fail
  go_ret
  exact ⟨rfl, unhide H7, unhide S7⟩
end Go.Proofs.Ytpddbfdgaeldjaa
