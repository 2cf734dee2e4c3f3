/-
  The contract of gangwaylaw12's same: a call on both tables: they answer alike.
-/
import Derived.Test.YtljhgehlaehgnaaGreatDoorPair12
import Derived.Test.YtljhgehlaehgnaaGreatDoorCells9
namespace Go.Proofs.YtljhgehlaehgnaaGreatDoor
open Go.RowKit Go.Sort

/-- the program's table and the document's, side by side -/
structure Pair (w : World) (g p k : Nat) (room life : Int) (L : List Ent) (M : List Hd) (W : World) : Prop where
  bnd : Bnd w g p room life L W
  has : HasH w k room life M W
  perm : L.Perm (M.map Hd.ent)
  own : OwnL L
theorem Pair.below {w W W' : World} {g p k : Nat} {room life : Int} {L : List Ent} {M : List Hd} (h : Pair w g p k room life L M W) (b : Below W.heap.size W W') : Pair w g p k room life L M W' := ⟨h.bnd.below b, h.has.below b, h.perm, h.own⟩
/-- what a call on both leaves -/
def Some2 (w : World) (g p k : Nat) (room life : Int) (W : World) : Prop := ∃ L M, Pair w g p k room life L M W
theorem fields_frame : Tryz.prog.underlying 68 = some (.struct (Tryz.prog.fieldsOf 68)) := by kernel_rfl
theorem held_frame : Tryz.prog.stoodInHeld 68 = false := by kernel_rfl
theorem same_frame (d s : Int) (has : Bool) (pri : Int) (dei : Bool) (v2 ty : Int) (R : ByteArray) (W : World) : (binOp .eql 68 (.agg #[.int .u64 d, .int .u64 s, .bool has, .int .i64 pri, .bool dei, .int .i64 v2, .int .i64 ty, .string R]) (.agg #[.int .u64 d, .int .u64 s, .bool has, .int .i64 pri, .bool dei, .int .i64 v2, .int .i64 ty, .string R])).run Tryz.prog W = .ok (.bool true) W := by
  rw [run_eql_struct, run_equalIn_agg _ _ _ _ _ fields_frame held_frame]
  simp [go_sem, Tryz.underlying68]
set_option maxHeartbeats 1000000 in
set_option maxRecDepth 100000 in
theorem same_note {w W : World} {g p k : Nat} {room life : Int} {L : List Ent} {M : List Hd} (vid now : Int) (a : Ar) (ip : Nat) (h : Pair w g p k room life L M W) (ha : a.fits) (hi : ip < 4294967296) :
    Calls Tryz.prog 9 #[.pointer (some ⟨g, 0, none⟩), .pointer (some ⟨k, 0, none⟩), .agg #[.int .i64 0, .int .i64 vid, .int .i64 a.op, .int .u64 (a.smac : Int), .int .u32 (a.sip : Int), .int .u64 (a.tmac : Int), .int .u32 (a.tip : Int), .int .u32 (ip : Int), .int .i64 now]] W fun e W' => e = .returned (.bool true) ∧ Some2 w g p k room life W' := by
  have b0 := alloc_below W (.cells #[.int .i64 0, .int .i64 vid, .int .i64 a.op, .int .u64 (a.smac : Int), .int .u32 (a.sip : Int), .int .u64 (a.tmac : Int), .int .u32 (a.tip : Int), .int .u32 (ip : Int), .int .i64 now] 37)
  have X0 := hide (heap_alloc_new W (.cells #[.int .i64 0, .int .i64 vid, .int .i64 a.op, .int .u64 (a.smac : Int), .int .u32 (a.sip : Int), .int .u64 (a.tmac : Int), .int .u32 (a.tip : Int), .int .u32 (ip : Int), .int .i64 now] 37))
  have P0 := hide (h.below b0)
  have HA := hide ha
  have HI := hide hi
  clear h b0 ha hi
  obtain ⟨q0, q1, q2, q3, q4, q5, q6, q7, q8, -⟩ := cells9 (unhide X0)
  have C : Hid (Calls Tryz.prog 7 #[.pointer (some ⟨g, 0, none⟩), .int .i64 vid, .agg #[.int .i64 a.op, .int .u64 (a.smac : Int), .int .u32 (a.sip : Int), .int .u64 (a.tmac : Int), .int .u32 (a.tip : Int)], .int .i64 now] (W.alloc (.cells #[.int .i64 0, .int .i64 vid, .int .i64 a.op, .int .u64 (a.smac : Int), .int .u32 (a.sip : Int), .int .u64 (a.tmac : Int), .int .u32 (a.tip : Int), .int .u32 (ip : Int), .int .i64 now] 37)) fun e W' => e = .returned (.bool (noteB vid a now)) ∧ Bnd w g p room life (noteL room life L vid a now) W' ∧ Stays (W.alloc (.cells #[.int .i64 0, .int .i64 vid, .int .i64 a.op, .int .u64 (a.smac : Int), .int .u32 (a.sip : Int), .int .u64 (a.tmac : Int), .int .u32 (a.tip : Int), .int .u32 (ip : Int), .int .i64 now] 37)) W') :=
    bnote_any vid now a (unhide P0).bnd (unhide P0).bnd.srt (unhide P0).bnd.room1 (unhide HA)
  go_enter Tryz.func9, Tryz.ntmps9
  go_wp2_with fail
  refine (unhide C).mono ?_
  rintro e W2 ⟨rfl, h2, s2⟩
  have k2 := (unhide P0).has.stays s2 h2.has.1
  have D : Hid (Calls Tryz.prog 20 #[.pointer (some ⟨k, 0, none⟩), .int .i64 vid, .agg #[.int .i64 a.op, .int .u64 (a.smac : Int), .int .u32 (a.sip : Int), .int .u64 (a.tmac : Int), .int .u32 (a.tip : Int)], .int .i64 now] W2 fun e W' => ∃ M', e = .returned (.bool (noteB vid a now)) ∧ (noteL room life L vid a now).Perm (M'.map Hd.ent) ∧ HasH w k room life M' W' ∧ StaysH W2 W') :=
    hasH_note vid now a k2 (unhide P0).bnd.srt (unhide P0).perm (unhide HA)
  have X2 := hide (s2 _ _ rfl (unhide X0))
  have H2 := hide h2
  clear q0 q1 q2 q3 q4 q5 q6 q7 q8 h2 s2 k2 C
  obtain ⟨q0, q1, q2, q3, q4, q5, q6, q7, q8, -⟩ := cells9 (unhide X2)
  go_wp2_with fail
  refine (unhide D).mono ?_
  rintro e W3 ⟨M', rfl, hp3, h3, s3⟩
  have FIN := hide (show Some2 w g p k room life W3 from ⟨_, M', (unhide H2).staysH s3 h3.1, h3, hp3, ownL_note (unhide P0).own⟩)
  clear hp3 h3 s3 D
  go_wp2_with fail
  go_ret
  exact ⟨rfl, unhide FIN⟩
set_option maxHeartbeats 1000000 in
set_option maxRecDepth 100000 in
theorem same_find {w W : World} {g p k : Nat} {room life : Int} {L : List Ent} {M : List Hd} (vid now : Int) (a : Ar) (ip : Nat) (h : Pair w g p k room life L M W) (ha : a.fits) (hi : ip < 4294967296) :
    Calls Tryz.prog 9 #[.pointer (some ⟨g, 0, none⟩), .pointer (some ⟨k, 0, none⟩), .agg #[.int .i64 1, .int .i64 vid, .int .i64 a.op, .int .u64 (a.smac : Int), .int .u32 (a.sip : Int), .int .u64 (a.tmac : Int), .int .u32 (a.tip : Int), .int .u32 (ip : Int), .int .i64 now]] W fun e W' => e = .returned (.bool true) ∧ Some2 w g p k room life W' := by
  have b0 := alloc_below W (.cells #[.int .i64 1, .int .i64 vid, .int .i64 a.op, .int .u64 (a.smac : Int), .int .u32 (a.sip : Int), .int .u64 (a.tmac : Int), .int .u32 (a.tip : Int), .int .u32 (ip : Int), .int .i64 now] 37)
  have X0 := hide (heap_alloc_new W (.cells #[.int .i64 1, .int .i64 vid, .int .i64 a.op, .int .u64 (a.smac : Int), .int .u32 (a.sip : Int), .int .u64 (a.tmac : Int), .int .u32 (a.tip : Int), .int .u32 (ip : Int), .int .i64 now] 37))
  have P0 := hide (h.below b0)
  have HA := hide ha
  have HI := hide hi
  clear h b0 ha hi
  obtain ⟨q0, q1, q2, q3, q4, q5, q6, q7, q8, -⟩ := cells9 (unhide X0)
  have C := hide (bfind_any vid now ip (unhide P0).bnd (unhide HI))
  obtain ⟨m, is, hmi⟩ : ∃ m is, macO (findE life now L vid ip) = .tuple #[.int .u64 m, .bool is] := by
    cases findE life now L vid ip with
    | none => exact ⟨0, false, rfl⟩
    | some e => exact ⟨e.val, true, rfl⟩
  have D := hide (fun W2 (b : Below (W.alloc (.cells #[.int .i64 1, .int .i64 vid, .int .i64 a.op, .int .u64 (a.smac : Int), .int .u32 (a.sip : Int), .int .u64 (a.tmac : Int), .int .u32 (a.tip : Int), .int .u32 (ip : Int), .int .i64 now] 37)).heap.size (W.alloc (.cells #[.int .i64 1, .int .i64 vid, .int .i64 a.op, .int .u64 (a.smac : Int), .int .u32 (a.sip : Int), .int .u64 (a.tmac : Int), .int .u32 (a.tip : Int), .int .u32 (ip : Int), .int .i64 now] 37)) W2) => hasH_find (w := w) (W := W2) vid now ip ((unhide P0).has.below b) (unhide P0).bnd.srt (unhide P0).perm (unhide HI))
  rw [hmi] at C D
  clear hmi
  go_enter Tryz.func9, Tryz.ntmps9
  go_wp2_with fail
  refine (unhide C).mono ?_
  rintro e W2 ⟨rfl, b2⟩
  have D2 := hide (unhide D W2 b2)
  have B2 := hide b2
  have X2 := hide (Below.row b2 (unhide X0))
  clear q0 q1 q2 q3 q4 q5 q6 q7 q8 b2 C D
  obtain ⟨q0, q1, q2, q3, q4, q5, q6, q7, q8, -⟩ := cells9 (unhide X2)
  go_wp2_with fail
  refine (unhide D2).mono ?_
  rintro e W3 ⟨rfl, b3⟩
  have FIN := hide (show Some2 w g p k room life W3 from ⟨_, _, (unhide P0).below (bthen (unhide B2) b3)⟩)
  clear b3 D2
  go_wp2_with fail
  go_ret
  exact ⟨rfl, unhide FIN⟩
set_option maxHeartbeats 1000000 in
set_option maxRecDepth 100000 in
theorem same_reply {w W : World} {g p k : Nat} {room life : Int} {L : List Ent} {M : List Hd} (vid now : Int) (a : Ar) (ip : Nat) (h : Pair w g p k room life L M W) (ha : a.fits) (hi : ip < 4294967296) :
    Calls Tryz.prog 9 #[.pointer (some ⟨g, 0, none⟩), .pointer (some ⟨k, 0, none⟩), .agg #[.int .i64 2, .int .i64 vid, .int .i64 a.op, .int .u64 (a.smac : Int), .int .u32 (a.sip : Int), .int .u64 (a.tmac : Int), .int .u32 (a.tip : Int), .int .u32 (ip : Int), .int .i64 now]] W fun e W' => e = .returned (.bool true) ∧ Some2 w g p k room life W' := by
  have b0 := alloc_below W (.cells #[.int .i64 2, .int .i64 vid, .int .i64 a.op, .int .u64 (a.smac : Int), .int .u32 (a.sip : Int), .int .u64 (a.tmac : Int), .int .u32 (a.tip : Int), .int .u32 (ip : Int), .int .i64 now] 37)
  have X0 := hide (heap_alloc_new W (.cells #[.int .i64 2, .int .i64 vid, .int .i64 a.op, .int .u64 (a.smac : Int), .int .u32 (a.sip : Int), .int .u64 (a.tmac : Int), .int .u32 (a.tip : Int), .int .u32 (ip : Int), .int .i64 now] 37))
  have P0 := hide (h.below b0)
  have HA := hide ha
  have HI := hide hi
  clear h b0 ha hi
  obtain ⟨q0, q1, q2, q3, q4, q5, q6, q7, q8, -⟩ := cells9 (unhide X0)
  obtain ⟨d, s, has, pri, dei, v2, ty, R, is, hq⟩ : ∃ (d s : Int) (has : Bool) (pri : Int) (dei : Bool) (v2 ty : Int) (R : ByteArray) (is : Bool), Value.tuple #[(replyF life now L vid a).1.val, .bool (replyF life now L vid a).2] = .tuple #[.agg #[.int .u64 d, .int .u64 s, .bool has, .int .i64 pri, .bool dei, .int .i64 v2, .int .i64 ty, .string R], .bool is] := ⟨_, _, _, _, _, _, _, _, _, rfl⟩
  have C0 := breply_any vid now a (unhide P0).bnd (unhide HA)
  rw [hq] at C0
  have C : Hid (Calls Tryz.prog 23 #[.pointer (some ⟨g, 0, none⟩), .int .i64 vid, .agg #[.int .i64 a.op, .int .u64 (a.smac : Int), .int .u32 (a.sip : Int), .int .u64 (a.tmac : Int), .int .u32 (a.tip : Int)], .int .i64 now] (W.alloc (.cells #[.int .i64 2, .int .i64 vid, .int .i64 a.op, .int .u64 (a.smac : Int), .int .u32 (a.sip : Int), .int .u64 (a.tmac : Int), .int .u32 (a.tip : Int), .int .u32 (ip : Int), .int .i64 now] 37)) fun e W' => e = .returned (.tuple #[.agg #[.int .u64 d, .int .u64 s, .bool has, .int .i64 pri, .bool dei, .int .i64 v2, .int .i64 ty, .string R], .bool is]) ∧ Below (W.alloc (.cells #[.int .i64 2, .int .i64 vid, .int .i64 a.op, .int .u64 (a.smac : Int), .int .u32 (a.sip : Int), .int .u64 (a.tmac : Int), .int .u32 (a.tip : Int), .int .u32 (ip : Int), .int .i64 now] 37)).heap.size (W.alloc (.cells #[.int .i64 2, .int .i64 vid, .int .i64 a.op, .int .u64 (a.smac : Int), .int .u32 (a.sip : Int), .int .u64 (a.tmac : Int), .int .u32 (a.tip : Int), .int .u32 (ip : Int), .int .i64 now] 37)) W') := C0
  have D : Hid (∀ W2, Below (W.alloc (.cells #[.int .i64 2, .int .i64 vid, .int .i64 a.op, .int .u64 (a.smac : Int), .int .u32 (a.sip : Int), .int .u64 (a.tmac : Int), .int .u32 (a.tip : Int), .int .u32 (ip : Int), .int .i64 now] 37)).heap.size (W.alloc (.cells #[.int .i64 2, .int .i64 vid, .int .i64 a.op, .int .u64 (a.smac : Int), .int .u32 (a.sip : Int), .int .u64 (a.tmac : Int), .int .u32 (a.tip : Int), .int .u32 (ip : Int), .int .i64 now] 37)) W2 → Calls Tryz.prog 24 #[.pointer (some ⟨k, 0, none⟩), .int .i64 vid, .agg #[.int .i64 a.op, .int .u64 (a.smac : Int), .int .u32 (a.sip : Int), .int .u64 (a.tmac : Int), .int .u32 (a.tip : Int)], .int .i64 now] W2 fun e W' => e = .returned (.tuple #[.agg #[.int .u64 d, .int .u64 s, .bool has, .int .i64 pri, .bool dei, .int .i64 v2, .int .i64 ty, .string R], .bool is]) ∧ Below W2.heap.size W2 W') := fun W2 b => by
    have h := hasH_reply (w := w) (W := W2) vid now a ((unhide P0).has.below b) (unhide P0).bnd.srt (unhide P0).own (unhide P0).bnd.oks (unhide P0).perm (unhide HA)
    rw [hq] at h
    exact h
  have SF := fun W => same_frame d s has pri dei v2 ty R W
  clear hq C0
  go_enter Tryz.func9, Tryz.ntmps9
  go_wp2_with fail
  refine (unhide C).mono ?_
  rintro e W2 ⟨rfl, b2⟩
  have b3 := alloc_then (o := .cells #[.int .u64 d, .int .u64 s, .bool has, .int .i64 pri, .bool dei, .int .i64 v2, .int .i64 ty, .string R] 68) b2
  have D2 := hide (unhide D _ b3)
  have B3 := hide b3
  have X3 := hide (Below.row b3 (unhide X0))
  have F3 := hide (heap_alloc_new W2 (.cells #[.int .u64 d, .int .u64 s, .bool has, .int .i64 pri, .bool dei, .int .i64 v2, .int .i64 ty, .string R] 68))
  clear q0 q1 q2 q3 q4 q5 q6 q7 q8 b2 b3 C D
  obtain ⟨q0, q1, q2, q3, q4, q5, q6, q7, q8, -⟩ := cells9 (unhide X3)
  go_wp2_with fail
  refine (unhide D2).mono ?_
  rintro e W4 ⟨rfl, b4⟩
  have b5 := alloc_then (o := .cells #[.int .u64 d, .int .u64 s, .bool has, .int .i64 pri, .bool dei, .int .i64 v2, .int .i64 ty, .string R] 68) b4
  obtain ⟨z0, z1, z2, z3, z4, z5, z6, z7, -⟩ := cells8 (Below.row b5 (unhide F3))
  obtain ⟨y0, y1, y2, y3, y4, y5, y6, y7, -⟩ := cells8 (heap_alloc_new W4 (.cells #[.int .u64 d, .int .u64 s, .bool has, .int .i64 pri, .bool dei, .int .i64 v2, .int .i64 ty, .string R] 68))
  have FIN := hide (show Some2 w g p k room life _ from ⟨_, _, (unhide P0).below (bthen (unhide B3) b5)⟩)
  clear b4 b5 D2 B3 X3 F3 q0 q1 q2 q3 q4 q5 q6 q7 q8
  go_wp2_with fail
  go_ret
  exact ⟨rfl, unhide FIN⟩
set_option maxHeartbeats 1000000 in
set_option maxRecDepth 100000 in
theorem same_expire {w W : World} {g p k : Nat} {room life : Int} {L : List Ent} {M : List Hd} (vid now : Int) (a : Ar) (ip : Nat) (h : Pair w g p k room life L M W) (ha : a.fits) (hi : ip < 4294967296) :
    Calls Tryz.prog 9 #[.pointer (some ⟨g, 0, none⟩), .pointer (some ⟨k, 0, none⟩), .agg #[.int .i64 3, .int .i64 vid, .int .i64 a.op, .int .u64 (a.smac : Int), .int .u32 (a.sip : Int), .int .u64 (a.tmac : Int), .int .u32 (a.tip : Int), .int .u32 (ip : Int), .int .i64 now]] W fun e W' => e = .returned (.bool true) ∧ Some2 w g p k room life W' := by
  have b0 := alloc_below W (.cells #[.int .i64 3, .int .i64 vid, .int .i64 a.op, .int .u64 (a.smac : Int), .int .u32 (a.sip : Int), .int .u64 (a.tmac : Int), .int .u32 (a.tip : Int), .int .u32 (ip : Int), .int .i64 now] 37)
  have X0 := hide (heap_alloc_new W (.cells #[.int .i64 3, .int .i64 vid, .int .i64 a.op, .int .u64 (a.smac : Int), .int .u32 (a.sip : Int), .int .u64 (a.tmac : Int), .int .u32 (a.tip : Int), .int .u32 (ip : Int), .int .i64 now] 37))
  have P0 := hide (h.below b0)
  have HA := hide ha
  have HI := hide hi
  clear h b0 ha hi
  obtain ⟨q0, q1, q2, q3, q4, q5, q6, q7, q8, -⟩ := cells9 (unhide X0)
  have C := hide (fun W2 (b : Below (W.alloc (.cells #[.int .i64 3, .int .i64 vid, .int .i64 a.op, .int .u64 (a.smac : Int), .int .u32 (a.sip : Int), .int .u64 (a.tmac : Int), .int .u32 (a.tip : Int), .int .u32 (ip : Int), .int .i64 now] 37)).heap.size (W.alloc (.cells #[.int .i64 3, .int .i64 vid, .int .i64 a.op, .int .u64 (a.smac : Int), .int .u32 (a.sip : Int), .int .u64 (a.tmac : Int), .int .u32 (a.tip : Int), .int .u32 (ip : Int), .int .i64 now] 37)) W2) => (has_expire (w := w) (W := W2) now ((unhide P0).bnd.below b).has).mono (fun e W' ⟨h1, h2, h3⟩ => (⟨h1, (unhide P0).bnd.stays h2 ((Stays.of b).trans h3) (nf_exp (unhide P0).bnd.nf), (Stays.of b).trans h3⟩ : _ ∧ Bnd w g p room life (expP life now L) W' ∧ Stays (W.alloc (.cells #[.int .i64 3, .int .i64 vid, .int .i64 a.op, .int .u64 (a.smac : Int), .int .u32 (a.sip : Int), .int .u64 (a.tmac : Int), .int .u32 (a.tip : Int), .int .u32 (ip : Int), .int .i64 now] 37)) W')))
  have D := hide (fun W2 (hh : HasH w k room life M W2) => hasH_expire (w := w) (W := W2) now hh (unhide P0).perm)
  obtain ⟨c, hcq⟩ : ∃ c, (L.length : Int) - ((expP life now L).length : Int) = c := ⟨_, rfl⟩
  rw [hcq] at C D
  clear hcq
  generalize hW1 : W.alloc (.cells #[.int .i64 3, .int .i64 vid, .int .i64 a.op, .int .u64 (a.smac : Int), .int .u32 (a.sip : Int), .int .u64 (a.tmac : Int), .int .u32 (a.tip : Int), .int .u32 (ip : Int), .int .i64 now] 37) = W1 at *
  have keepG : Hid (∀ W2, Below W1.heap.size W1 W2 → W2.cell? ⟨g, 0, none⟩ = some (.iface 47 (.pointer (some ⟨p, 0, none⟩))) ∧ W2.cell? ⟨W.heap.size, 4, none⟩ = some (.int .u32 (a.sip : Int)) ∧ W2.cell? ⟨W.heap.size, 8, none⟩ = some (.int .i64 now)) := fun W2 h => ⟨((unhide P0).bnd.below h).ptr.1, (cells9 (Below.row h (unhide X0))).2.2.2.2.1, (cells9 (Below.row h (unhide X0))).2.2.2.2.2.2.2.2.1⟩
  have keepS : Hid (∀ W2, Stays W1 W2 → W2.cell? ⟨g, 0, none⟩ = some (.iface 47 (.pointer (some ⟨p, 0, none⟩))) ∧ W2.cell? ⟨W.heap.size, 4, none⟩ = some (.int .u32 (a.sip : Int)) ∧ W2.cell? ⟨W.heap.size, 8, none⟩ = some (.int .i64 now)) := fun W2 h => by
    have c := cells9 (h _ _ rfl (unhide X0))
    exact ⟨(cells2 (h _ _ rfl (unhide P0).bnd.row)).1, c.2.2.2.2.1, c.2.2.2.2.2.2.2.2.1⟩
  go_enter Tryz.func9, Tryz.ntmps9
  go_wp2_with fail
  clear hW1
  go_region_held3 (fun w' => w'.cell? ⟨g, 0, none⟩ = some (.iface 47 (.pointer (some ⟨p, 0, none⟩))) ∧ w'.cell? ⟨W.heap.size, 4, none⟩ = some (.int .u32 (a.sip : Int)) ∧ w'.cell? ⟨W.heap.size, 8, none⟩ = some (.int .i64 now)) ((first | exact unhide keepS _ (unhide S3) | (refine unhide keepG _ ?_; (repeat (first | (with_reducible exact Below.refl _ _) | (with_reducible refine Below.drew ?_))); done)))
    ((first | (go_at_call 32; refine (unhide C _ ?_).mono ?_; (repeat (first | (with_reducible exact Below.refl _ _) | (with_reducible refine Below.drew ?_))); rintro e3 w3 ⟨rfl, h3, s3⟩; have H3 := hide h3; have S3 := hide s3; clear h3 s3)))
  all_goals
    go_wp2_with fail
    have k3 := (unhide P0).has.stays (unhide S3) (unhide H3).has.1
    refine (unhide D _ k3).mono ?_
    rintro e W4 ⟨M', rfl, hp4, h4, s4⟩
    have FIN := hide (show Some2 w g p k room life W4 from ⟨_, M', (unhide H3).staysH s4 h4.1, h4, hp4, ownL_exp (unhide P0).own⟩)
    clear hp4 h4 s4 k3
    go_wp2_with fail
    go_ret
    exact ⟨rfl, unhide FIN⟩
set_option maxHeartbeats 1000000 in
set_option maxRecDepth 100000 in
theorem same_other {w W : World} {g p k : Nat} {room life : Int} {L : List Ent} {M : List Hd} (kd vid now : Int) (a : Ar) (ip : Nat) (n0 : ¬ kd = 0) (n1 : ¬ kd = 1) (n2 : ¬ kd = 2) (n3 : ¬ kd = 3) (h : Pair w g p k room life L M W) (ha : a.fits) (hi : ip < 4294967296) :
    Calls Tryz.prog 9 #[.pointer (some ⟨g, 0, none⟩), .pointer (some ⟨k, 0, none⟩), .agg #[.int .i64 kd, .int .i64 vid, .int .i64 a.op, .int .u64 (a.smac : Int), .int .u32 (a.sip : Int), .int .u64 (a.tmac : Int), .int .u32 (a.tip : Int), .int .u32 (ip : Int), .int .i64 now]] W fun e W' => e = .returned (.bool true) ∧ Some2 w g p k room life W' := by
  have b0 := alloc_below W (.cells #[.int .i64 kd, .int .i64 vid, .int .i64 a.op, .int .u64 (a.smac : Int), .int .u32 (a.sip : Int), .int .u64 (a.tmac : Int), .int .u32 (a.tip : Int), .int .u32 (ip : Int), .int .i64 now] 37)
  have X0 := hide (heap_alloc_new W (.cells #[.int .i64 kd, .int .i64 vid, .int .i64 a.op, .int .u64 (a.smac : Int), .int .u32 (a.sip : Int), .int .u64 (a.tmac : Int), .int .u32 (a.tip : Int), .int .u32 (ip : Int), .int .i64 now] 37))
  have P0 := hide (h.below b0)
  have HA := hide ha
  have HI := hide hi
  clear h b0 ha hi
  obtain ⟨q0, q1, q2, q3, q4, q5, q6, q7, q8, -⟩ := cells9 (unhide X0)
  have d0 : decide (kd = 0) = false := decide_eq_false n0
  have d1 : decide (kd = 1) = false := decide_eq_false n1
  have d2 : decide (kd = 2) = false := decide_eq_false n2
  have d3 : decide (kd = 3) = false := decide_eq_false n3
  have FIN := hide (show Some2 w g p k room life _ from ⟨_, _, unhide P0⟩)
  clear P0
  go_enter Tryz.func9, Tryz.ntmps9
  go_wp2_with fail
  go_ret
  exact ⟨rfl, unhide FIN⟩
theorem same_any {w W : World} {g p k : Nat} {room life : Int} {L : List Ent} {M : List Hd} (kd vid now : Int) (a : Ar) (ip : Nat) (h : Pair w g p k room life L M W) (ha : a.fits) (hi : ip < 4294967296) :
    Calls Tryz.prog 9 #[.pointer (some ⟨g, 0, none⟩), .pointer (some ⟨k, 0, none⟩), .agg #[.int .i64 kd, .int .i64 vid, .int .i64 a.op, .int .u64 (a.smac : Int), .int .u32 (a.sip : Int), .int .u64 (a.tmac : Int), .int .u32 (a.tip : Int), .int .u32 (ip : Int), .int .i64 now]] W fun e W' => e = .returned (.bool true) ∧ Some2 w g p k room life W' := by
  by_cases n0 : kd = 0
  · subst n0; exact same_note vid now a ip h ha hi
  by_cases n1 : kd = 1
  · subst n1; exact same_find vid now a ip h ha hi
  by_cases n2 : kd = 2
  · subst n2; exact same_reply vid now a ip h ha hi
  by_cases n3 : kd = 3
  · subst n3; exact same_expire vid now a ip h ha hi
  exact same_other kd vid now a ip n0 n1 n2 n3 h ha hi
end Go.Proofs.YtljhgehlaehgnaaGreatDoor
