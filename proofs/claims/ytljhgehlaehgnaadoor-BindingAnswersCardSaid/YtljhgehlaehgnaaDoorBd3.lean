/-
  The contract of binding's Note, whole.
-/
import Derived.Test.YtljhgehlaehgnaaDoorBd2
namespace Go.Proofs.YtljhgehlaehgnaaDoor
open Go.RowKit Go.Sort

set_option maxRecDepth 100000 in
theorem note_put_at {w W : World} {g p : Nat} {room life : Int} {L L' : List Ent} {vid now op s i t j key c : Int} (hB : Bnd w g p room life L W)
    (C : Hid (∀ W, Calls Tryd.prog 17 #[.int .i64 vid] W fun e w' => e = .returned (.bool true) ∧ w' = W))
    (K : Hid (∀ W, Calls Tryd.prog 10 #[.agg #[.int .i64 op, .int .u64 s, .int .u32 i, .int .u64 t, .int .u32 j]] W fun e w' => e = .returned (.int .i64 0) ∧ Below W.heap.size W w'))
    (V : Hid (∀ W, Calls Tryd.prog 19 #[.int .i64 vid, .int .u32 i] W fun e w' => e = .returned (.int .u64 key) ∧ w' = W))
    (hk : 0 ≤ key ∧ key < 18446744073709551616) (hv : 0 ≤ s ∧ s < 18446744073709551616) (hi : (i != 0) = true) (hP : putP room life L ⟨key, s, now, false⟩ = (c, L')) :
    Calls Tryd.prog 8 #[.pointer (some ⟨g, 0, none⟩), .int .i64 vid, .agg #[.int .i64 op, .int .u64 s, .int .u32 i, .int .u64 t, .int .u32 j], .int .i64 now] W fun e W' => e = .returned (.bool (c == 0)) ∧ Has w p room life L' W' ∧ Stays W W' := by
  have r0 := heap_alloc_new W (.cells #[.int .i64 op, .int .u64 s, .int .u32 i, .int .u64 t, .int .u32 j] 37)
  have b0 := alloc_below W (.cells #[.int .i64 op, .int .u64 s, .int .u32 i, .int .u64 t, .int .u32 j] 37)
  have F1 := hide (hB.below b0)
  have B0 := hide b0
  have G : Hid (∀ W2, Below (W.alloc (.cells #[.int .i64 op, .int .u64 s, .int .u32 i, .int .u64 t, .int .u32 j] 37)).heap.size (W.alloc (.cells #[.int .i64 op, .int .u64 s, .int .u32 i, .int .u64 t, .int .u32 j] 37)) W2 →
      Calls Tryd.prog 18 #[.pointer (some ⟨p, 0, none⟩), .int .u64 key, .int .u64 s, .int .i64 now] W2 fun e W' => e = .returned (.int .i64 c) ∧ Has w p room life L' W' ∧ Stays (W.alloc (.cells #[.int .i64 op, .int .u64 s, .int .u32 i, .int .u64 t, .int .u32 j] 37)) W') := fun W2 b => by
    have h := has_put (w := w) (W := W2) (g := p) (room := room) (life := life) (L := L) key s now (((unhide F1).below b).has) hk hv
    rw [hP] at h
    exact h.mono fun e W' ⟨h1, h2, h3⟩ => ⟨h1, h2, (Stays.of b).trans h3⟩
  have hw : w.heap.size ≤ W.heap.size := hB.has.1.size
  have R1 := hide r0
  generalize hW1 : W.alloc (.cells #[.int .i64 op, .int .u64 s, .int .u32 i, .int .u64 t, .int .u32 j] 37) = W1 at *
  have keepG : Hid (∀ W2, Below W1.heap.size W1 W2 → W2.cell? ⟨g, 1, none⟩ = some (.pointer (some ⟨p, 0, none⟩)) ∧ W2.cell? ⟨W.heap.size, 0, none⟩ = some (.int .i64 op) ∧ W2.cell? ⟨W.heap.size, 1, none⟩ = some (.int .u64 s) ∧ W2.cell? ⟨W.heap.size, 2, none⟩ = some (.int .u32 i) ∧ W2.cell? ⟨W.heap.size, 3, none⟩ = some (.int .u64 t) ∧ W2.cell? ⟨W.heap.size, 4, none⟩ = some (.int .u32 j)) := fun W2 h => by
    have c := cells5 (Below.row h (unhide R1))
    exact ⟨((unhide F1).below h).ptr.2, c.1, c.2.1, c.2.2.1, c.2.2.2.1, c.2.2.2.2.1⟩
  have keepS : Hid (∀ W2, Stays W1 W2 → W2.cell? ⟨g, 1, none⟩ = some (.pointer (some ⟨p, 0, none⟩)) ∧ W2.cell? ⟨W.heap.size, 0, none⟩ = some (.int .i64 op) ∧ W2.cell? ⟨W.heap.size, 1, none⟩ = some (.int .u64 s) ∧ W2.cell? ⟨W.heap.size, 2, none⟩ = some (.int .u32 i) ∧ W2.cell? ⟨W.heap.size, 3, none⟩ = some (.int .u64 t) ∧ W2.cell? ⟨W.heap.size, 4, none⟩ = some (.int .u32 j)) := fun W2 h => by
    have c := cells5 (h _ _ rfl (unhide R1))
    exact ⟨(cells2 (h _ _ rfl (unhide F1).row)).2.1, c.1, c.2.1, c.2.2.1, c.2.2.2.1, c.2.2.2.2.1⟩
  clear r0 b0 hB hP hk hv
  go_enter Tryd.func8, Tryd.ntmps8
  go_wp2_with fail
  clear hW1
  go_region_held3 (fun w' => w'.cell? ⟨g, 1, none⟩ = some (.pointer (some ⟨p, 0, none⟩)) ∧ w'.cell? ⟨W.heap.size, 0, none⟩ = some (.int .i64 op) ∧ w'.cell? ⟨W.heap.size, 1, none⟩ = some (.int .u64 s) ∧ w'.cell? ⟨W.heap.size, 2, none⟩ = some (.int .u32 i) ∧ w'.cell? ⟨W.heap.size, 3, none⟩ = some (.int .u64 t) ∧ w'.cell? ⟨W.heap.size, 4, none⟩ = some (.int .u32 j)) ((first | exact unhide keepS _ (unhide S3) | (refine unhide keepG _ ?_; (repeat (first | (with_reducible exact Below.refl _ _) | (with_reducible refine Below.drew ?_) | (with_reducible refine bthen ?_ B2))); done)))
    ((first | (go_at_call 17; refine (unhide C _).mono ?_; rintro e2 w4 ⟨rfl, rfl⟩) | (go_at_call 10; refine (unhide K _).mono ?_; rintro e2 w2 ⟨rfl, B2⟩) | (go_at_call 19; refine (unhide V _).mono ?_; rintro e2 w5 ⟨rfl, rfl⟩) | (go_at_call 18; refine (unhide G _ ?_).mono ?_; (repeat (first | (with_reducible exact Below.refl _ _) | (with_reducible refine Below.drew ?_) | (with_reducible refine bthen ?_ B2))); rintro e3 w3 ⟨rfl, h3, s3⟩; have H3 := hide h3; have S3 := hide s3; clear h3 s3)))
  all_goals
    go_wp2_with fail
    go_ret
    exact ⟨rfl, unhide H3, (Stays.of (unhide B0)).trans (unhide S3)⟩
theorem bnote_any {w W : World} {g p : Nat} {room life : Int} {L : List Ent} (vid now : Int) (a : Ar) (hB : Bnd w g p room life L W) (hs : Srt L) (h1 : 1 ≤ room) (ha : a.fits) :
    Calls Tryd.prog 8 #[.pointer (some ⟨g, 0, none⟩), .int .i64 vid, a.val, .int .i64 now] W fun e W' => e = .returned (.bool (noteB vid a now)) ∧ Bnd w g p room life (noteL room life L vid a now) W' ∧ Stays W W' := by
  have no : ∀ (_ : noteB vid a now = false), Calls Tryd.prog 8 #[.pointer (some ⟨g, 0, none⟩), .int .i64 vid, a.val, .int .i64 now] W (fun e W' => e = .returned (.bool false) ∧ Below W.heap.size W W') → Calls Tryd.prog 8 #[.pointer (some ⟨g, 0, none⟩), .int .i64 vid, a.val, .int .i64 now] W fun e W' => e = .returned (.bool (noteB vid a now)) ∧ Bnd w g p room life (noteL room life L vid a now) W' ∧ Stays W W' := fun hn h => by
    unfold noteL
    rw [hn]
    exact h.mono fun e W' ⟨h1, h2⟩ => ⟨h1, hB.below h2, Stays.of h2⟩
  cases hv : vlanB vid with
  | false => exact no (by simp [noteB, hv]) (note_vid g vid now a W hv)
  | true =>
    by_cases hc : a.check = 0
    · by_cases hz : a.sip = 0
      · exact no (by simp [noteB, hz]) (note_zero g vid now a W ha hv hc hz)
      · have hr := bkey_rng (vlan_iff.1 hv) ha.2.2.1
        obtain ⟨hp1, hp2⟩ := putP_nf (room := room) (life := life) (x := ⟨bkey vid a.sip, a.smac, now, false⟩) hs hB.nf h1 rfl
        have hn : noteB vid a now = timeB now := by simp [noteB, hv, hc, hz]
        have C := hide (fun W => isVlan_any vid W)
        rw [hv] at C
        have K := hide (fun W => arpCheck_any a W ha)
        rw [hc] at K
        refine (note_put_at (c := (putP room life L ⟨bkey vid a.sip, a.smac, now, false⟩).1) (L' := (putP room life L ⟨bkey vid a.sip, a.smac, now, false⟩).2) hB C K (hide (fun W => bkeyOf_any vid a.sip W (vlan_iff.1 hv) ha.2.2.1)) hr (by have := ha.2.1; omega) (by simp; omega) rfl).mono fun e W' ⟨h2, h3, h4⟩ => ⟨?_, ?_, h4⟩
        · rw [h2, hp1, hn]
          cases timeB now <;> rfl
        · have e : noteL room life L vid a now = (putP room life L ⟨bkey vid a.sip, a.smac, now, false⟩).2 := by
            unfold noteL
            rw [hn]
            cases ht : timeB now with
            | true => rfl
            | false => simp [putP, ht]
          rw [e]
          exact hB.stays h3 h4 hp2
    · exact no (by simp [noteB, hc]) (note_check g vid now a W ha hv hc)
end Go.Proofs.YtljhgehlaehgnaaDoor
