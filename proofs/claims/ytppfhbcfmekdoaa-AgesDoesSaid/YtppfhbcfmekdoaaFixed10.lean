/-
  gangwaylaw10.fixed: calls whose answers the document fixes: true, always.
-/
import Derived.Test.YtppfhbcfmekdoaaHas10
namespace Go.Proofs.Ytppfhbcfmekdoaa
open Go.RowKit Go.Sort

theorem fx1 : putP 2 5 [] ⟨1, 9, 0, false⟩ = (0, [⟨1, 9, 0, false⟩]) := by kernel_rfl
theorem fx2 : putP 2 5 [⟨1, 9, 0, false⟩] ⟨2, 9, 1, false⟩ = (0, [⟨1, 9, 0, false⟩, ⟨2, 9, 1, false⟩]) := by kernel_rfl
theorem fx3 : putP 2 5 [⟨1, 9, 0, false⟩, ⟨2, 9, 1, false⟩] ⟨3, 9, 2, false⟩ = (0, [⟨2, 9, 1, false⟩, ⟨3, 9, 2, false⟩]) := by kernel_rfl
theorem fx4 : told 5 6 (look [⟨2, 9, 1, false⟩, ⟨3, 9, 2, false⟩] 3) = some ⟨3, 9, 2, false⟩ := by kernel_rfl
theorem fx5 : told 5 7 (look [⟨2, 9, 1, false⟩, ⟨3, 9, 2, false⟩] 3) = none := by kernel_rfl
theorem fx6 : fixP 2 [⟨2, 9, 1, false⟩, ⟨3, 9, 2, false⟩] ⟨2, 8, 0, true⟩ = (0, [⟨2, 8, 0, true⟩, ⟨3, 9, 2, false⟩]) := by kernel_rfl
theorem fx7 : fixP 2 [⟨2, 8, 0, true⟩, ⟨3, 9, 2, false⟩] ⟨4, 8, 0, true⟩ = (0, [⟨2, 8, 0, true⟩, ⟨4, 8, 0, true⟩]) := by kernel_rfl
theorem fx8 : putP 2 5 [⟨2, 8, 0, true⟩, ⟨4, 8, 0, true⟩] ⟨5, 1, 3, false⟩ = (101, [⟨2, 8, 0, true⟩, ⟨4, 8, 0, true⟩]) := by kernel_rfl
theorem fx9 : putP 2 5 [⟨2, 8, 0, true⟩, ⟨4, 8, 0, true⟩] ⟨2, 1, 3, false⟩ = (100, [⟨2, 8, 0, true⟩, ⟨4, 8, 0, true⟩]) := by kernel_rfl
theorem fx10 : (look [⟨2, 8, 0, true⟩, ⟨4, 8, 0, true⟩] 4).isSome = true := by kernel_rfl
theorem fx11 : del [⟨2, 8, 0, true⟩, ⟨4, 8, 0, true⟩] 4 = [⟨2, 8, 0, true⟩] := by kernel_rfl
theorem fx12 : (look [⟨2, 8, 0, true⟩] 4).isSome = false := by kernel_rfl
theorem fieldsEntry : Try.prog.underlying 41 = some (.struct (Try.prog.fieldsOf 41)) := by kernel_rfl
theorem heldEntry : Try.prog.stoodInHeld 41 = false := by kernel_rfl
theorem same_entry (a b c : Int) (f : Bool) (W : World) : (binOp .eql 41 (.agg #[.int .u64 a, .int .u64 b, .int .i64 c, .bool f]) (.agg #[.int .u64 a, .int .u64 b, .int .i64 c, .bool f])).run Try.prog W = .ok (.bool true) W := by
  rw [run_eql_struct, run_equalIn_agg _ _ _ _ _ fieldsEntry heldEntry]
  simp [go_sem, Try.underlying41]
theorem key_ok (n : Int) (h0 : 0 ≤ n) (h1 : n < 18446744073709551616) : 0 ≤ n ∧ n < 18446744073709551616 := ⟨h0, h1⟩
set_option maxHeartbeats 2000000 in
set_option maxRecDepth 100000 in
theorem fixed_any (w : World) : Calls Try.prog 17 #[] w fun e w' => e = .returned (.bool true) ∧ Below w.heap.size w w' := by
  have C0 := hide (has_new (w := w) 2 5 (Below.refl _ w) (by unfold newOk; omega))
  have C1 := hide (fun g W h => has_put (w := w) (W := W) (g := g) (room := 2) (life := 5) (L := []) 1 9 0 h (by omega) (by omega))
  have C2 := hide (fun g W h => has_put (w := w) (W := W) (g := g) (room := 2) (life := 5) (L := [⟨1, 9, 0, false⟩]) 2 9 1 h (by omega) (by omega))
  have C3 := hide (fun g W h => has_put (w := w) (W := W) (g := g) (room := 2) (life := 5) (L := [⟨1, 9, 0, false⟩, ⟨2, 9, 1, false⟩]) 3 9 2 h (by omega) (by omega))
  have C4 := hide (fun g W h => has_get (w := w) (W := W) (g := g) (room := 2) (life := 5) (L := [⟨2, 9, 1, false⟩, ⟨3, 9, 2, false⟩]) 3 6 h)
  have C5 := hide (fun g W h => has_get (w := w) (W := W) (g := g) (room := 2) (life := 5) (L := [⟨2, 9, 1, false⟩, ⟨3, 9, 2, false⟩]) 3 7 h)
  have C6 := hide (fun g W h => has_fix (w := w) (W := W) (g := g) (room := 2) (life := 5) (L := [⟨2, 9, 1, false⟩, ⟨3, 9, 2, false⟩]) 2 8 h (by omega) (by omega))
  have C7 := hide (fun g W h => has_fix (w := w) (W := W) (g := g) (room := 2) (life := 5) (L := [⟨2, 8, 0, true⟩, ⟨3, 9, 2, false⟩]) 4 8 h (by omega) (by omega))
  have C8 := hide (fun g W h => has_put (w := w) (W := W) (g := g) (room := 2) (life := 5) (L := [⟨2, 8, 0, true⟩, ⟨4, 8, 0, true⟩]) 5 1 3 h (by omega) (by omega))
  have C9 := hide (fun g W h => has_put (w := w) (W := W) (g := g) (room := 2) (life := 5) (L := [⟨2, 8, 0, true⟩, ⟨4, 8, 0, true⟩]) 2 1 3 h (by omega) (by omega))
  have CN := hide (fun W => new_no 0 1 W (by unfold newOk; omega))
  have CE := hide (fun g W h => has_entries (w := w) (W := W) (g := g) (room := 2) (life := 5) (L := [⟨2, 8, 0, true⟩, ⟨4, 8, 0, true⟩]) h)
  have D1 := hide (fun g W h => has_drop (w := w) (W := W) (g := g) (room := 2) (life := 5) (L := [⟨2, 8, 0, true⟩, ⟨4, 8, 0, true⟩]) 4 h)
  have D2 := hide (fun g W h => has_drop (w := w) (W := W) (g := g) (room := 2) (life := 5) (L := [⟨2, 8, 0, true⟩]) 4 h)
  rw [fx1] at C1
  rw [fx2] at C2
  rw [fx3] at C3
  rw [fx4] at C4
  rw [fx5] at C5
  rw [fx6] at C6
  rw [fx7] at C7
  rw [fx8] at C8
  rw [fx9] at C9
  rw [fx10, fx11] at D1
  rw [fx12] at D2
  simp only [entO, Ent.ent, noEnt] at C4 C5
  have SE := same_entry 3 9 2 false
  go_enter Try.func17, Try.ntmps17
  go_wp2_with fail
  refine (unhide C0).mono ?_
  rintro e w1 ⟨rfl, h1, b1⟩
  have H1 := hide h1
  clear h1 b1 C0
  generalize hg : w.heap.size = g at H1 ⊢
  clear hg
  go_wp2_with fail
  refine (unhide C1 _ _ (unhide H1)).mono ?_
  rintro e w2 ⟨rfl, h2, _⟩
  have H2 := hide h2
  clear h2 H1 C1
  go_wp2_with fail
  refine (unhide C2 _ _ (unhide H2)).mono ?_
  rintro e w3 ⟨rfl, h3, _⟩
  have H3 := hide h3
  clear h3 H2 C2
  go_wp2_with fail
  refine (unhide C3 _ _ (unhide H3)).mono ?_
  rintro e w4 ⟨rfl, h4, _⟩
  have H4 := hide h4
  clear h4 H3 C3
  go_wp2_with fail
  refine (unhide C4 _ _ (unhide H4)).mono ?_
  rintro e w5 ⟨rfl, b5⟩
  have H5 := hide (((unhide H4).below b5).below (alloc_below w5 (.cells #[.int .u64 3, .int .u64 9, .int .i64 2, .bool false] 41)))
  have r5 := hide (heap_alloc_new w5 (.cells #[.int .u64 3, .int .u64 9, .int .i64 2, .bool false] 41))
  clear b5 H4 C4
  go_wp2_with fail
  refine (unhide C5 _ _ (unhide H5)).mono ?_
  rintro e w6 ⟨rfl, b6⟩
  have H6 := hide (((unhide H5).below b6).below (alloc_below w6 (.cells #[.int .u64 0, .int .u64 0, .int .i64 0, .bool false] 41)))
  have r6 := hide (Below.row (alloc_below w6 (.cells #[.int .u64 0, .int .u64 0, .int .i64 0, .bool false] 41)) (Below.row b6 (unhide r5)))
  clear b6 H5 r5 C5
  generalize w5.heap.size = X at *
  go_wp2_with fail
  refine (unhide C6 _ _ (unhide H6)).mono ?_
  rintro e w7 ⟨rfl, h7, s7⟩
  have H7 := hide h7
  have r7 := hide (s7 _ _ _ _ (by decide) (by decide) (unhide r6))
  clear h7 s7 H6 r6 C6
  go_wp2_with fail
  refine (unhide C7 _ _ (unhide H7)).mono ?_
  rintro e w8 ⟨rfl, h8, s8⟩
  have H8 := hide h8
  have r8 := hide (s8 _ _ _ _ (by decide) (by decide) (unhide r7))
  clear h8 s8 H7 r7 C7
  go_wp2_with fail
  refine (unhide C8 _ _ (unhide H8)).mono ?_
  rintro e w9 ⟨rfl, h9, s9⟩
  have H9 := hide h9
  have r9 := hide (s9 _ _ _ _ (by decide) (by decide) (unhide r8))
  clear h9 s9 H8 r8 C8
  go_wp2_with fail
  refine (unhide C9 _ _ (unhide H9)).mono ?_
  rintro e w10 ⟨rfl, h10, s10⟩
  have H10 := hide h10
  have r10 := s10 _ _ _ _ (by decide) (by decide) (unhide r9)
  have c10 := cells4 r10
  clear h10 s10 H9 r9 C9 r10
  go_wp2_with fail
  refine (unhide CN _).mono ?_
  rintro e w11 ⟨rfl, rfl⟩
  clear CN
  go_wp2_with fail
  refine (unhide CE _ _ (unhide H10)).mono ?_
  rintro e w12 ⟨rfl, _, b12⟩
  have H12 := hide ((unhide H10).below b12)
  clear b12 H10 CE c10
  go_wp2_with fail
  refine (unhide D1 _ _ (unhide H12)).mono ?_
  rintro e w13 ⟨rfl, h13, _⟩
  have H13 := hide h13
  clear h13 H12 D1
  go_wp2_with fail
  refine (unhide D2 _ _ (unhide H13)).mono ?_
  rintro e w14 ⟨rfl, h14, _⟩
  have H14 := hide h14.1
  clear h14 H13 D2
  go_wp2_with fail
  go_ret
  exact ⟨rfl, unhide H14⟩
end Go.Proofs.Ytppfhbcfmekdoaa
