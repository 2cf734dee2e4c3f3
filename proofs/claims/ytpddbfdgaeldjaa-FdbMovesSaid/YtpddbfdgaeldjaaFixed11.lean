/-
  gangwaylaw11.port and fixed: calls whose answers the document fixes: true, always.
-/
import Derived.Test.YtpddbfdgaeldjaaFd7
namespace Go.Proofs.Ytpddbfdgaeldjaa
open Go.RowKit Go.Sort

theorem port_any (n : Int) (w : World) : Calls Try.prog 13 #[.int .u32 n] w fun e w' => e = .returned (.agg #[.int .i64 0, .int .u32 n]) ∧ Below w.heap.size w w' := by
  obtain ⟨q0, q1, _⟩ := cells2 (heap_alloc_new w (.cells #[.int .i64 0, .int .u32 0] 42))
  go_enter Try.func13, Try.ntmps13
  go_wp2_with fail
  refine bodyPost_ret (v := .agg #[.int .i64 0, .int .u32 n]) ?_ rfl ⟨rfl, alloc_below _ _⟩
  exact results_cell_row rfl _ _ w.heap.size 42 _ _ _ rfl (heap_alloc_new w _) Try.underlying42 rfl (by kernel_rfl)
theorem fieldsTarget : Try.prog.underlying 42 = some (.struct (Try.prog.fieldsOf 42)) := by kernel_rfl
theorem heldTarget : Try.prog.stoodInHeld 42 = false := by kernel_rfl
theorem eql_target (a c : Int) (b d : Int) (W : World) : (binOp .eql 42 (.agg #[.int .i64 a, .int .u32 b]) (.agg #[.int .i64 c, .int .u32 d])).run Try.prog W = .ok (.bool (a == c && b == d)) W := by
  rw [run_eql_struct, run_equalIn_agg _ _ _ _ _ fieldsTarget heldTarget]
  by_cases h1 : a = c
  · by_cases h2 : b = d
    · subst h1 h2
      simp [go_sem, Try.underlying42]
    · subst h1
      simp [go_sem, Try.underlying42, h2]
  · simp [go_sem, Try.underlying42, h1]
theorem fx_m12 : mayB 1 2 = true := by kernel_rfl
theorem fx_m36 : mayB 3 6 = true := by kernel_rfl
theorem fx_m22 : mayB 2 2 = true := by kernel_rfl
theorem fx_mb : mayB 1 281474976710655 = false := by kernel_rfl
theorem fx_e1 : entO (told 9 0 (look [] 281474976710658)) = .tuple #[.agg #[.int .u64 0, .int .u64 0, .int .i64 0, .bool false], .bool false] := by kernel_rfl
theorem fx_p1 : putP 4 9 [] ⟨281474976710658, 1, 0, false⟩ = (0, [⟨281474976710658, 1, 0, false⟩]) := by kernel_rfl
theorem fx_e2 : entO (told 9 1 (look [⟨281474976710658, 1, 0, false⟩] 281474976710658)) = .tuple #[.agg #[.int .u64 281474976710658, .int .u64 1, .int .i64 0, .bool false], .bool true] := by kernel_rfl
theorem fx_p2 : putP 4 9 [⟨281474976710658, 1, 0, false⟩] ⟨281474976710658, 1, 1, false⟩ = (0, [⟨281474976710658, 1, 1, false⟩]) := by kernel_rfl
theorem fx_e3 : entO (told 9 2 (look [⟨281474976710658, 1, 1, false⟩] 281474976710658)) = .tuple #[.agg #[.int .u64 281474976710658, .int .u64 1, .int .i64 1, .bool false], .bool true] := by kernel_rfl
theorem fx_p3 : putP 4 9 [⟨281474976710658, 1, 1, false⟩] ⟨281474976710658, 2, 2, false⟩ = (0, [⟨281474976710658, 2, 2, false⟩]) := by kernel_rfl
theorem fx_e4 : entO (told 9 3 (look [⟨281474976710658, 2, 2, false⟩] 281474976710658)) = .tuple #[.agg #[.int .u64 281474976710658, .int .u64 2, .int .i64 2, .bool false], .bool true] := by kernel_rfl
theorem fx_e5 : told 9 4 (look [⟨281474976710658, 2, 2, false⟩] (1 * 281474976710656 + 2)) = some ⟨281474976710658, 2, 2, false⟩ := by kernel_rfl
theorem fx_e6 : entO (told 9 7 (look [⟨281474976710658, 2, 2, false⟩] 281474976710658)) = .tuple #[.agg #[.int .u64 281474976710658, .int .u64 2, .int .i64 2, .bool false], .bool true] := by kernel_rfl
theorem fx_p6 : putP 4 9 [⟨281474976710658, 2, 2, false⟩] ⟨281474976710658, 4294967303, 7, false⟩ = (0, [⟨281474976710658, 4294967303, 7, false⟩]) := by kernel_rfl
theorem fx_e7 : told 9 4 (look [⟨281474976710658, 4294967303, 7, false⟩] (2 * 281474976710656 + 2)) = none := by kernel_rfl
theorem fx_p8 : fixP 4 [⟨281474976710658, 4294967303, 7, false⟩] ⟨3 * 281474976710656 + 6, 0 * 4294967296 + 5, 0, true⟩ = (0, [⟨281474976710658, 4294967303, 7, false⟩, ⟨844424930131974, 5, 0, true⟩]) := by kernel_rfl
theorem fx_k9 : kept (hasVal (0 * 4294967296 + 5)) [⟨281474976710658, 4294967303, 7, false⟩, ⟨844424930131974, 5, 0, true⟩] = [⟨281474976710658, 4294967303, 7, false⟩, ⟨844424930131974, 5, 0, true⟩] := by kernel_rfl
theorem fx_l10 : (look [⟨281474976710658, 4294967303, 7, false⟩, ⟨844424930131974, 5, 0, true⟩] (3 * 281474976710656 + 6)).isSome = true := by kernel_rfl
theorem fx_d10 : del [⟨281474976710658, 4294967303, 7, false⟩, ⟨844424930131974, 5, 0, true⟩] (3 * 281474976710656 + 6) = [⟨281474976710658, 4294967303, 7, false⟩] := by kernel_rfl
theorem fx_c4 : cnt [2] 3 5 = 1 := by kernel_rfl
theorem fx_c6 : cnt [2] 7 5 = 0 := by kernel_rfl
set_option maxHeartbeats 4000000 in
set_option maxRecDepth 100000 in
theorem fixed_any (w : World) : Calls Try.prog 10 #[] w fun e w' => e = .returned (.bool true) ∧ Below w.heap.size w w' := by
  have C0 := hide (fnew_ok (w := w) (W := w) 4 9 1 5 (Below.refl _ w) (by unfold keepOk newOk; omega))
  have CN := hide (fun W => fnew_no (W := W) 4 9 65 5 (by unfold keepOk; omega))
  have CP := hide port_any
  have C1 := hide (fun g p b mr v W (h : Fdb w g p b mr v 1 5 4 9 [] [] W) => learn_new W h (by omega) (by omega) fx_m12 (k := 0) (n := 1) (.inl ⟨rfl, by omega, by omega⟩) rfl rfl fx_e1 fx_p1 rfl)
  have C2 := hide (fun g p b mr v W (h : Fdb w g p b mr v 1 5 4 9 [⟨281474976710658, 1, 0, false⟩] [] W) => learn_same W h (by omega) (by omega) fx_m12 (k := 0) (n := 1) (.inl ⟨rfl, by omega, by omega⟩) rfl rfl fx_e2 fx_p2 rfl)
  have C3 := hide (fun g p b mr v W (h : Fdb w g p b mr v 1 5 4 9 [⟨281474976710658, 1, 1, false⟩] [] W) => learn_moved (most := 1) W h (by omega) (by omega) fx_m12 (k := 0) (n := 2) (.inl ⟨rfl, by omega, by omega⟩) rfl rfl fx_e3 (by decide) 0 rfl (by omega) (by omega) (by decide) (by omega) (fun _ h => by cases h) fx_p3)
  have C4 := hide (fun g p b mr v W (h : Fdb w g p b mr v 1 5 4 9 [⟨281474976710658, 2, 2, false⟩] [2] W) => learn_held W h (by omega) (by omega) fx_m12 (k := 0) (n := 1) (.inl ⟨rfl, by omega, by omega⟩) rfl rfl fx_e4 (by decide) (by decide) (by omega) (by rw [fx_c4]; decide))
  have C5 := hide (fun g p b mr v W (h : Fdb w g p b mr v 1 5 4 9 [⟨281474976710658, 2, 2, false⟩] [2] W) => find_may (vid := 1) (mac := 2) (now := 4) W h (by omega) fx_m12)
  rw [fx_e5] at C5
  have C6 := hide (fun g p b mr v W (h : Fdb w g p b mr v 1 5 4 9 [⟨281474976710658, 2, 2, false⟩] [2] W) => learn_moved (most := 1) W h (by omega) (by omega) fx_m12 (k := 1) (n := 7) (.inr ⟨rfl, by omega⟩) rfl rfl fx_e6 (by decide) 1 rfl (by omega) (by omega) (by rw [fx_c6]; decide) (by omega) (fun y h => by have := List.mem_singleton.1 h; omega) fx_p6)
  have C7 := hide (fun g p b mr v W (h : Fdb w g p b mr v 1 5 4 9 [⟨281474976710658, 4294967303, 7, false⟩] [7] W) => find_may (vid := 2) (mac := 2) (now := 4) W h (by omega) fx_m22)
  rw [fx_e7] at C7
  have C9 := hide (fun g W => learn_not (vid := 1) (mac := 281474976710655) (k := 0) (n := 1) (now := 0) g W (by omega) fx_mb)
  have CF := hide (fun g p b mr v W (h : Fdb w g p b mr v 1 5 4 9 [⟨281474976710658, 4294967303, 7, false⟩] [7] W) => fix_yes (vid := 3) (mac := 6) (k := 0) (n := 5) W h (by omega) (by omega) fx_m36 (.inl ⟨rfl, by omega, by omega⟩) fx_p8)
  have CL := hide (fun g p b mr v W (h : Fdb w g p b mr v 1 5 4 9 [⟨281474976710658, 4294967303, 7, false⟩, ⟨844424930131974, 5, 0, true⟩] [7] W) => flush_yes (k := 0) (n := 5) W h (by omega) (.inl ⟨rfl, by omega, by omega⟩))
  rw [fx_k9] at CL
  have CG := hide (fun g p b mr v W (h : Fdb w g p b mr v 1 5 4 9 [⟨281474976710658, 4294967303, 7, false⟩, ⟨844424930131974, 5, 0, true⟩] [7] W) => forget_may (vid := 3) (mac := 6) W h (by omega) fx_m36)
  rw [fx_l10, fx_d10] at CG
  have CE := hide (fun g p b mr v W (h : Fdb w g p b mr v 1 5 4 9 [⟨281474976710658, 4294967303, 7, false⟩] [7] W) => places_any W 1 h rfl)
  simp only [foundO] at C5 C7
  rw [show (2 : Int) / 4294967296 = 0 from rfl, show (2 : Int) % 4294967296 = 2 from rfl] at C5
  go_enter Try.func10, Try.ntmps10
  go_wp2_with fail
  refine (unhide C0).mono ?_
  rintro e w1 ⟨g, rfl, ⟨p, b, h1⟩, _, _⟩
  have H1 := hide h1
  clear h1 C0
  go_wp2_with fail
  refine (unhide CP 1 _).mono ?_
  rintro e v1 ⟨rfl, bp⟩
  have J1 := hide ((unhide H1).below bp)
  clear bp
  go_wp2_with fail
  refine (unhide C1 _ _ _ _ _ _ (unhide J1)).mono ?_
  rintro e w2 ⟨rfl, h2, _⟩
  have H2 := hide h2
  clear h2 H1 J1 C1
  go_wp2_with fail
  refine (unhide CP 1 _).mono ?_
  rintro e v2 ⟨rfl, bp⟩
  have J2 := hide ((unhide H2).below bp)
  clear bp
  go_wp2_with fail
  refine (unhide C2 _ _ _ _ _ _ (unhide J2)).mono ?_
  rintro e w3 ⟨rfl, h3, _⟩
  have H3 := hide h3
  clear h3 H2 J2 C2
  go_wp2_with fail
  refine (unhide CP 2 _).mono ?_
  rintro e v3 ⟨rfl, bp⟩
  have J3 := hide ((unhide H3).below bp)
  clear bp
  go_wp2_with fail
  refine (unhide C3 _ _ _ _ _ _ (unhide J3)).mono ?_
  rintro e w4 ⟨rfl, mr4, ⟨vv4, h4⟩, _⟩
  have H4 := hide h4
  clear h4 H3 J3 C3
  go_wp2_with fail
  refine (unhide CP 1 _).mono ?_
  rintro e v4 ⟨rfl, bp⟩
  have J4 := hide ((unhide H4).below bp)
  clear bp
  go_wp2_with fail
  refine (unhide C4 _ _ _ _ _ _ (unhide J4)).mono ?_
  rintro e w5 ⟨rfl, b5⟩
  have H5 := hide ((unhide J4).below b5)
  clear b5 H4 J4 C4
  go_wp2_with fail
  refine (unhide C5 _ _ _ _ _ _ (unhide H5)).mono ?_
  rintro e w6 ⟨rfl, b6⟩
  have T6 := alloc_below w6 (.cells #[.int .i64 0, .int .u32 2] 42)
  have H6 := hide (((unhide H5).below b6).below T6)
  have R6 := hide (heap_alloc_new w6 (.cells #[.int .i64 0, .int .u32 2] 42))
  clear b6 T6 H5 C5
  go_wp2_with fail
  refine (unhide C6 _ _ _ _ _ _ (unhide H6)).mono ?_
  rintro e w7 ⟨rfl, mr7, ⟨vv7, h7⟩, s7, _⟩
  have H7 := hide h7
  have R7 := hide (s7 _ _ rfl ((unhide H6).ne (by decide) (unhide R6)) (unhide R6))
  clear h7 s7 H6 R6 C6
  go_wp2_with fail
  refine (unhide C7 _ _ _ _ _ _ (unhide H7)).mono ?_
  rintro e w8 ⟨rfl, b8⟩
  have T8 := bthen b8 (alloc_below w8 (.cells #[.int .i64 0, .int .u32 0] 42))
  have H8 := hide ((unhide H7).below T8)
  have R8 := hide (Below.row T8 (unhide R7))
  clear b8 T8 H7 R7 C7
  go_wp2_with fail
  refine (unhide CN _).mono ?_
  rintro e w9 ⟨rfl, b9⟩
  have H9 := hide ((unhide H8).below b9)
  have R9 := hide (Below.row b9 (unhide R8))
  clear b9 H8 R8 CN
  go_wp2_with fail
  refine (unhide CP 1 _).mono ?_
  rintro e w10 ⟨rfl, b10⟩
  have H10 := hide ((unhide H9).below b10)
  have R10 := hide (Below.row b10 (unhide R9))
  clear b10 H9 R9
  go_wp2_with fail
  refine (unhide C9 _ _).mono ?_
  rintro e w11 ⟨rfl, b11⟩
  have HS := hide (And.intro (((unhide H10).below b11)).drew (Below.row b11 (unhide R10)))
  clear b11 H10 R10 C9
  go_wp2_with fail
  have EQ := eql_target 0 0 2 2
  rw [show ((0 : Int) == 0 && (2 : Int) == 2) = true from rfl] at EQ
  go_region_held3 (fun w' => w'.cell? ⟨w6.heap.size, 0, none⟩ = some (.int .i64 0) ∧ w'.cell? ⟨w6.heap.size, 1, none⟩ = some (.int .u32 2)) (exact ⟨(cells2 (unhide HS).2).1, (cells2 (unhide HS).2).2.1⟩)
    ((first
      | (go_at_call 13; refine (unhide CP _ _).mono ?_; rintro e12 w12 ⟨rfl, bp⟩; have HS := hide (And.intro ((unhide HS).1.below bp) (Below.row bp (unhide HS).2)); clear bp)
      | (go_at_call 18; refine (unhide CF _ _ _ _ _ _ (unhide HS).1).mono ?_; rintro e13 w13 ⟨rfl, h13, s13⟩; have HS := hide (And.intro h13 (s13 _ _ rfl ((unhide HS).1.ne (by decide) (unhide HS).2) (unhide HS).2)); clear h13 s13)
      | (go_at_call 15; refine (unhide CL _ _ _ _ _ _ (unhide HS).1).mono ?_; rintro e14 w14 ⟨rfl, h14, s14⟩; have HS := hide (And.intro h14 (s14 _ _ rfl ((unhide HS).1.ne (by decide) (unhide HS).2) (unhide HS).2)); clear h14 s14)
      | (go_at_call 20; refine (unhide CG _ _ _ _ _ _ (unhide HS).1).mono ?_; rintro e15 w15 ⟨rfl, h15, s15⟩; have HS := hide (And.intro h15 (s15 _ _ rfl ((unhide HS).1.ne (by decide) (unhide HS).2) (unhide HS).2)); clear h15 s15)
      | (go_at_call 9; refine (unhide CE _ _ _ _ _ _ (unhide HS).1).mono ?_; rintro e16 w16 ⟨r16, rfl, b16⟩; have HS := hide (And.intro ((unhide HS).1.below b16) (Below.row b16 (unhide HS).2)); clear b16)))
  go_wp2_with fail
  go_ret
  exact ⟨rfl, (unhide HS).1.has.1⟩
end Go.Proofs.Ytpddbfdgaeldjaa
