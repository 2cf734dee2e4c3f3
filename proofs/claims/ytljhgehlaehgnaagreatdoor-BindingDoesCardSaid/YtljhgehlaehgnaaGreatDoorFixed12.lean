/-
  The contracts of gangwaylaw12's tells, asks and fixed: the calls whose answers the document fixes.
-/
import Derived.Test.YtljhgehlaehgnaaGreatDoorBds
import Derived.Test.YtljhgehlaehgnaaGreatDoorArps
namespace Go.Proofs.YtljhgehlaehgnaaGreatDoor
open Go.RowKit Go.Sort

/-- who has 10.0.0.2 -/
def tellsA : Ar := ⟨2, 6, 167772162, 0, 0⟩
/-- who asks for it -/
def asksA : Ar := ⟨1, 2, 167772161, 0, 167772162⟩
/-- a message from no address -/
def zeroA : Ar := ⟨1, 2, 0, 0, 0⟩
theorem ltells_any (w : World) : Calls Tryz.prog 8 #[] w fun e w' => e = .returned (.agg #[.int .i64 2, .int .u64 6, .int .u32 167772162, .int .u64 0, .int .u32 0]) ∧ Below w.heap.size w w' := by
  go_enter Tryz.func8, Tryz.ntmps8
  go_wp2_with fail
  refine bodyPost_ret ?_ rfl ⟨rfl, alloc_below w _⟩
  exact results_cell_row rfl _ _ w.heap.size 35 _ _ _ rfl (heap_alloc_new w _) Tryz.underlying35 rfl (by kernel_rfl)
theorem lasks_any (w : World) : Calls Tryz.prog 26 #[] w fun e w' => e = .returned (.agg #[.int .i64 1, .int .u64 2, .int .u32 167772161, .int .u64 0, .int .u32 167772162]) ∧ Below w.heap.size w w' := by
  go_enter Tryz.func26, Tryz.ntmps26
  go_wp2_with fail
  refine bodyPost_ret ?_ rfl ⟨rfl, alloc_below w _⟩
  exact results_cell_row rfl _ _ w.heap.size 35 _ _ _ rfl (heap_alloc_new w _) Tryz.underlying35 rfl (by kernel_rfl)
/-- what is heard in fixed -/
def heardE : Ent := ⟨4462739458, 6, 0, false⟩
theorem fixed_noted : noteB 1 tellsA 0 = true ∧ noteL 3 9 [] 1 tellsA 0 = [heardE] := ⟨rfl, rfl⟩
theorem fixed_zero : noteB 1 zeroA 0 = false ∧ noteL 3 9 [heardE] 1 zeroA 0 = [heardE] := ⟨rfl, rfl⟩
theorem fixed_other : replyF 9 3 [heardE] 2 asksA = (Fr.none, false) := rfl
theorem fixed_old : replyF 9 9 [heardE] 1 asksA = (Fr.none, false) := rfl
theorem fixed_told : replyF 9 3 [heardE] 1 asksA = (arpFr 2 (tellAr asksA 6), true) := rfl
theorem fixed_found : macO (findE 9 8 [heardE] 1 167772162) = .tuple #[.int .u64 6, .bool true] := rfl
theorem fixed_expired : expP 9 9 [heardE] = [] := rfl
theorem srt_nil : Srt [] := List.Pairwise.nil
theorem srt_one (e : Ent) : Srt [e] := List.pairwise_singleton _ _
set_option maxHeartbeats 4000000 in
set_option maxRecDepth 100000 in
theorem fixed_any (w : World) : Calls Tryz.prog 12 #[] w fun e w' => e = .returned (.bool true) ∧ Below w.heap.size w w' := by
  have CN := hide (bnew_ok (w := w) 3 9 (Below.refl w.heap.size w) ⟨by omega, by omega, by omega, by omega⟩)
  have CZ := hide (fun W => bnew_no (W := W) 0 9 (fun h => by have := h.1; omega))
  have CT := hide (fun W => ltells_any W)
  have CA := hide (fun W => lasks_any W)
  have NT : Hid (∀ g p W, Bnd w g p 3 9 [] W → Calls Tryz.prog 7 #[.pointer (some ⟨g, 0, none⟩), .int .i64 1, .agg #[.int .i64 2, .int .u64 6, .int .u32 167772162, .int .u64 0, .int .u32 0], .int .i64 0] W fun e W' => e = .returned (.bool true) ∧ Bnd w g p 3 9 [heardE] W' ∧ Stays W W') :=
    fun g p W h => by
      have := bnote_any 1 0 tellsA h srt_nil (by omega) (by unfold Ar.fits tellsA; simp)
      rw [fixed_noted.1, fixed_noted.2] at this
      exact this
  have NZ : Hid (∀ g p W, Bnd w g p 3 9 [heardE] W → Calls Tryz.prog 7 #[.pointer (some ⟨g, 0, none⟩), .int .i64 1, .agg #[.int .i64 1, .int .u64 2, .int .u32 0, .int .u64 0, .int .u32 0], .int .i64 0] W fun e W' => e = .returned (.bool false) ∧ Bnd w g p 3 9 [heardE] W' ∧ Stays W W') :=
    fun g p W h => by
      have := bnote_any 1 0 zeroA h (srt_one _) (by omega) (by unfold Ar.fits zeroA; simp)
      rw [fixed_zero.1, fixed_zero.2] at this
      exact this
  have RT : Hid (∀ g p W, Bnd w g p 3 9 [heardE] W → Calls Tryz.prog 23 #[.pointer (some ⟨g, 0, none⟩), .int .i64 1, .agg #[.int .i64 1, .int .u64 2, .int .u32 167772161, .int .u64 0, .int .u32 167772162], .int .i64 3] W fun e W' => e = .returned (.tuple #[.agg #[.int .u64 2, .int .u64 6, .bool false, .int .i64 0, .bool false, .int .i64 0, .int .i64 2054, .string (bs (tellAr asksA 6).bytes)], .bool true]) ∧ Below W.heap.size W W') :=
    fun g p W h => by
      have := breply_any 1 3 asksA h (by unfold Ar.fits asksA; simp)
      rw [fixed_told] at this
      exact this
  have RO : Hid (∀ g p W, Bnd w g p 3 9 [heardE] W → Calls Tryz.prog 23 #[.pointer (some ⟨g, 0, none⟩), .int .i64 2, .agg #[.int .i64 1, .int .u64 2, .int .u32 167772161, .int .u64 0, .int .u32 167772162], .int .i64 3] W fun e W' => e = .returned (.tuple #[.agg #[.int .u64 0, .int .u64 0, .bool false, .int .i64 0, .bool false, .int .i64 0, .int .i64 0, .string ⟨#[]⟩], .bool false]) ∧ Below W.heap.size W W') :=
    fun g p W h => by
      have := breply_any 2 3 asksA h (by unfold Ar.fits asksA; simp)
      rw [fixed_other] at this
      exact this
  have RL : Hid (∀ g p W, Bnd w g p 3 9 [heardE] W → Calls Tryz.prog 23 #[.pointer (some ⟨g, 0, none⟩), .int .i64 1, .agg #[.int .i64 1, .int .u64 2, .int .u32 167772161, .int .u64 0, .int .u32 167772162], .int .i64 9] W fun e W' => e = .returned (.tuple #[.agg #[.int .u64 0, .int .u64 0, .bool false, .int .i64 0, .bool false, .int .i64 0, .int .i64 0, .string ⟨#[]⟩], .bool false]) ∧ Below W.heap.size W W') :=
    fun g p W h => by
      have := breply_any 1 9 asksA h (by unfold Ar.fits asksA; simp)
      rw [fixed_old] at this
      exact this
  have OF : Hid (∀ W, Calls Tryz.prog 27 #[.agg #[.int .u64 2, .int .u64 6, .bool false, .int .i64 0, .bool false, .int .i64 0, .int .i64 2054, .string (bs (tellAr asksA 6).bytes)]] W fun e W' => e = .returned (.tuple #[.agg #[.int .i64 2, .int .u64 6, .int .u32 167772162, .int .u64 2, .int .u32 167772161], .bool true]) ∧ Below W.heap.size W W') :=
    fun W => by
      have := of_any (arpFr 2 (tellAr asksA 6)) W (by rw [arpFr_len]; omega)
      rw [of_arpFr 2 (tellAr asksA 6) rfl (by decide) (by decide)] at this
      exact this
  have FD : Hid (∀ g p W, Bnd w g p 3 9 [heardE] W → Calls Tryz.prog 21 #[.pointer (some ⟨g, 0, none⟩), .int .i64 1, .int .u32 167772162, .int .i64 8] W fun e W' => e = .returned (.tuple #[.int .u64 6, .bool true]) ∧ Below W.heap.size W W') :=
    fun g p W h => by
      have := bfind_any 1 8 167772162 h (by decide)
      rw [fixed_found] at this
      exact this
  generalize bs (tellAr asksA 6).bytes = R at *
  go_enter Tryz.func12, Tryz.ntmps12
  go_wp2_with fail
  refine (unhide CN).mono ?_
  rintro e w1 ⟨g, p, rfl, h1, b1⟩
  have H1 := hide h1
  clear h1 b1 CN
  go_wp2_with fail
  refine (unhide CT _).mono ?_
  rintro e w2 ⟨rfl, b2⟩
  have H2 := hide ((unhide H1).below b2)
  clear b2 H1 CT
  go_wp2_with fail
  refine (unhide NT g p _ (unhide H2)).mono ?_
  rintro e w3 ⟨rfl, h3, -⟩
  have H3 := hide h3
  clear h3 H2 NT
  go_wp2_with fail
  refine (unhide CA _).mono ?_
  rintro e w4 ⟨rfl, b4⟩
  have H4 := hide ((unhide H3).below b4)
  clear b4 H3
  go_wp2_with fail
  refine (unhide RT g p _ (unhide H4)).mono ?_
  rintro e w5 ⟨rfl, b5⟩
  have H5 := hide (((unhide H4).below b5).below (alloc_below w5 (.cells #[.int .u64 2, .int .u64 6, .bool false, .int .i64 0, .bool false, .int .i64 0, .int .i64 2054, .string R] 68)))
  have r5 := heap_alloc_new w5 (.cells #[.int .u64 2, .int .u64 6, .bool false, .int .i64 0, .bool false, .int .i64 0, .int .i64 2054, .string R] 68)
  obtain ⟨x0, x1, x2, x3, x4, x5, x6, x7, -⟩ := cells8 r5
  have R5 := hide r5
  clear b5 r5 H4 RT
  go_wp2_with fail
  refine (unhide OF _).mono ?_
  rintro e w6 ⟨rfl, b6⟩
  have b7 := alloc_then (o := .cells #[.int .i64 2, .int .u64 6, .int .u32 167772162, .int .u64 2, .int .u32 167772161] 35) b6
  have H7 := hide ((unhide H5).below b7)
  have R7 := hide (Below.row b7 (unhide R5))
  have Q7 := hide (heap_alloc_new w6 (.cells #[.int .i64 2, .int .u64 6, .int .u32 167772162, .int .u64 2, .int .u32 167772161] 35))
  clear b6 b7 H5 R5 OF x0 x1 x2 x3 x4 x5 x6 x7
  generalize w5.heap.size = X at *
  go_wp2_with fail
  generalize w6.alloc (.cells #[.int .i64 2, .int .u64 6, .int .u32 167772162, .int .u64 2, .int .u32 167772161] 35) = w7 at *
  generalize w6.heap.size = Y at *
  refine (unhide CA _).mono ?_
  rintro e w8 ⟨rfl, b8⟩
  have H8 := hide ((unhide H7).below b8)
  have R8 := hide (Below.row b8 (unhide R7))
  have Q8 := hide (Below.row b8 (unhide Q7))
  clear b8 H7 R7 Q7
  go_wp2_with fail
  refine (unhide RO g p _ (unhide H8)).mono ?_
  rintro e w9 ⟨rfl, b9⟩
  have b10 := alloc_then (o := .cells #[.int .u64 0, .int .u64 0, .bool false, .int .i64 0, .bool false, .int .i64 0, .int .i64 0, .string ⟨#[]⟩] 68) b9
  have H10 := hide ((unhide H8).below b10)
  have R10 := hide (Below.row b10 (unhide R8))
  have Q10 := hide (Below.row b10 (unhide Q8))
  clear b9 b10 H8 R8 Q8 RO
  go_wp2_with fail
  generalize w9.alloc (.cells #[.int .u64 0, .int .u64 0, .bool false, .int .i64 0, .bool false, .int .i64 0, .int .i64 0, .string ⟨#[]⟩] 68) = w10 at *
  refine (unhide CA _).mono ?_
  rintro e w11 ⟨rfl, b11⟩
  have H11 := hide ((unhide H10).below b11)
  have R11 := hide (Below.row b11 (unhide R10))
  have Q11 := hide (Below.row b11 (unhide Q10))
  clear b11 H10 R10 Q10 CA
  go_wp2_with fail
  refine (unhide RL g p _ (unhide H11)).mono ?_
  rintro e w12 ⟨rfl, b12⟩
  have b13 := alloc_then (o := .cells #[.int .u64 0, .int .u64 0, .bool false, .int .i64 0, .bool false, .int .i64 0, .int .i64 0, .string ⟨#[]⟩] 68) b12
  have H13 := hide ((unhide H11).below b13)
  have R13 := hide (Below.row b13 (unhide R11))
  have Q13 := hide (Below.row b13 (unhide Q11))
  clear b12 b13 H11 R11 Q11 RL
  go_wp2_with fail
  generalize w12.alloc (.cells #[.int .u64 0, .int .u64 0, .bool false, .int .i64 0, .bool false, .int .i64 0, .int .i64 0, .string ⟨#[]⟩] 68) = w13 at *
  refine (unhide FD g p _ (unhide H13)).mono ?_
  rintro e w14 ⟨rfl, b14⟩
  have H14 := hide ((unhide H13).below b14)
  have R14 := hide (Below.row b14 (unhide R13))
  have Q14 := hide (Below.row b14 (unhide Q13))
  clear b14 H13 R13 Q13 FD
  go_wp2_with fail
  refine (unhide NZ g p _ (unhide H14)).mono ?_
  rintro e w15 ⟨rfl, h15, s15⟩
  have H15 := hide h15
  have R15 := hide (s15 _ _ rfl (unhide R14))
  have Q15 := hide (s15 _ _ rfl (unhide Q14))
  clear h15 s15 H14 R14 Q14 NZ
  go_wp2_with fail
  refine (unhide CZ _).mono ?_
  rintro e w16 ⟨rfl, b16⟩
  have h16 := (unhide H15).below b16
  obtain ⟨x0, x1, -⟩ := cells8 (Below.row b16 (unhide R15))
  obtain ⟨y0, y1, y2, y3, y4, -⟩ := cells5 (Below.row b16 (unhide Q15))
  have p0 := h16.ptr.1
  have CE := hide (has_entries h16.has)
  have H16 := hide h16
  clear b16 h16 H15 R15 Q15 CZ
  go_wp2_with fail
  refine (unhide CE).mono ?_
  rintro e w17 ⟨rfl, -, b17⟩
  have h17 := (unhide H16).below b17
  have p1 := h17.ptr.1
  have CX := hide (has_expire 9 h17.has)
  rw [fixed_expired] at CX
  clear b17 CE H16 p0
  go_wp2_with fail
  refine (unhide CX).mono ?_
  rintro e w18 ⟨rfl, h18, -⟩
  go_wp2_with fail
  go_ret
  exact ⟨rfl, h18.1⟩
end Go.Proofs.YtljhgehlaehgnaaGreatDoor
