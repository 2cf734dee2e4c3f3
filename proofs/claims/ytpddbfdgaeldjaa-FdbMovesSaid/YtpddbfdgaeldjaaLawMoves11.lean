/-
  FdbMoves: in a window an address moves no more often than it may; each move is to another place than it was at. No condition.
-/
import Derived.Test.YtpddbfdgaeldjaaFacts11
namespace Go.Proofs.Ytpddbfdgaeldjaa.fdbMoves
open Go.ChangeShapes Go.WideShapes Go.ChangeAt Go.RowKit Go.Deep Go.Sort

theorem qcells {W : World} {q : Nat} {a0 a1 a2 a3 a4 a5 : Value} (h : W.heap[q]? = some (.cells #[a0, a1, a2, a3, a4, a5] 52 (0, 0))) : W.cell? ⟨q, 3, none⟩ = some a3 ∧ W.cell? ⟨q, 4, none⟩ = some a4 := by
  have c := cells6 h
  exact ⟨c.2.2.2.1, c.2.2.2.2.1⟩
set_option maxHeartbeats 8000000 in
set_option maxRecDepth 100000 in
theorem walk (a b c d : Int) (ao : Option Addr) (n cap : Nat) (S : Nat → Op6) (w : World) (hs : OpsIn w ao n cap S) : Calls Try.prog 4 #[.agg #[.int .i64 a, .int .i64 b, .int .i64 c, .int .i64 d], .slice ao n cap] w fun e w' => e = .returned (.bool true) ∧ Below w.heap.size w w' := by
  have b0 := alloc_below w (.cells #[.int .i64 a, .int .i64 b, .int .i64 c, .int .i64 d] 23)
  have C0 := hide (begun_any (w := w) a b c d b0)
  have CF := hide (fun W => fixed_any W)
  have CP := hide port_any
  obtain ⟨ro, hro⟩ : ∃ ro, 1 + a % 8 = ro := ⟨_, rfl⟩
  obtain ⟨li, hli⟩ : ∃ li, 1 + b % 32 = li := ⟨_, rfl⟩
  obtain ⟨mo, hmo⟩ : ∃ mo : Nat, c % 4 = (mo : Int) := ⟨(c % 4).toNat, by omega⟩
  obtain ⟨wi, hwi⟩ : ∃ wi, 1 + d % 16 = wi := ⟨_, rfl⟩
  rw [hro, hli, hmo, hwi] at C0
  have ro1 : 1 ≤ ro := by omega
  have li1 : 1 ≤ li ∧ li ≤ 32 := by omega
  have mo3 : mo ≤ 3 := by omega
  obtain ⟨hn, hcap, hao⟩ := hs
  have HS := hide hao
  clear b0 hro hli hmo hwi hao
  go_enter Try.func4, Try.ntmps4
  go_wp2_with fail
  refine (unhide C0).mono ?_
  rintro e w1 ⟨g, q, rfl, ⟨p, bb, h1⟩, ⟨qt, rq⟩, b1⟩
  have CI := hide (fun L M mr v now W (h : Fdb w g p bb mr v mo wi ro li L M W) => find_may (vid := 1) (mac := 2) (now := now) W h (by omega) fx_m12)
  rw [show (1 : Int) * 281474976710656 + 2 = 281474976710658 from rfl] at CI
  have I0 : Hid (Inv w g p bb q mo wi ro li #[.pointer (some ⟨qt, 0, none⟩), .int .i64 ro, .int .i64 li, .int .i64 mo, .int .i64 wi, .slice none 0 0] 0 0 [] w1.heap.size 0 0 (w1.alloc (.cells #[] 3))) := by
    exact ⟨⟨[], none, .slice none 0 0, (by rw [List.drop_nil]; exact h1.below (alloc_below _ _)), .inl rfl, by simp⟩, ⟨Nat.le_refl _, by unfold maxLen; omega, #[], heap_alloc_new w1 _, by simp, fun j h => (by simp at h)⟩, h1.has.1.size, Below.row (alloc_below _ _) rq, wide_nil _ _, fun y h => (by cases h), Int.le_refl _, by omega, Nat.le_refl _⟩
  clear h1 rq b1 C0
  generalize hqr : (#[.pointer (some ⟨qt, 0, none⟩), .int .i64 ro, .int .i64 li, .int .i64 mo, .int .i64 wi, .slice none 0 0] : Array Value) = qr at *
  have HQ := hide hqr
  clear hqr
  go_wp2_with fail
  go_loopw [7, 8, 9] (fun V N I wr => ∃ (i : Nat) (now : Int) (A : List Int) (r o c : Nat), I = .int .i64 i ∧ N = .int .i64 now ∧ V = .slice (some ⟨r, o, none⟩) A.length c ∧ i ≤ 60 ∧ Inv w g p bb q mo wi ro li qr i now A r o c wr) (fun _ _ I _ => 60 - (intOf I).toNat)
  case atStart => exact ⟨0, 0, [], w1.heap.size, 0, 0, rfl, rfl, rfl, by omega, unhide I0⟩
  case round =>
    obtain ⟨i, now, A, r, o, cc, rfl, rfl, rfl, hi, inv⟩ := hrel
    have HI := hide inv
    by_cases hlt : i < n
    · by_cases h60 : i < 60
      · obtain ⟨L, mr, v, hF, hO, hrm⟩ := inv.fdb
        obtain ⟨sb, so, rfl, hsb, hat⟩ := (unhide HS).resolve_left (by omega)
        have e5 := (hF.has.1.cell (p := ⟨sb, so + i * 6 + 4 + 1, none⟩) hsb).trans ((hat i hlt).1 5 _ rfl)
        have e2 := (hF.has.1.cell (p := ⟨sb, so + i * 6 + 2, none⟩) hsb).trans ((hat i hlt).1 2 _ rfl)
        have e2k : Hid (∀ W2, Below w.heap.size w W2 → W2.cell? ⟨sb, so + i * 6 + 2, none⟩ = some (.int .u64 (S i).mac)) := fun W2 h => (h.cell (p := ⟨sb, so + i * 6 + 2, none⟩) hsb).trans ((hat i hlt).1 2 _ rfl)
        obtain ⟨NW, hNW⟩ : ∃ NW, (S i).now = NW := ⟨_, rfl⟩
        obtain ⟨MC, hMC⟩ : ∃ MC, (S i).mac = MC := ⟨_, rfl⟩
        rw [hNW] at e5
        rw [hMC] at e2 e2k
        have d3 := i64_and3 NW
        have m3 := u64_and3 MC
        obtain ⟨dd, hdd⟩ : ∃ dd, NW % 4 = dd := ⟨_, rfl⟩
        obtain ⟨mm, hmm⟩ : ∃ mm, MC % 4 = mm := ⟨_, rfl⟩
        have dd0 : 0 ≤ dd ∧ dd < 4 := by omega
        have mm0 : 0 ≤ mm ∧ mm < 4 := by omega
        rw [hdd] at d3
        rw [hmm] at m3
        clear hNW hMC hdd hmm hat
        obtain ⟨nx, hnx⟩ : ∃ nx, now + dd = nx := ⟨_, rfl⟩
        obtain ⟨P, hP⟩ : ∃ P, 1 + mm = P := ⟨_, rfl⟩
        have i0 := inv.now0
        have i1 := inv.now1
        have nx0 : 0 ≤ nx ∧ nx ≤ 180 := by omega
        have P0 : 1 ≤ P ∧ P ≤ 4 := by omega
        have hqn : some q ≠ mr := hF.ne (by decide) inv.box
        have hcase := learn_any w g p bb mr v mo wi ro li L A P nx now P0 hO ro1 nx0.1 (by omega) (by omega) mo3 (fun y hy => by have := (inv.le y hy).2; omega)
        have HF := hide hF
        have FI := hide (unhide CI L (A.drop (A.length - mo)) mr v nx wr hF)
        have hO2 := hO
        clear hF inv hO
        rcases hcase with ⟨wt, wn, had, t1, t2, t3, hfo, LR⟩ | ⟨wn, hfo, LR⟩ | ⟨wn, hne, hfo, hc, LR⟩
        · rw [hfo] at FI
          have LH := hide LR
          have HC := hide hfo
          have nq := neq_port P P false (by simp)
          have nw := neq_port wn wn false (by simp)
          clear LR hfo
          go_wp2_with fail
          refine (unhide FI).mono ?_
          rintro e w2 ⟨rfl, b2⟩
          have T2 := bthen b2 (alloc_below w2 (.cells #[.int .i64 0, .int .u32 wn] 42))
          have H2 := hide ((unhide HF).below T2)
          have S2 := hide (StaysM.of (mr := mr) T2)
          have R2 := hide (heap_alloc_new w2 (.cells #[.int .i64 0, .int .u32 wn] 42))
          have e2' := unhide e2k _ (unhide H2).has.1
          clear b2 T2 e5 e2 FI HF
          go_wp2_with fail
          refine (unhide CP P _).mono ?_
          rintro e w3 ⟨rfl, b3⟩
          have T3 := bthen b3 (alloc_below w3 (.cells #[.int .i64 0, .int .u32 P] 42))
          have H3 := hide ((unhide H2).below T3)
          have S3 := hide ((unhide S2).trans (StaysM.of T3))
          have R3 := hide (Below.row T3 (unhide R2))
          have Q3 := hide (heap_alloc_new w3 (.cells #[.int .i64 0, .int .u32 P] 42))
          obtain ⟨z0, z1, _⟩ := cells2 (unhide Q3)
          clear b3 T3 H2 S2 R2 e2'
          go_wp2_with fail
          refine (unhide LH _ (unhide H3)).mono ?_
          rintro e w4 ⟨rfl, h4, t4⟩
          have R4 := hide (t4 _ _ rfl ((unhide H3).ne (by decide) (unhide R3)) (unhide R3))
          have Q4 := hide (t4 _ _ rfl ((unhide H3).ne (by decide) (unhide Q3)) (unhide Q3))
          have S4 := hide ((unhide S3).trans t4)
          have H4 := hide h4
          clear h4 t4 z0 z1 H3 S3 R3 Q3 LH
          have hPd : P / 4294967296 = 0 ∧ P % 4294967296 = P := by omega
          have F2 := hide ((unhide (hide (unhide CI [⟨281474976710658, P, nx, false⟩] (A.drop (A.length - mo)) mr v nx w4 (unhide H4)))))
          rw [told_one li P nx li1.1 nx0.1 (by omega)] at F2
          simp only [foundO, hPd.1, hPd.2] at F2
          clear hPd
          go_wp2_with fail
          refine (unhide F2).mono ?_
          rintro e w5 ⟨rfl, b5⟩
          have T5 := bthen b5 (alloc_below w5 (.cells #[.int .i64 0, .int .u32 P] 42))
          have H5 := hide ((unhide H4).below T5)
          have S5 := hide ((unhide S4).trans (fun k o h1 h2 h3 => Below.row T5 h3))
          obtain ⟨x0, x1, _⟩ := cells2 (Below.row T5 (unhide R4))
          obtain ⟨y0, y1, _⟩ := cells2 (Below.row T5 (unhide Q4))
          obtain ⟨z0, z1, _⟩ := cells2 (heap_alloc_new w5 (.cells #[.int .i64 0, .int .u32 P] 42))
          clear b5 T5 H4 S4 R4 Q4 F2
          go_wp2_with fail
          go_roundw
          case rel => exact ⟨i + 1, nx, A, r, o, cc, by go_num, rfl, rfl, by omega, (unhide HI).next ⟨_, v, unhide H5, .inr ⟨P, nx, rfl, P0, nx0.1, Int.le_refl _⟩⟩ hrm hqn (unhide S5) (by omega) (by omega)⟩
          case measure => simp [intOf]; omega
        · rw [hfo] at FI
          have LH := hide LR
          have HC := hide hfo
          have nq := neq_port P P false (by simp)
          have nw := neq_port wn wn false (by simp)
          clear LR hfo
          go_wp2_with fail
          refine (unhide FI).mono ?_
          rintro e w2 ⟨rfl, b2⟩
          have T2 := bthen b2 (alloc_below w2 (.cells #[.int .i64 0, .int .u32 wn] 42))
          have H2 := hide ((unhide HF).below T2)
          have S2 := hide (StaysM.of (mr := mr) T2)
          have R2 := hide (heap_alloc_new w2 (.cells #[.int .i64 0, .int .u32 wn] 42))
          have e2' := unhide e2k _ (unhide H2).has.1
          clear b2 T2 e5 e2 FI HF
          go_wp2_with fail
          refine (unhide CP P _).mono ?_
          rintro e w3 ⟨rfl, b3⟩
          have T3 := bthen b3 (alloc_below w3 (.cells #[.int .i64 0, .int .u32 P] 42))
          have H3 := hide ((unhide H2).below T3)
          have S3 := hide ((unhide S2).trans (StaysM.of T3))
          have R3 := hide (Below.row T3 (unhide R2))
          have Q3 := hide (heap_alloc_new w3 (.cells #[.int .i64 0, .int .u32 P] 42))
          obtain ⟨z0, z1, _⟩ := cells2 (unhide Q3)
          clear b3 T3 H2 S2 R2 e2'
          go_wp2_with fail
          refine (unhide LH _ (unhide H3)).mono ?_
          rintro e w4 ⟨rfl, b4⟩
          have R4 := hide (Below.row b4 (unhide R3))
          have Q4 := hide (Below.row b4 (unhide Q3))
          have S4 := hide ((unhide S3).trans (StaysM.of b4))
          have H4 := hide ((unhide H3).below b4)
          clear b4 z0 z1 H3 S3 R3 Q3 LH
          have F2 := hide ((unhide (hide (unhide CI L (A.drop (A.length - mo)) mr v nx w4 (unhide H4)))))
          rw [unhide HC] at F2
          go_wp2_with fail
          refine (unhide F2).mono ?_
          rintro e w5 ⟨rfl, b5⟩
          have T5 := bthen b5 (alloc_below w5 (.cells #[.int .i64 0, .int .u32 wn] 42))
          have H5 := hide ((unhide H4).below T5)
          have S5 := hide ((unhide S4).trans (fun k o h1 h2 h3 => Below.row T5 h3))
          obtain ⟨x0, x1, _⟩ := cells2 (Below.row T5 (unhide R4))
          obtain ⟨y0, y1, _⟩ := cells2 (Below.row T5 (unhide Q4))
          obtain ⟨z0, z1, _⟩ := cells2 (heap_alloc_new w5 (.cells #[.int .i64 0, .int .u32 wn] 42))
          clear b5 T5 H4 S4 R4 Q4 F2
          go_wp2_with fail
          go_roundw
          case rel => exact ⟨i + 1, nx, A, r, o, cc, by go_num, rfl, rfl, by omega, (unhide HI).next ⟨L, v, unhide H5, hO2.later (by omega)⟩ hrm hqn (unhide S5) (by omega) (by omega)⟩
          case measure => simp [intOf]; omega
        · rw [hfo] at FI
          have LH := hide LR
          have HC := hide hfo
          have nq := neq_port P P false (by simp)
          have nw := neq_port wn wn false (by simp)
          clear LR hfo
          go_wp2_with fail
          refine (unhide FI).mono ?_
          rintro e w2 ⟨rfl, b2⟩
          have T2 := bthen b2 (alloc_below w2 (.cells #[.int .i64 0, .int .u32 wn] 42))
          have H2 := hide ((unhide HF).below T2)
          have S2 := hide (StaysM.of (mr := mr) T2)
          have R2 := hide (heap_alloc_new w2 (.cells #[.int .i64 0, .int .u32 wn] 42))
          have e2' := unhide e2k _ (unhide H2).has.1
          clear b2 T2 e5 e2 FI HF
          go_wp2_with fail
          refine (unhide CP P _).mono ?_
          rintro e w3 ⟨rfl, b3⟩
          have T3 := bthen b3 (alloc_below w3 (.cells #[.int .i64 0, .int .u32 P] 42))
          have H3 := hide ((unhide H2).below T3)
          have S3 := hide ((unhide S2).trans (StaysM.of T3))
          have R3 := hide (Below.row T3 (unhide R2))
          have Q3 := hide (heap_alloc_new w3 (.cells #[.int .i64 0, .int .u32 P] 42))
          obtain ⟨z0, z1, _⟩ := cells2 (unhide Q3)
          clear b3 T3 H2 S2 R2 e2'
          go_wp2_with fail
          refine (unhide LH _ (unhide H3)).mono ?_
          rintro e w4 ⟨rfl, mr', ⟨v', h4⟩, t4, a4⟩
          have R4 := hide (t4 _ _ rfl ((unhide H3).ne (by decide) (unhide R3)) (unhide R3))
          have Q4 := hide (t4 _ _ rfl ((unhide H3).ne (by decide) (unhide Q3)) (unhide Q3))
          have S4 := hide ((unhide S3).trans t4)
          obtain ⟨_, _, cur0, hcur0, _⟩ := (unhide HI).row
          have hrm' : some r ≠ mr' := a4 r _ rfl hrm ((unhide S3) _ _ rfl hrm hcur0)
          clear hcur0
          have H4 := hide h4
          clear h4 t4 a4 z0 z1 H3 S3 R3 Q3 LH
          have hPd : P / 4294967296 = 0 ∧ P % 4294967296 = P := by omega
          have F2 := hide ((unhide (hide (unhide CI [⟨281474976710658, P, nx, false⟩] ((A ++ [nx]).drop ((A ++ [nx]).length - mo)) mr' v' nx w4 (unhide H4)))))
          rw [told_one li P nx li1.1 nx0.1 (by omega)] at F2
          simp only [foundO, hPd.1, hPd.2] at F2
          clear hPd
          go_wp2_with fail
          refine (unhide F2).mono ?_
          rintro e w5 ⟨rfl, b5⟩
          have T5 := bthen b5 (alloc_below w5 (.cells #[.int .i64 0, .int .u32 P] 42))
          have H5 := hide ((unhide H4).below T5)
          have S5 := hide ((unhide S4).trans (fun k o h1 h2 h3 => Below.row T5 h3))
          obtain ⟨x0, x1, _⟩ := cells2 (Below.row T5 (unhide R4))
          obtain ⟨y0, y1, _⟩ := cells2 (Below.row T5 (unhide Q4))
          obtain ⟨z0, z1, _⟩ := cells2 (heap_alloc_new w5 (.cells #[.int .i64 0, .int .u32 P] 42))
          clear b5 T5 H4 S4 R4 Q4 F2
          have ew := eql_port wn P false hne
          have H6 := hide ((unhide H5).below (alloc_below _ (.cells #[.int .i64 nx] 3)))
          have I6 := hide (((unhide HI).row.row fun _ hc => (unhide S5) _ _ rfl hrm hc).row (fun _ hc => Below.row (alloc_below _ (.cells #[.int .i64 nx] 3)) hc))
          have Q6 := hide (Below.row (alloc_below _ (.cells #[.int .i64 nx] 3)) ((unhide S5) _ _ rfl hqn (unhide HI).box))
          have C6 := hide ((cells1 (heap_alloc2_new w5 (.cells #[.int .i64 0, .int .u32 P] 42) (.cells #[.int .i64 nx] 3))).1)
          have al : A.length ≤ 64 := by have := (unhide HI).len; omega
          clear H5
          go_wp2_with (at_builtin; refine wp_more (unhide I6) nx (w5.heap.size + 1) (unhide C6) al A.length rfl rfl _ _ rfl rfl rfl ?_; intro r7 o7 c7 W7 i7 g7 m7; have I7 := hide i7; have G7 := hide g7; have M7 := hide m7; clear i7 g7 m7)
          go_roundw
          case rel =>
            obtain ⟨_, _, cur6, hcur6, _⟩ := unhide I6
            exact ⟨i + 1, nx, A ++ [nx], r7, o7, c7, by go_num, rfl, by simp, by omega, (unhide HI).push ⟨_, v', unhide H6, .inr ⟨P, nx, rfl, P0, nx0.1, Int.le_refl _⟩⟩ hrm' (unhide Q6) ⟨cur6, hcur6⟩ (unhide I7) (unhide G7) (unhide M7) hc (by omega) (by omega)⟩
          case measure => simp [intOf]; omega
      · obtain ⟨L, mr, v, hF, _, _⟩ := inv.fdb
        have HB := hide hF.has.1
        have ir := hide inv.row.irow
        have bx := inv.box
        rw [← unhide HQ] at bx
        have BX := hide bx
        have HW := hide inv.wide
        have HLE := hide (fun j (hj : j < A.length) => inv.le A[j] (List.getElem_mem hj))
        have hbig := inv.now1
        obtain ⟨al, hal⟩ : ∃ al, A.length = al := ⟨_, rfl⟩
        have al60 : al ≤ 60 := by have := inv.len; omega
        have HAL := hide hal
        rw [hal]
        clear hal hF inv bx HI
        go_wp2_with fail
        generalize wr = wo at *
        go_loopw [16] (fun I wr => ∃ k : Nat, I = .int .i64 k ∧ k ≤ al ∧ Below wo.heap.size wo wr) (fun I _ => al - (intOf I).toNat)
        case atStart => exact ⟨0, rfl, Nat.zero_le _, Below.refl _ _⟩
        case round =>
          obtain ⟨k, rfl, hk, hbk⟩ := hrel
          have HK := hide hbk
          clear hbk
          by_cases hka : k < al
          · have hkl : k < A.length := by rw [unhide HAL]; exact hka
            go_wp2_with fail
            generalize wr = wu at *
            go_loopw [17, 18] (fun N J wr => ∃ m : Nat, N = .int .i64 m ∧ J = .int .i64 ((k + m : Nat) : Int) ∧ m ≤ mo ∧ k + m ≤ al ∧ Below wo.heap.size wo wr) (fun _ J _ => al - (intOf J).toNat)
            case atStart => exact ⟨0, rfl, rfl, Nat.zero_le _, hk, unhide HK⟩
            case round =>
              obtain ⟨m, rfl, rfl, hm, hkm, hbm⟩ := hrel
              have HM := hide hbm
              have ir2 := (unhide ir).below hbm
              have qc := qcells (Below.row hbm (unhide BX))
              obtain ⟨jj, hjj⟩ : ∃ jj, k + m = jj := ⟨_, rfl⟩
              rw [hjj] at hkm ⊢
              by_cases hja : jj < al
              · have hjl : jj < A.length := by rw [unhide HAL]; exact hja
                have c1 := ir2 jj hjl
                have c2 := ir2 k hkl
                have l1 := unhide HLE jj hjl
                have l2 := unhide HLE k hkl
                have hst : m = mo → wi ≤ A[jj] - A[k] := fun e => wide_stop (unhide HW) hjl (by omega)
                generalize A[jj] = xj at c1 l1 hst
                generalize A[k] = xk at c2 l2 hst
                obtain ⟨df, hdf⟩ : ∃ df, xj - xk = df := ⟨_, rfl⟩
                have wdf : wrap64 (xj - xk) = df := by unfold wrap64; omega
                have wdf2 : IntKind.i64.wrap (xj - xk) = df := by rw [IntKind.wrap_i64]; omega
                clear hbm ir2
                by_cases hd : df < wi
                · have hm2 : m + 1 ≤ mo := by
                    have : m ≠ mo := fun e => by have := hst e; omega
                    omega
                  have dd2 : decide (df < wi) = true := decide_eq_true hd
                  clear hst hdf l1 l2
                  go_wp2_with fail
                  go_quiet (fail)
                  have hbq := drewN_below (unhide HM) nq
                  go_wp2_with fail
                  go_roundw
                  case rel => exact ⟨m + 1, by go_num, by go_num, hm2, by omega, hbq⟩
                  case measure => simp [intOf]; omega
                · have dd2 : decide (df < wi) = false := decide_eq_false hd
                  clear hst hdf l1 l2
                  go_wp2_with fail
                  go_quiet (fail)
                  have hbq := drewN_below (unhide HM) nq
                  have qc2 := (qcells (Below.row hbq (unhide BX))).1
                  go_wp2_with fail
                  go_roundw
                  case rel => exact ⟨k + 1, by go_num, by omega, hbq⟩
                  case measure => simp [intOf]; omega
              · clear hbm ir2
                go_wp2_with fail
                go_quiet (fail)
                have hbq := drewN_below (unhide HM) nq
                have qc2 := (qcells (Below.row hbq (unhide BX))).1
                go_wp2_with fail
                go_roundw
                case rel => exact ⟨k + 1, by go_num, by omega, hbq⟩
                case measure => simp [intOf]; omega
          · go_wp2_with fail
            refine (unhide CF _).mono ?_
            rintro e w9 ⟨rfl, b9⟩
            have H9 := hide ((unhide HB).trans ((((unhide HK).trans (b9.mono (unhide HK).size))).mono (unhide HB).size))
            clear b9
            go_wp2_with fail
            go_ret
            exact ⟨rfl, unhide H9⟩
    · obtain ⟨L, mr, v, hF, _, _⟩ := inv.fdb
      have HB := hide hF.has.1
      have ir := hide inv.row.irow
      have bx := inv.box
      rw [← unhide HQ] at bx
      have BX := hide bx
      have HW := hide inv.wide
      have HLE := hide (fun j (hj : j < A.length) => inv.le A[j] (List.getElem_mem hj))
      have hbig := inv.now1
      obtain ⟨al, hal⟩ : ∃ al, A.length = al := ⟨_, rfl⟩
      have al60 : al ≤ 60 := by have := inv.len; omega
      have HAL := hide hal
      rw [hal]
      clear hal hF inv bx HI
      go_wp2_with fail
      generalize wr = wo at *
      go_loopw [16] (fun I wr => ∃ k : Nat, I = .int .i64 k ∧ k ≤ al ∧ Below wo.heap.size wo wr) (fun I _ => al - (intOf I).toNat)
      case atStart => exact ⟨0, rfl, Nat.zero_le _, Below.refl _ _⟩
      case round =>
        obtain ⟨k, rfl, hk, hbk⟩ := hrel
        have HK := hide hbk
        clear hbk
        by_cases hka : k < al
        · have hkl : k < A.length := by rw [unhide HAL]; exact hka
          go_wp2_with fail
          generalize wr = wu at *
          go_loopw [17, 18] (fun N J wr => ∃ m : Nat, N = .int .i64 m ∧ J = .int .i64 ((k + m : Nat) : Int) ∧ m ≤ mo ∧ k + m ≤ al ∧ Below wo.heap.size wo wr) (fun _ J _ => al - (intOf J).toNat)
          case atStart => exact ⟨0, rfl, rfl, Nat.zero_le _, hk, unhide HK⟩
          case round =>
            obtain ⟨m, rfl, rfl, hm, hkm, hbm⟩ := hrel
            have HM := hide hbm
            have ir2 := (unhide ir).below hbm
            have qc := qcells (Below.row hbm (unhide BX))
            obtain ⟨jj, hjj⟩ : ∃ jj, k + m = jj := ⟨_, rfl⟩
            rw [hjj] at hkm ⊢
            by_cases hja : jj < al
            · have hjl : jj < A.length := by rw [unhide HAL]; exact hja
              have c1 := ir2 jj hjl
              have c2 := ir2 k hkl
              have l1 := unhide HLE jj hjl
              have l2 := unhide HLE k hkl
              have hst : m = mo → wi ≤ A[jj] - A[k] := fun e => wide_stop (unhide HW) hjl (by omega)
              generalize A[jj] = xj at c1 l1 hst
              generalize A[k] = xk at c2 l2 hst
              obtain ⟨df, hdf⟩ : ∃ df, xj - xk = df := ⟨_, rfl⟩
              have wdf : wrap64 (xj - xk) = df := by unfold wrap64; omega
              have wdf2 : IntKind.i64.wrap (xj - xk) = df := by rw [IntKind.wrap_i64]; omega
              clear hbm ir2
              by_cases hd : df < wi
              · have hm2 : m + 1 ≤ mo := by
                  have : m ≠ mo := fun e => by have := hst e; omega
                  omega
                have dd2 : decide (df < wi) = true := decide_eq_true hd
                clear hst hdf l1 l2
                go_wp2_with fail
                go_quiet (fail)
                have hbq := drewN_below (unhide HM) nq
                go_wp2_with fail
                go_roundw
                case rel => exact ⟨m + 1, by go_num, by go_num, hm2, by omega, hbq⟩
                case measure => simp [intOf]; omega
              · have dd2 : decide (df < wi) = false := decide_eq_false hd
                clear hst hdf l1 l2
                go_wp2_with fail
                go_quiet (fail)
                have hbq := drewN_below (unhide HM) nq
                have qc2 := (qcells (Below.row hbq (unhide BX))).1
                go_wp2_with fail
                go_roundw
                case rel => exact ⟨k + 1, by go_num, by omega, hbq⟩
                case measure => simp [intOf]; omega
            · clear hbm ir2
              go_wp2_with fail
              go_quiet (fail)
              have hbq := drewN_below (unhide HM) nq
              have qc2 := (qcells (Below.row hbq (unhide BX))).1
              go_wp2_with fail
              go_roundw
              case rel => exact ⟨k + 1, by go_num, by omega, hbq⟩
              case measure => simp [intOf]; omega
        · go_wp2_with fail
          refine (unhide CF _).mono ?_
          rintro e w9 ⟨rfl, b9⟩
          have H9 := hide ((unhide HB).trans ((((unhide HK).trans (b9.mono (unhide HK).size))).mono (unhide HB).size))
          clear b9
          go_wp2_with fail
          go_ret
          exact ⟨rfl, unhide H9⟩
set_option maxRecDepth 100000 in
theorem lifted (os : Os) (started : os.Started) (H : Type) (enc : TypeId × Value → H) :
    ReturnsInHanded {} Try.checked os 4 .any (Rows.fdbMovesSpec.pre6 enc Try.prog Try.f4 Rows.fdbMovesRow.domain false) (Rows.fdbMovesSpec.post enc Try.prog Try.f4 false true false false) := by
  refine returnsInHanded_of_change (C := Try.checked) own started (by kernel_rfl) Try.func4
    (ChangeSpec.witness6 (enc := enc) (C := Try.checked) false ⟨#[], #[.agg #[.int .i64 0, .int .i64 0, .int .i64 0, .int .i64 0], .slice none 0 0], []⟩ 8 (by kernel_rfl) (by kernel_rfl) (by kernel_rfl) (by kernel_rfl)) ?_
  intro W base args ds gs before hval0 hW _ _
  have hval : ∀ (j : Nat) t v, Try.f4.params[j]? = some t → args[j]? = some v → Value.okWide Try.prog W .any base t v := hval0
  have hW' := hW
  obtain ⟨p, q, hA0, hV, rfl, hfz, hnd⟩ := hW
  have hA : DataW.TrodAll enc Try.prog W 0 (fun _ => true) true Try.f4.params.toList args.toList ds p := hA0
  rw [Try.params4] at hA hval
  obtain ⟨v0, v1, d0, d1, p0, p1, rfl, rfl, rfl, h0, h1⟩ := trodAll_two hA
  obtain ⟨a0, c0, d0', f0, rfl, rfl, rfl, w0, x0, y0', z0⟩ := open_keep (hval 0 23 v0 rfl rfl) h0
  have y1 : ∀ x ∈ p1, x.block < W.heap.size := fun x hx => hW'.lt x (by simp [hx])
  obtain ⟨ao1, n1, cap1, S1, rfl, hs1⟩ := open_ops (hval 1 35 v1 rfl rfl) h1 y1
  obtain ⟨rfl, rfl⟩ := trodVars_none hV
  have e1 : Rows.fdbMovesSpec.fn H ([keepD a0 c0 d0' f0, d1] ++ []) = { results := [.lit (.bool true)], args := [keepD a0 c0 d0' f0, d1] } := by simp [Rows.fdbMovesSpec]
  refine (walk a0 c0 d0' f0 ao1 n1 cap1 S1 W hs1).mono fun e W' ⟨he, hb⟩ => ?_
  subst he
  refine ⟨_, rfl, _, _, _, [], [] ++ p1, [], hW', ?_, ?_, ?_, hb.frame _, fun h => by cases h⟩
  · rw [e1]; exact trodAll_mk1 (shut_bool Try.underlying4 true)
  · rw [e1]; exact trodAll_mk2 (shut_keep a0 c0 d0' f0 w0 x0 y0' z0) (stay h1 y1 hb)
  · rw [e1]; rfl
theorem said : Rows.FdbMovesSaid :=
  OpenClaim.holds_of_wide 4 Try.f4 rfl rfl rfl rfl rfl rfl rfl ⟨rfl, rfl, rfl, rfl, rfl⟩ rfl rfl rfl rfl rfl (by kernel_rfl) Try.func4 (by kernel_rfl)
    (of_decide_eq_true (by kernel_rfl)) (by unfold Func.isWrapper; rw [if_neg (of_decide_eq_false (by kernel_rfl))]; exact ⟨rfl, rfl⟩)
    (fun os started H enc _ => lifted os started H enc)
end Go.Proofs.Ytpddbfdgaeldjaa.fdbMoves
namespace Go.Proofs.Ytpddbfdgaeldjaa
theorem fdbMoves_holds : Rows.FdbMovesSaid := fdbMoves.said
end Go.Proofs.Ytpddbfdgaeldjaa
