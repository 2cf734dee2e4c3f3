/-
  The document's answer for bridges' messages: the contracts of gangwayref01's Num and gangwayref09's num, word, bit and Check; no cell that was there before has turned.
-/
import Derived.Test.YtchgmbbcfjfhoaaDoorBp1b
import Derived.Test.YtchgmbbcfjfhoaaDoorParts9
import Derived.Deep.DeepCutAuto
namespace Go.Proofs.YtchgmbbcfjfhoaaDoor
open Go.RowKit Go.Sort

theorem take_next (l : List UInt8) (k : Nat) (h : k < l.length) : l.take (k + 1) = l.take k ++ [l[k]] := List.take_succ_eq_append_getElem h
set_option maxRecDepth 20000 in
theorem rnum (l : List UInt8) (w : World) (hl : l.length ≤ 8) :
    Calls Tryd.prog 34 #[.string (bs l)] w fun e w' => e = .returned (.int .u64 ((num l : Nat) : Int)) ∧ w' = w := by
  have hsz : (bs l).size = l.length := bs_size l
  go_enter Tryd.func34, Tryd.ntmps34
  go_wp2_with fail
  go_loop [3, 4] (fun x i => ∃ k : Nat, k ≤ l.length ∧ i = .int .i64 k ∧ x = .int .u64 ((num (l.take k) : Nat) : Int)) (fun _ i => l.length - (intOf i).toNat)
  case atStart => exact ⟨0, Nat.zero_le _, rfl, rfl⟩
  case round =>
    obtain ⟨k, hk, rfl, rfl⟩ := hrel
    by_cases hlt : k < l.length
    · have hix : ((bs l)[k]'(by omega)).toNat = (l[k]).toNat := rfl
      have hx8 : (l[k]).toNat < 256 := (l[k]).toNat_lt
      have hns : num (l.take (k + 1)) = num (l.take k) * 256 + (l[k]).toNat := by rw [take_next l k hlt, num_snoc]
      have hm : num (l.take k) < 72057594037927936 := Nat.lt_of_lt_of_le (num_lt _) (by
        rw [List.length_take, Nat.min_eq_left (Nat.le_of_lt hlt)]
        exact Nat.le_trans (Nat.pow_le_pow_right (n := 256) (by omega) (show k ≤ 7 by omega)) (by decide))
      have hmi : ((num (l.take k) : Nat) : Int) < 72057594037927936 := by omega
      have HNS := hide hns
      clear hns hm
      generalize num (l.take k) = m at hmi HNS ⊢
      generalize (l[k]).toNat = x at hix hx8 HNS
      go_wp2_with fail
      go_round
      case rel => exact ⟨k + 1, by omega, by go_num, by rw [unhide HNS]; rfl⟩
      case measure => simp [intOf]; omega
    · obtain rfl : k = l.length := by omega
      rw [List.take_length]
      go_wp2_with fail
      go_ret
      exact ⟨rfl, rfl⟩

set_option maxRecDepth 100000 in
set_option maxHeartbeats 4000000 in
theorem rn_at (S Q : ByteArray) (i j v : Int) (w : World) (hv : IntKind.i64.wrap v = v) (z : ∀ W : World, (Instr.slice 9 (.string S) (some (.int .i64 i)) (some (.int .i64 j)) none).run Tryd.prog W = .ok (.string Q) W)
    (k1 : Hid (∀ W, Calls Tryd.prog 34 #[.string Q] W fun e W' => e = .returned (.int .u64 v) ∧ W' = W)) :
    Calls Tryd.prog 33 #[.string S, .int .i64 i, .int .i64 j] w fun e w' => e = .returned (.int .i64 v) ∧ w' = w := by
  go_enter Tryd.func33, Tryd.ntmps33
  go_wp2_with fail
  refine (unhide k1 _).mono ?_
  rintro e w1 ⟨rfl, rfl⟩
  go_wp2_with fail
  go_ret
  exact ⟨rfl, rfl⟩
theorem rn_any (l : List UInt8) (i n : Nat) (w : World) (hn : n ≤ 7) (h : i + n ≤ l.length) : Calls Tryd.prog 33 #[.string (bs l), .int .i64 (i : Int), .int .i64 ((i + n : Nat) : Int)] w fun e w' => e = .returned (.int .i64 ((nm l i n : Nat) : Int)) ∧ w' = w := by
  have hv := nm_lt l i n
  have hp : 256 ^ n ≤ 256 ^ 7 := Nat.pow_le_pow_right (by decide) hn
  have h7 : (256 : Nat) ^ 7 = 72057594037927936 := by decide
  exact rn_at (bs l) _ _ _ _ w (by rw [IntKind.wrap_i64]; omega) (fun W => part_at l i n h W) (hide fun W => rnum _ W (by rw [List.length_take]; omega))
theorem word_any (v : Int) (w : World) : Calls Tryd.prog 29 #[.int .i64 v] w fun e w' => e = .returned (.bool (decide (0 ≤ v ∧ v ≤ 65535))) ∧ w' = w := by
  by_cases h : 0 ≤ v
  · by_cases h2 : v ≤ 65535
    · rw [decide_eq_true ⟨h, h2⟩]
      go_enter Tryd.func29, Tryd.ntmps29
      go_wp2
      go_ret
      exact ⟨rfl, rfl⟩
    · rw [decide_eq_false (fun q => h2 q.2)]
      go_enter Tryd.func29, Tryd.ntmps29
      go_wp2
      go_ret
      exact ⟨rfl, rfl⟩
  · rw [decide_eq_false (fun q => h q.1)]
    go_enter Tryd.func29, Tryd.ntmps29
    go_wp2
    go_ret
    exact ⟨rfl, rfl⟩
theorem rbit_any (x : Bool) (n : Nat) (w : World) : Calls Tryd.prog 25 #[.bool x, .int .i64 (n : Int)] w fun e w' => e = .returned (.int .i64 ((n * x.toNat : Nat) : Int)) ∧ w' = w := by
  cases x
  · go_enter Tryd.func25, Tryd.ntmps25
    go_wp2
    go_ret
    exact ⟨rfl, rfl⟩
  · rw [show n * true.toNat = n from Nat.mul_one n]
    go_enter Tryd.func25, Tryd.ntmps25
    go_wp2
    go_ret
    exact ⟨rfl, rfl⟩
set_option maxRecDepth 100000 in
set_option maxHeartbeats 4000000 in
theorem rcheck_at (k : Int) (c p l f a x : Bool) (r R C B P A M H D : Int) (z t u tP tA tM tH tD : Bool) (E : Int) (w : World)
    (ht : (decide (0 ≤ r) && decide (r ≤ 3) && decide (0 ≤ C) && decide (C ≤ 4294967295) && tP && tA && tM && tH && tD) = t)
    (kP : Hid (∀ W, Calls Tryd.prog 29 #[.int .i64 P] W fun e W' => e = .returned (.bool tP) ∧ W' = W))
    (kA : Hid (∀ W, Calls Tryd.prog 29 #[.int .i64 A] W fun e W' => e = .returned (.bool tA) ∧ W' = W))
    (kM : Hid (∀ W, Calls Tryd.prog 29 #[.int .i64 M] W fun e W' => e = .returned (.bool tM) ∧ W' = W))
    (kH : Hid (∀ W, Calls Tryd.prog 29 #[.int .i64 H] W fun e W' => e = .returned (.bool tH) ∧ W' = W))
    (kD : Hid (∀ W, Calls Tryd.prog 29 #[.int .i64 D] W fun e W' => e = .returned (.bool tD) ∧ W' = W))
    (hz : ∀ W, (binOp .eql 24 (.agg #[.int .i64 k, .bool c, .bool p, .bool l, .bool f, .bool a, .bool x, .int .i64 r, .int .u64 R, .int .i64 C, .int .u64 B, .int .i64 P, .int .i64 A, .int .i64 M, .int .i64 H, .int .i64 D]) (.agg #[.int .i64 128, .bool false, .bool false, .bool false, .bool false, .bool false, .bool false, .int .i64 0, .int .u64 0, .int .i64 0, .int .u64 0, .int .i64 0, .int .i64 0, .int .i64 0, .int .i64 0, .int .i64 0])).run Tryd.prog W = .ok (.bool z) W)
    (hu : ∀ W, (binOp .eql 24 (.agg #[.int .i64 k, .bool c, .bool p, .bool l, .bool f, .bool a, .bool x, .int .i64 r, .int .u64 R, .int .i64 C, .int .u64 B, .int .i64 P, .int .i64 A, .int .i64 M, .int .i64 H, .int .i64 D]) (.agg #[.int .i64 k, .bool c, .bool false, .bool false, .bool false, .bool false, .bool x, .int .i64 0, .int .u64 R, .int .i64 C, .int .u64 B, .int .i64 P, .int .i64 A, .int .i64 M, .int .i64 H, .int .i64 D])).run Tryd.prog W = .ok (.bool u) W)
    (hk : k = 128 ∧ E = (if z then 0 else 91) ∨ k = 0 ∧ E = (if t && u then 0 else 91) ∨ k = 2 ∧ E = (if t then 0 else 91) ∨ ((k == 128) = false ∧ (k == 0) = false ∧ (k == 2) = false) ∧ E = 91) :
    Calls Tryd.prog 13 #[.agg #[.int .i64 k, .bool c, .bool p, .bool l, .bool f, .bool a, .bool x, .int .i64 r, .int .u64 R, .int .i64 C, .int .u64 B, .int .i64 P, .int .i64 A, .int .i64 M, .int .i64 H, .int .i64 D]] w fun e w' => e = .returned (.int .i64 E) ∧ Below w.heap.size w w' := by
  go_enter Tryd.func13, Tryd.ntmps13
  have HK := hide hk
  have HT := hide ht
  clear hk ht
  have hb := hide (alloc_then (o := .cells #[.int .i64 k, .bool c, .bool false, .bool false, .bool false, .bool false, .bool x, .int .i64 0, .int .u64 R, .int .i64 C, .int .u64 B, .int .i64 P, .int .i64 A, .int .i64 M, .int .i64 H, .int .i64 D] 24) (alloc_below w (.cells #[.int .i64 k, .bool c, .bool p, .bool l, .bool f, .bool a, .bool x, .int .i64 r, .int .u64 R, .int .i64 C, .int .u64 B, .int .i64 P, .int .i64 A, .int .i64 M, .int .i64 H, .int .i64 D] 24)))
  have r1 := hide (heap_alloc2_old w (.cells #[.int .i64 k, .bool c, .bool p, .bool l, .bool f, .bool a, .bool x, .int .i64 r, .int .u64 R, .int .i64 C, .int .u64 B, .int .i64 P, .int .i64 A, .int .i64 M, .int .i64 H, .int .i64 D] 24) (.cells #[.int .i64 k, .bool c, .bool false, .bool false, .bool false, .bool false, .bool x, .int .i64 0, .int .u64 R, .int .i64 C, .int .u64 B, .int .i64 P, .int .i64 A, .int .i64 M, .int .i64 H, .int .i64 D] 24))
  have r2 := hide (heap_alloc2_new w (.cells #[.int .i64 k, .bool c, .bool p, .bool l, .bool f, .bool a, .bool x, .int .i64 r, .int .u64 R, .int .i64 C, .int .u64 B, .int .i64 P, .int .i64 A, .int .i64 M, .int .i64 H, .int .i64 D] 24) (.cells #[.int .i64 k, .bool c, .bool false, .bool false, .bool false, .bool false, .bool x, .int .i64 0, .int .u64 R, .int .i64 C, .int .u64 B, .int .i64 P, .int .i64 A, .int .i64 M, .int .i64 H, .int .i64 D] 24))
  go_upto_region 2 with fail
  generalize (w.alloc (.cells #[.int .i64 k, .bool c, .bool p, .bool l, .bool f, .bool a, .bool x, .int .i64 r, .int .u64 R, .int .i64 C, .int .u64 B, .int .i64 P, .int .i64 A, .int .i64 M, .int .i64 H, .int .i64 D] 24)).alloc (.cells #[.int .i64 k, .bool c, .bool false, .bool false, .bool false, .bool false, .bool x, .int .i64 0, .int .u64 R, .int .i64 C, .int .u64 B, .int .i64 P, .int .i64 A, .int .i64 M, .int .i64 H, .int .i64 D] 24) = w2 at *
  obtain ⟨c0, c1, c2, c3, c4, c5, c6, c7, c8, c9, c10, c11, c12, c13, c14, c15, _⟩ := cells16 (unhide r1)
  go_cut [4] (fun v wx => v = .bool t ∧ w2 = wx)
  case first =>
    clear hz hu
    by_cases h1 : 0 ≤ r
    · by_cases h2 : r ≤ 3
      · by_cases h3 : 0 ≤ C
        · by_cases h4 : C ≤ 4294967295
          · go_wp2_with fail
            refine (unhide kP _).mono ?_
            rintro e w9 ⟨rfl, rfl⟩
            cases tP
            · go_wp2_with fail
              go_meet
              exact ⟨by rw [← unhide HT]; simp [*] <;> omega, rfl⟩
            · go_wp2_with fail
              refine (unhide kA _).mono ?_
              rintro e w9 ⟨rfl, rfl⟩
              cases tA
              · go_wp2_with fail
                go_meet
                exact ⟨by rw [← unhide HT]; simp [*] <;> omega, rfl⟩
              · go_wp2_with fail
                refine (unhide kM _).mono ?_
                rintro e w9 ⟨rfl, rfl⟩
                cases tM
                · go_wp2_with fail
                  go_meet
                  exact ⟨by rw [← unhide HT]; simp [*] <;> omega, rfl⟩
                · go_wp2_with fail
                  refine (unhide kH _).mono ?_
                  rintro e w9 ⟨rfl, rfl⟩
                  cases tH
                  · go_wp2_with fail
                    go_meet
                    exact ⟨by rw [← unhide HT]; simp [*] <;> omega, rfl⟩
                  · go_wp2_with fail
                    refine (unhide kD _).mono ?_
                    rintro e w9 ⟨rfl, rfl⟩
                    cases tD
                    · go_wp2_with fail
                      go_meet
                      exact ⟨by rw [← unhide HT]; simp [*] <;> omega, rfl⟩
                    · go_wp2_with fail
                      go_meet
                      exact ⟨by rw [← unhide HT]; simp [*] <;> omega, rfl⟩
          · go_wp2_with fail
            go_meet
            exact ⟨by rw [← unhide HT]; simp [*] <;> omega, rfl⟩
        · go_wp2_with fail
          go_meet
          exact ⟨by rw [← unhide HT]; simp [*] <;> omega, rfl⟩
      · go_wp2_with fail
        go_meet
        exact ⟨by rw [← unhide HT]; simp [*] <;> omega, rfl⟩
    · go_wp2_with fail
      go_meet
      exact ⟨by rw [← unhide HT]; simp [*] <;> omega, rfl⟩
  case rest =>
    obtain ⟨rfl, rfl⟩ := hcut
    obtain ⟨d0, d1, d2, d3, d4, d5, d6, d7, d8, d9, d10, d11, d12, d13, d14, d15, _⟩ := cells16 (unhide r2)
    rcases unhide HK with ⟨rfl, e⟩ | ⟨rfl, e⟩ | ⟨rfl, e⟩ | ⟨⟨h1, h2, h3⟩, e⟩
    · have HE := hide e
      clear e
      cases z
      all_goals
        go_wp2_with fail
        go_ret
        exact ⟨by rw [unhide HE]; rfl, unhide hb⟩
    · have HE := hide e
      clear e
      cases t
      · go_wp2_with fail
        go_ret
        exact ⟨by rw [unhide HE]; rfl, unhide hb⟩
      · cases u
        all_goals
          go_wp2_with fail
          go_ret
          exact ⟨by rw [unhide HE]; rfl, unhide hb⟩
    · have HE := hide e
      clear e
      cases t
      all_goals
        go_wp2_with fail
        go_ret
        exact ⟨by rw [unhide HE]; rfl, unhide hb⟩
    · have HE := hide e
      clear e
      go_wp2_with fail
      go_ret
      exact ⟨by rw [unhide HE]; rfl, unhide hb⟩
end Go.Proofs.YtchgmbbcfjfhoaaDoor
