/-
  The document's answer for the address of a text: the contract of gangwayref02's ReadIp.
-/
import Derived.Test.YtmpkeakbcojdeaaGreatDoorRefIp
namespace Go.Proofs.YtmpkeakbcojdeaaGreatDoor
open Go.RowKit

/-- one byte more: the address so far, the number under way, how many parts -/
def stp (x : Nat × Nat × Nat) (c : UInt8) : Nat × Nat × Nat :=
  if 48 ≤ c.toNat ∧ c.toNat ≤ 57 then (x.1, min (x.2.1 * 10 + (c.toNat - 48)) 1000, x.2.2)
  else if c.toNat = 46 then ((x.1 * 256 + x.2.1 % 256) % 4294967296, 0, x.2.2 + 1) else x
/-- the text's end -/
def fin (x : Nat × Nat × Nat) : Nat × Nat × Nat := ((x.1 * 256 + x.2.1 % 256) % 4294967296, 0, x.2.2 + 1)
def dig (n : Nat) (c : UInt8) : Nat := min (n * 10 + (c.toNat - 48)) 1000
theorem fold_digits (a p : Nat) : ∀ (ds : List UInt8) (n : Nat), (ds.all fun d => decide (48 ≤ d.toNat) && decide (d.toNat ≤ 57)) = true → ds.foldl stp (a, n, p) = (a, ds.foldl dig n, p)
  | [], _, _ => rfl
  | d :: r, n, h => by
    simp only [List.all_cons, Bool.and_eq_true, decide_eq_true_eq] at h
    rw [List.foldl_cons, List.foldl_cons, ← fold_digits a p r (dig n d) (by simpa using h.2), stp, if_pos h.1]
    rfl
theorem tens_fold : ∀ n : Fin 256, ((tens n.val).all fun d => decide (48 ≤ d.toNat) && decide (d.toNat ≤ 57)) = true ∧ (tens n.val).foldl dig 0 = n.val := by decide +kernel
theorem fold_ten (a p : Nat) (c : UInt8) : (ten c).foldl stp (a, 0, p) = (a, c.toNat, p) := by
  obtain ⟨h1, h2⟩ := tens_fold ⟨c.toNat, c.toNat_lt⟩
  rw [ten_tens, fold_digits a p _ 0 h1, h2]
theorem fold_sign (a n p : Nat) (r : List UInt8) : (46 :: r).foldl stp (a, n, p) = r.foldl stp ((a * 256 + n % 256) % 4294967296, 0, p + 1) := rfl
theorem ip_four (c0 c1 c2 c3 : UInt8) : ipT [c0, c1, c2, c3] = ten c0 ++ 46 :: (ten c1 ++ 46 :: (ten c2 ++ 46 :: ten c3)) := by
  rw [ipT]
  simp only [List.map_cons, List.map_nil]
  rw [join_more, join_more, join_more, Lib.join_one]
  simp
theorem fold_ip (l : List UInt8) (h : l.length = 4) : fin ((ipT l).foldl stp (0, 0, 0)) = (num l, 0, 4) := by
  match l, h with
  | [c0, c1, c2, c3], _ =>
    have h0 := c0.toNat_lt
    have h1 := c1.toNat_lt
    have h2 := c2.toNat_lt
    have h3 := c3.toNat_lt
    rw [ip_four, List.foldl_append, fold_ten, fold_sign, List.foldl_append, fold_ten, fold_sign, List.foldl_append, fold_ten, fold_sign, fold_ten]
    have e : num [c0, c1, c2, c3] = ((c0.toNat * 256 + c1.toNat) * 256 + c2.toNat) * 256 + c3.toNat := by simp [num]
    rw [e, fin]
    refine Prod.ext ?_ rfl
    dsimp only
    omega
theorem ip_length (l : List UInt8) (h : l.length = 4) : (ipT l).length ≤ 15 := by
  match l, h with
  | [c0, c1, c2, c3], _ =>
    have hl : ∀ c, (ten c).length ≤ 3 := fun c => by
      have := dec_length c.toNat (by have := c.toNat_lt; omega)
      rw [bs_size] at this
      exact this
    have h0 := hl c0
    have h1 := hl c1
    have h2 := hl c2
    have h3 := hl c3
    rw [ip_four]
    simp
    omega
theorem ipNone_of (S : List UInt8) (h : ∀ l, l.length = 4 → S = ipT l → False) : ipR S = none := by
  cases hr : ipR S with
  | none => rfl
  | some l => obtain ⟨h1, h2⟩ := ipR_some S l hr; exact (h l h1 h2).elim
/-- the state behind k bytes, or behind the end -/
def stAt (S : List UInt8) (k : Nat) : Nat × Nat × Nat := if k ≤ S.length then (S.take k).foldl stp (0, 0, 0) else fin (S.foldl stp (0, 0, 0))
theorem stAt_next (S : List UInt8) (k : Nat) (h : k < S.length) : stAt S (k + 1) = stp (stAt S k) S[k] := by
  rw [stAt, stAt, if_pos (by omega), if_pos (by omega), take_next S k h, List.foldl_append]; rfl
theorem stAt_end (S : List UInt8) : stAt S (S.length + 1) = fin (stAt S S.length) := by
  rw [stAt, stAt, if_neg (by omega), if_pos (by omega), List.take_length]
set_option maxRecDepth 20000 in
set_option maxHeartbeats 4000000 in
theorem rreadIp_short (s : ByteArray) (w : World) (hs : s.size ≤ 15) :
    Calls Tryz.prog 12 #[.string s] w fun e w' => e = .returned (ipV (ipR s.data.toList)) ∧ Below w.heap.size w w' := by
  obtain ⟨o, ho⟩ : ∃ o, o = ipR s.data.toList := ⟨_, rfl⟩
  rw [← ho]
  have HO := hide ho
  clear ho
  have hd15 : (s.size : Int) ≤ 15 := by omega
  go_enter Tryz.func12, Tryz.ntmps12
  go_wp2_with fail
  go_loop [4, 5, 6, 7] (fun a n p i => ∃ k A N P : Nat, k ≤ s.size + 1 ∧ i = .int .i64 k ∧ a = .int .u32 A ∧ n = .int .i64 N ∧ p = .int .i64 P ∧ A < 4294967296 ∧ N ≤ 1000 ∧ P ≤ 20 + k ∧ Hid (stAt s.data.toList k = (A, N, P))) (fun _ _ _ i => 40 - (intOf i).toNat)
  case atStart => exact ⟨0, 0, 0, 0, by omega, rfl, rfl, rfl, rfl, by omega, by omega, by omega, rfl⟩
  case round =>
    obtain ⟨k, A, N, P, hk, rfl, rfl, rfl, rfl, hA, hN, hP, hst⟩ := hrel
    by_cases hlt : k < s.size
    · have hnx := stAt_next s.data.toList k (by rw [size_toList]; exact hlt)
      rw [unhide hst] at hnx
      have hix : (s[k]'hlt).toNat = (s.data.toList[k]'(by rw [size_toList]; exact hlt)).toNat := rfl
      have hx8 : (s.data.toList[k]'(by rw [size_toList]; exact hlt)).toNat < 256 := UInt8.toNat_lt _
      rw [stp] at hnx
      generalize (s.data.toList[k]'(by rw [size_toList]; exact hlt)).toNat = x at hix hx8 hnx
      have hki : (k : Int) < (s.size : Int) := by omega
      have hke : ((k : Int) == (s.size : Int)) = false := by rw [beq_eq_false_iff_ne]; omega
      by_cases h1 : 48 ≤ x
      · have h1i : (48 : Int) ≤ (x : Int) := by omega
        by_cases h2 : x ≤ 57
        · have h2i : (x : Int) ≤ 57 := by omega
          rw [if_pos ⟨h1, h2⟩] at hnx
          have hmin : min ((N : Int) * 10 + (x : Int) - 48) 1000 = ((min (N * 10 + (x - 48)) 1000 : Nat) : Int) := by omega
          have hle : min (N * 10 + (x - 48)) 1000 ≤ 1000 := by omega
          have HNX := hide hnx
          clear hnx hst
          generalize hM : min (N * 10 + (x - 48)) 1000 = M at hmin hle HNX
          go_wp2_with fail
          go_round
          case rel => exact ⟨k + 1, A, M, P, by omega, by go_num, rfl, rfl, rfl, hA, hle, by omega, HNX⟩
          case measure => simp [intOf]; omega
        · have h2b : decide ((x : Int) ≤ 57) = false := decide_eq_false (by omega)
          have h6 : ((x : Int) == 46) = false := by rw [beq_eq_false_iff_ne]; omega
          rw [if_neg (fun h => h2 h.2), if_neg (by omega)] at hnx
          have HNX := hide hnx
          clear hnx hst h2
          go_wp2_with fail
          go_round
          case rel => exact ⟨k + 1, A, N, P, by omega, by go_num, rfl, rfl, rfl, hA, hN, by omega, HNX⟩
          case measure => simp [intOf]; omega
      · have h1b : decide ((48 : Int) ≤ (x : Int)) = false := decide_eq_false (by omega)
        by_cases h6 : x = 46
        · have h6b : ((x : Int) == 46) = true := by rw [beq_iff_eq]; omega
          rw [if_neg (fun h => h1 h.1), if_pos h6] at hnx
          have hB : ((A : Int) * 256 + (N : Int) % 256) % 4294967296 = (((A * 256 + N % 256) % 4294967296 : Nat) : Int) := by omega
          have hB' : (A : Int) * 256 % 4294967296 + (N : Int) % 256 = (((A * 256 + N % 256) % 4294967296 : Nat) : Int) := by omega
          have hlt2 : (A * 256 + N % 256) % 4294967296 < 4294967296 := Nat.mod_lt _ (by omega)
          have HNX := hide hnx
          clear hnx hst h1 h6
          generalize (A * 256 + N % 256) % 4294967296 = B at hB hB' hlt2 HNX
          go_wp2_with fail
          go_round
          case rel => exact ⟨k + 1, B, 0, P + 1, by omega, by go_num, rfl, rfl, by go_num, hlt2, by omega, by omega, HNX⟩
          case measure => simp [intOf]; omega
        · have h6b : ((x : Int) == 46) = false := by rw [beq_eq_false_iff_ne]; omega
          rw [if_neg (fun h => h1 h.1), if_neg h6] at hnx
          have HNX := hide hnx
          clear hnx hst h1 h6
          go_wp2_with fail
          go_round
          case rel => exact ⟨k + 1, A, N, P, by omega, by go_num, rfl, rfl, rfl, hA, hN, by omega, HNX⟩
          case measure => simp [intOf]; omega
    · by_cases hke : k = s.size
      · have hki : decide ((k : Int) < (s.size : Int)) = false := decide_eq_false (by omega)
        have hkb : ((k : Int) == (s.size : Int)) = true := by rw [beq_iff_eq]; omega
        have hnx := stAt_end s.data.toList
        rw [size_toList, ← hke, unhide hst, fin] at hnx
        have hB : ((A : Int) * 256 + (N : Int) % 256) % 4294967296 = (((A * 256 + N % 256) % 4294967296 : Nat) : Int) := by omega
        have hB' : (A : Int) * 256 % 4294967296 + (N : Int) % 256 = (((A * 256 + N % 256) % 4294967296 : Nat) : Int) := by omega
        have hlt2 : (A * 256 + N % 256) % 4294967296 < 4294967296 := Nat.mod_lt _ (by omega)
        have hkle : (k : Int) ≤ (s.size : Int) := by omega
        have HNX := hide hnx
        have HKE := hide hke
        have hkn : decide (k < s.size) = false := decide_eq_false hlt
        clear hnx hst hke
        generalize (A * 256 + N % 256) % 4294967296 = B at hB hB' hlt2 HNX
        go_wp2_with fail
        go_round
        case rel => exact ⟨k + 1, B, 0, P + 1, by have := unhide HKE; omega, by go_num, rfl, rfl, by go_num, hlt2, by omega, by omega, HNX⟩
        case measure => simp [intOf]; omega
      · have hke1 : k = s.data.toList.length + 1 := by rw [size_toList]; omega
        have hfin : fin (s.data.toList.foldl stp (0, 0, 0)) = (A, N, P) := by
          rw [← unhide hst, hke1, stAt, if_neg (by omega)]
        have hkd : decide ((k : Int) ≤ (s.size : Int)) = false := decide_eq_false (by omega)
        have hkdn : decide (k ≤ s.size) = false := decide_eq_false (by omega)
        have hon : ∀ l, o = some l → P = 4 ∧ A = num l ∧ s.data.toList = ipT l ∧ l.length = 4 := fun l e => by
          obtain ⟨h4, e2⟩ := ipR_some _ l ((unhide HO).symm.trans e)
          have hf := fold_ip l h4
          rw [← e2, hfin] at hf
          simp only [Prod.mk.injEq] at hf
          exact ⟨hf.2.2, hf.1, e2, h4⟩
        have HIP := hide fun W => rip A W hA
        clear hst hlt hke hke1 hfin
        by_cases hP4 : P = 4
        · subst hP4
          by_cases he : ipT (be A 4) = s.data.toList
          · have hos : o = some (be A 4) := by rw [unhide HO, ← he, ipR_of _ (be_length A 4)]
            subst hos
            have hs' : bs (ipT (be A 4)) = s := by rw [he, bs_of]
            rw [hs'] at HIP
            have hv : ipV (some (be A 4)) = .tuple #[.int .u32 (A : Int), .int .i64 0] := by
              show Value.tuple #[.int .u32 ((num (be A 4) : Nat) : Int), .int .i64 0] = _
              rw [num_be A 4 hA]
            have HV := hide hv
            clear hv hon he hs'
            go_wp2_with fail
            refine (unhide HIP _).mono ?_
            rintro e w2 ⟨rfl, hb2⟩
            go_wp2_with fail
            go_ret2
            exact ⟨by rw [unhide HV]; rfl, hb2⟩
          · have hnone : o = none := by
              cases ho : o with
              | none => rfl
              | some l =>
                obtain ⟨_, h2, h3, h4⟩ := hon l ho
                exact absurd (by rw [h2, be_four l h4, h3]) he
            subst hnone
            have hne := string_ne _ s he
            clear hon he
            generalize bs (ipT (be A 4)) = t at HIP hne
            go_wp2_with fail
            refine (unhide HIP _).mono ?_
            rintro e w2 ⟨rfl, hb2⟩
            go_wp2_with fail
            go_ret2
            exact ⟨rfl, hb2⟩
        · have hnone : o = none := by
            cases ho : o with
            | none => rfl
            | some l => exact absurd (hon l ho).1 hP4
          subst hnone
          have hPb : ((P : Int) != 4) = true := by rw [bne_iff_ne]; omega
          clear hon hP4
          go_wp2_with fail
          go_ret2
          exact ⟨rfl, Below.refl _ _⟩
set_option maxRecDepth 20000 in
theorem rreadIp (s : ByteArray) (w : World) :
    Calls Tryz.prog 12 #[.string s] w fun e w' => e = .returned (ipV (ipR s.data.toList)) ∧ Below w.heap.size w w' := by
  by_cases h : s.size ≤ 15
  · exact rreadIp_short s w h
  · have hn : ipR s.data.toList = none := ipNone_of _ fun l hl e => by
      have := ip_length l hl
      rw [← e, size_toList] at this
      exact h this
    rw [hn]
    have hb : decide ((s.size : Int) ≤ 15) = false := decide_eq_false (by omega)
    have hbn : decide (s.size ≤ 15) = false := decide_eq_false h
    go_enter Tryz.func12, Tryz.ntmps12
    go_wp2_with fail
    go_loop [4, 5, 6, 7] (fun a n p i => a = .int .u32 0 ∧ n = .int .i64 0 ∧ p = .int .i64 0 ∧ i = .int .i64 0) (fun _ _ _ _ => 0)
    case atStart => exact ⟨rfl, rfl, rfl, rfl⟩
    case round =>
      obtain ⟨rfl, rfl, rfl, rfl⟩ := hrel
      go_wp2_with fail
      go_ret2
      exact ⟨rfl, Below.refl _ _⟩
end Go.Proofs.YtmpkeakbcojdeaaGreatDoor
