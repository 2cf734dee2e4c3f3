/-
  The document's answer for the MAC address of a text: the contract of gangwayref02's ReadMac.
-/
import Derived.Test.YtmpkeakbcojdeaaGreatDoorRefMac
namespace Go.Proofs.YtmpkeakbcojdeaaGreatDoor
open Go.RowKit

theorem none_of (S : List UInt8) (h : ∀ l, l.length = 6 → S = macT l → False) : macR S = none := by
  cases hr : macR S with
  | none => rfl
  | some l => obtain ⟨h1, h2⟩ := macR_some S l hr; exact (h l h1 h2).elim
theorem none_of_length (S : List UInt8) (h : S.length ≠ 17) : macR S = none := none_of S fun l hl e => by
  have := mac_len l (fun e => by rw [e] at hl; cases hl)
  rw [← e, hl] at this
  omega
theorem none_of_piece (S : List UInt8) (k : Nat) (hk : k < 6) (h : unh ((S.drop (3 * k)).take 2) = none) : macR S = none := none_of S fun l hl e => by
  subst e
  rw [mac_piece l k (by omega)] at h
  have := twoOf_two (l[k]'(by omega))
  rw [twoOf, h] at this
  cases this
theorem none_of_sign (S : List UInt8) (k : Nat) (hk : k + 1 < 6) (h : S[3 * k + 2]? ≠ some 58) : macR S = none := none_of S fun l hl e => by
  subst e
  exact h (mac_sign l k (by omega))
theorem mac_grow (S acc : List UInt8) (c : UInt8) (k : Nat) (hk : acc.length = k) (h : S.take (3 * k - 1) = macT acc) (hs : k ≠ 0 → S[3 * k - 1]? = some 58) (hp : (S.drop (3 * k)).take 2 = two c) : S.take (3 * (k + 1) - 1) = macT (acc ++ [c]) := by
  by_cases h0 : k = 0
  · subst h0
    obtain rfl : acc = [] := List.eq_nil_of_length_eq_zero hk
    rw [List.nil_append, mac_one, ← hp]
    rfl
  · rw [mac_snoc _ _ (fun e => by rw [e] at hk; exact h0 hk.symm), ← h, ← hp, show 3 * (k + 1) - 1 = (3 * k - 1) + 1 + 2 by omega, List.take_add, List.take_add_one, hs h0, show 3 * k - 1 + 1 = 3 * k by omega]
    rfl
theorem pair_list (s : ByteArray) (j : Nat) (h : j + 2 ≤ s.size) : (s.data.toList.drop j).take 2 = [s[j]'(by omega), s[j + 1]'(by omega)] := by rw [drop_two s j h]; rfl
set_option maxRecDepth 20000 in
set_option maxHeartbeats 4000000 in
theorem rreadMac_some (s : ByteArray) (w : World) (hs : s.size = 17) :
    Calls Tryz.prog 10 #[.string s] w fun e w' => e = .returned (macV (macR s.data.toList)) ∧ Below w.heap.size w w' := by
  obtain ⟨o, ho⟩ : ∃ o, o = macR s.data.toList := ⟨_, rfl⟩
  rw [← ho]
  have HO := hide ho
  clear ho
  go_enter Tryz.func10, Tryz.ntmps10
  go_wp2_with fail
  go_loopw [4, 5] (fun b i wr => ∃ (k j : Nat) (acc : List UInt8), Hid (j = 3 * k) ∧ j ≤ 18 ∧ i = .int .i64 j ∧ b = .string (bs acc) ∧ Hid (acc.length = k) ∧ Hid (s.data.toList.take (3 * k - 1) = macT acc) ∧ Below w.heap.size w wr) (fun _ i _ => 20 - (intOf i).toNat)
  case atStart => exact ⟨0, 0, [], rfl, by omega, rfl, rfl, rfl, rfl, Below.refl _ _⟩
  case round =>
    obtain ⟨k, j, acc, hj, hj18, rfl, rfl, hal, hpre, hb⟩ := hrel
    by_cases hlt : j < 17
    · have hk : k < 6 := by have := unhide hj; omega
      have hj2 : j + 2 ≤ s.size := by have := unhide hj; omega
      have hsl := run_slice_string_lh (P := Tryz.prog) wr 9 s Tryz.underlying9 .i64 .i64 (j : Int) ((j : Int) + 2) (by omega) (by omega) (by omega)
      rw [show ((j : Int) + 2).toNat = j + 2 from by omega, show (j : Int).toNat = j from by omega] at hsl
      have hpl : (s.extract j (j + 2)).data.toList = (s.data.toList.drop j).take 2 := by rw [extract_toList, show j + 2 - j = 2 by omega]
      have hps : (s.extract j (j + 2)).size = 2 := by rw [ByteArray.size_extract]; omega
      have hun := runhex_any (s.extract j (j + 2)) wr (by omega)
      rw [hpl] at hun
      have hacs : (bs acc).size ≤ 6 := by rw [bs_size]; have := unhide hal; omega
      generalize s.extract j (j + 2) = p at hsl hun hps
      rcases unh_pair (s[j]'(by omega)) (s[j + 1]'(by omega)) with hn | ⟨c, hc, htwo⟩
      · rw [← pair_list s j hj2] at hn
        have hon : o = none := by
          rw [unhide HO]
          exact none_of_piece _ k hk (by rw [← unhide hj]; exact hn)
        subst hon
        rw [hn, unhV_none] at hun
        have HUN := hide hun
        clear hun hn hpl hpre
        go_wp2_with fail
        refine (unhide HUN).mono ?_
        rintro e w2 ⟨rfl, hb2⟩
        go_wp2_with fail
        go_ret2
        exact ⟨rfl, bthen hb hb2⟩
      · rw [← pair_list s j hj2] at hc htwo
        rw [hc, unhV_some] at hun
        have hap : bs acc ++ bs [c] = bs (acc ++ [c]) := bs_append _ _
        have hc1 : (bs [c]).size = 1 := bs_size _
        have HUN := hide hun
        have HAP := hide hap
        have HTW := hide htwo
        clear hun hap hpl hc htwo
        by_cases hk0 : k = 0
        · have hd : decide (0 < (j : Int)) = false := decide_eq_false (by have := unhide hj; omega)
          have hdn : decide (0 < j) = false := decide_eq_false (by have := unhide hj; omega)
          have hgr := hide (mac_grow s.data.toList acc c k (unhide hal) (unhide hpre) (fun h => absurd hk0 h) (by rw [← unhide hj]; exact unhide HTW))
          clear hk0 hpre
          generalize bs [c] = C at HUN HAP hc1
          generalize bs acc = A at HAP hacs ⊢
          go_wp2_with fail
          refine (unhide HUN).mono ?_
          rintro e w2 ⟨rfl, hb2⟩
          go_wp2_with fail
          go_roundw
          case rel => exact ⟨k + 1, j + 3, acc ++ [c], by show _ = _; rw [unhide hj]; omega, by have := unhide hj; omega, by go_num, by rw [← unhide HAP], by show _ = _; rw [List.length_append, unhide hal]; rfl, hgr, bthen hb hb2⟩
          case measure => simp [intOf]; omega
        · have hd : decide (0 < (j : Int)) = true := decide_eq_true (by have := unhide hj; omega)
          have hdn : decide (0 < j) = true := decide_eq_true (by have := unhide hj; omega)
          have hj1 : (1 : Int) ≤ (j : Int) := by have := unhide hj; omega
          have hjt : ((j : Int) - 1).toNat = j - 1 := by omega
          have hS : s.data.toList[j - 1]? = some (s[j - 1]'(by omega)) := List.getElem?_eq_getElem (by rw [size_toList]; omega)
          by_cases hg : s[j - 1]'(by omega) = 58
          · have hgr := hide (mac_grow s.data.toList acc c k (unhide hal) (unhide hpre) (fun _ => by rw [← unhide hj, hS, hg]) (by rw [← unhide hj]; exact unhide HTW))
            have hgn : (s[j - 1]'(by omega)).toNat = 58 := by rw [hg]; rfl
            clear hk0 hpre hS hg
            generalize bs [c] = C at HUN HAP hc1
            generalize bs acc = A at HAP hacs ⊢
            go_wp2_with fail
            refine (unhide HUN).mono ?_
            rintro e w2 ⟨rfl, hb2⟩
            go_wp2_with fail
            go_roundw
            case rel => exact ⟨k + 1, j + 3, acc ++ [c], by show _ = _; rw [unhide hj]; omega, by have := unhide hj; omega, by go_num, by rw [← unhide HAP], by show _ = _; rw [List.length_append, unhide hal]; rfl, hgr, bthen hb hb2⟩
            case measure => simp [intOf]; omega
          · have hon : o = none := by
              rw [unhide HO]
              refine none_of_sign _ (k - 1) (by omega) ?_
              rw [show 3 * (k - 1) + 2 = j - 1 by have := unhide hj; omega, hS]
              exact fun e => hg (Option.some.inj e)
            subst hon
            have hgn : (s[j - 1]'(by omega)).toNat ≠ 58 := fun e => hg (UInt8.toNat_inj.1 e)
            obtain ⟨x, hx⟩ : ∃ x, (s[j - 1]'(by omega)).toNat = x := ⟨_, rfl⟩
            rw [hx] at hgn
            have hxb : ((x : Int) != 58) = true := by rw [bne_iff_ne]; omega
            clear hk0 hpre hS hg hgn HAP HTW
            generalize bs [c] = C at HUN hc1
            generalize bs acc = A at hacs ⊢
            go_wp2_with fail
            refine (unhide HUN).mono ?_
            rintro e w2 ⟨rfl, hb2⟩
            go_wp2_with fail
            go_ret2
            exact ⟨rfl, bthen hb hb2⟩
    · have hk : k = 6 := by have := unhide hj; omega
      have hS : s.data.toList = macT acc := by
        rw [← unhide hpre, hk, List.take_of_length_le (by rw [size_toList]; omega)]
      have hoe : o = some acc := by rw [unhide HO, hS, macR_of acc (by rw [unhide hal]; exact hk)]
      subst hoe
      have HN := hide (rnum acc wr (by have := unhide hal; omega))
      clear hS hpre
      go_wp2_with fail
      refine (unhide HN).mono ?_
      rintro e w2 ⟨rfl, rfl⟩
      go_wp2_with fail
      go_ret2
      exact ⟨rfl, hb⟩
theorem rreadMac (s : ByteArray) (w : World) :
    Calls Tryz.prog 10 #[.string s] w fun e w' => e = .returned (macV (macR s.data.toList)) ∧ Below w.heap.size w w' := by
  by_cases h : s.size = 17
  · exact rreadMac_some s w h
  · rw [none_of_length _ (by rw [size_toList]; exact h), macV_none]
    have hb : ((s.size : Int) != 17) = true := by rw [bne_iff_ne]; omega
    go_enter Tryz.func10, Tryz.ntmps10
    go_wp2_with fail
    go_ret2
    exact ⟨rfl, Below.refl _ _⟩
end Go.Proofs.YtmpkeakbcojdeaaGreatDoor
