/-
  The contract of addrs.ReadIp: the address whose text the text is and OK, or 0 and ErrAddrsText; nothing that was there before has turned.
-/
import Derived.Test.YtmpkeakbcojdeaaGreatDoorRead
namespace Go.Proofs.YtmpkeakbcojdeaaGreatDoor
open Go.RowKit

/-- what ReadIp hands back -/
def ipV (o : Option (List UInt8)) : Value := .tuple #[.int .u32 ((num (o.getD []) : Nat) : Int), .int .i64 (if o.isSome then 0 else 20)]
theorem or_next (m : Nat) (c : UInt8) (h : m < 16777216) : bits BinOp.or IntKind.u32 ((m : Int) * 256) (c.toNat : Int) = ((m * 256 + c.toNat : Nat) : Int) := by
  have hc := c.toNat_lt
  rw [show (m : Int) * 256 = ((m * 256 : Nat) : Int) by simp, u32_or_nat _ _ (by omega) (by omega), nat_join 8 (m * 256) c.toNat (by simp) (by omega)]
set_option maxRecDepth 20000 in
set_option maxHeartbeats 2000000 in
theorem readIp_any (s : ByteArray) (w : World) (hw : St w) (hs : s.size ≤ 1000) :
    Calls Tryz.prog 11 #[.string s] w fun e w' => e = .returned (ipV (ipR s.data.toList)) ∧ Below w.heap.size w w' := by
  obtain ⟨o, ho⟩ : ∃ o, o = ipR s.data.toList := ⟨_, rfl⟩
  rw [← ho]
  have HO := hide ho
  clear ho
  go_enter Tryz.func11, Tryz.ntmps11
  go_wp2_with fail
  refine (split_any s 46 4 w hw hs (by omega)).mono ?_
  rintro e w1 ⟨ps, N, hps, rfl, hc, hlt1, b1⟩
  have HPS := hide hps
  have HC := hide hc
  clear hps hc
  by_cases h4 : ps.length = 4
  · rw [decide_eq_true h4, h4]
    have hor : o = ones tenOf (pieces 46 4 s.data.toList) := by
      rw [unhide HO, ipR, readAll, if_pos (by rw [← unhide HPS]; simpa using h4)]
    have HR := hide hor
    have H4 := hide h4
    clear hor h4
    go_wp2_with fail
    go_loopw [6, 17] (fun b i wr => ∃ (k : Nat) (acc : List UInt8), k ≤ 4 ∧ i = .int .i64 k ∧ Hid (acc.length = k) ∧ b = .int .u32 ((num acc : Nat) : Int) ∧ Hid (o = (ones tenOf ((pieces 46 4 s.data.toList).drop k)).map (acc ++ ·)) ∧ Below w1.heap.size w1 wr) (fun _ i _ => 4 - (intOf i).toNat)
    case atStart =>
      refine ⟨0, [], Nat.zero_le _, rfl, rfl, rfl, ?_, Below.refl _ _⟩
      show _ = _
      rw [unhide HR]; simp
    case round =>
      obtain ⟨k, acc, hk, rfl, hal, rfl, hrest, hb⟩ := hrel
      have hbw : Below w.heap.size w wr := b1.trans (hb.mono b1.size)
      by_cases hlt : k < 4
      · obtain ⟨p, hp⟩ : ∃ p, ps[k]? = some p := ⟨_, List.getElem?_eq_getElem (by rw [unhide H4]; exact hlt)⟩
        have hcell : wr.cell? ⟨w.heap.size, k, none⟩ = some (.string p) := (hb.cell hlt1).trans (unhide HC k p hp)
        have hpk : (pieces 46 4 s.data.toList)[k]? = some p.data.toList := by rw [← unhide HPS, List.getElem?_map, hp]; rfl
        have hdr : (pieces 46 4 s.data.toList).drop k = p.data.toList :: (pieces 46 4 s.data.toList).drop (k + 1) := by
          obtain ⟨h1, h2⟩ := List.getElem?_eq_some_iff.1 hpk
          rw [List.drop_eq_getElem_cons h1, h2]
        have hps : p.size ≤ 1000 := by
          have := piece_le 46 4 s.data.toList p.data.toList (List.mem_of_getElem? hpk)
          rw [size_toList, size_toList] at this
          omega
        have hun := small_any p wr (hw.next hbw) (by omega)
        cases h1 : tenOf p.data.toList with
        | some c =>
          rw [h1, tenV_some] at hun
          have hst := ones_step tenOf _ acc _ _ c hdr h1 o (unhide hrest)
          have hm : num acc < 16777216 := Nat.lt_of_lt_of_le (num_lt acc) (by
            rw [unhide hal]
            exact Nat.le_trans (Nat.pow_le_pow_right (n := 256) (by omega) (show k ≤ 3 by omega)) (by decide))
          have hns := num_snoc acc c
          have hon := or_next (num acc) c hm
          have HST := hide hst
          have HUN := hide hun
          have HNS := hide hns
          clear hst hun hrest h1 hdr hpk hp hns
          generalize num acc = m at hm hon HNS ⊢
          have hc8 := c.toNat_lt
          generalize c.toNat = x at hc8 hon HNS HUN
          go_wp2_with (go_at_call 35; refine (unhide HUN).mono ?_; rintro e w2 ⟨rfl, hb2⟩)
          go_roundw
          case rel => exact ⟨k + 1, acc ++ [c], by omega, by go_num, by show _ = _; rw [List.length_append, unhide hal]; rfl, by rw [unhide HNS]; rfl, HST, hb.trans (hb2.mono hb.size)⟩
          case measure => simp [intOf]; omega
        | none =>
          rw [h1, tenV_none] at hun
          have hon := ones_stop tenOf _ acc _ _ hdr h1 o (unhide hrest)
          subst hon
          have HUN := hide hun
          clear hrest h1 hdr hpk hp hun
          go_wp2_with (go_at_call 35; refine (unhide HUN).mono ?_; rintro e w2 ⟨rfl, hb2⟩)
          go_ret2
          exact ⟨rfl, hbw.trans (hb2.mono hbw.size)⟩
      · obtain rfl : k = 4 := by omega
        have hoe := ones_end tenOf _ acc (List.drop_of_length_le (by rw [← unhide HPS, List.length_map, unhide H4]; exact Nat.le_refl _)) o (unhide hrest)
        subst hoe
        clear hrest
        go_wp2_with fail
        go_ret2
        exact ⟨rfl, hbw⟩
  · rw [decide_eq_false h4]
    have hon : o = none := by rw [unhide HO, ipR, readAll, if_neg (by rw [← unhide HPS]; simpa using h4)]
    subst hon
    go_wp2_with fail
    go_ret2
    exact ⟨rfl, b1⟩
end Go.Proofs.YtmpkeakbcojdeaaGreatDoor
