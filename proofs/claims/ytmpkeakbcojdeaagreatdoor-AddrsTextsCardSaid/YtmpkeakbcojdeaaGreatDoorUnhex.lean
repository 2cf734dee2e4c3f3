/-
  The contract of octets.Unhex: the bytes whose digits the text is and OK, or no bytes and ErrOctetsText; no cell that was there before has turned.
-/
import Derived.Test.YtmpkeakbcojdeaaGreatDoorPair
namespace Go.Proofs.YtmpkeakbcojdeaaGreatDoor
open Go.RowKit

/-- the bytes of a text of digits, if it is one -/
def unh : List UInt8 → Option (List UInt8)
  | [] => some []
  | [_] => none
  | a :: b :: r => if half a < 16 ∧ half b < 16 then (unh r).map (UInt8.ofNat (half a * 16 + half b) :: ·) else none
/-- what Unhex hands back -/
def unhV (o : Option (List UInt8)) : Value := .tuple #[.string (bs (o.getD [])), .int .i64 (if o.isSome then 0 else 11)]
theorem unhV_none : unhV none = .tuple #[.string ByteArray.empty, .int .i64 11] := rfl
theorem unhV_some (l : List UInt8) : unhV (some l) = .tuple #[.string (bs l), .int .i64 0] := rfl

theorem ownsRow_below {w w' : World} {base : Nat} {e : TypeId} {size : Nat} {v : Value} {n : Nat} {xs : List Value} (h : w.ownsRow base e size v n xs) (hb : Below w.heap.size w w') : w'.ownsRow base e size v n xs := by
  obtain ⟨h1, h2⟩ := h
  refine ⟨h1, ?_⟩
  rcases h2 with h2 | ⟨g, cap, cur, hv, hg, hh, r⟩
  · exact Or.inl h2
  · have hlt : g < w.heap.size := by
      rcases Nat.lt_or_ge g w.heap.size with h | h
      · exact h
      · rw [Array.getElem?_eq_none h] at hh; cases hh
    exact Or.inr ⟨g, cap, cur, hv, hg, by rw [hb.block g hlt]; exact hh, r⟩
theorem one_new (w : World) (a : Value) : ∀ j u, [a][j]? = some u → (w.alloc (.cells #[a] 5)).cell? ((⟨w.heap.size, 0, none⟩ : Addr).add j) = some u := by
  intro j u hj
  match j, hj with
  | 0, hj => simp at hj; subst hj; simp [Addr.add]

theorem drop_two (s : ByteArray) (j : Nat) (h : j + 2 ≤ s.size) : s.data.toList.drop j = (s[j]'(by omega)) :: (s[j + 1]'(by omega)) :: s.data.toList.drop (j + 2) := by
  have hl : s.data.toList.length = s.size := size_toList s
  rw [List.drop_eq_getElem_cons (by omega), List.drop_eq_getElem_cons (by omega)]
  rfl
theorem drop_one (s : ByteArray) (j : Nat) (h : j + 1 = s.size) : s.data.toList.drop j = [s[j]'(by omega)] := by
  have hl : s.data.toList.length = s.size := size_toList s
  rw [List.drop_eq_getElem_cons (by omega), List.drop_of_length_le (by omega)]
  rfl

theorem unh_step (L acc : List UInt8) (a b : UInt8) (r : List UInt8) (hL : L = a :: b :: r) (hg : half a < 16 ∧ half b < 16) (o : Option (List UInt8)) (ho : o = (unh L).map (acc ++ ·)) :
    o = (unh r).map ((acc ++ [UInt8.ofNat (half a * 16 + half b)]) ++ ·) := by
  subst hL
  rw [ho, unh, if_pos hg]
  cases unh r <;> simp
theorem unh_stop (L acc : List UInt8) (a b : UInt8) (r : List UInt8) (hL : L = a :: b :: r) (hg : ¬ (half a < 16 ∧ half b < 16)) (o : Option (List UInt8)) (ho : o = (unh L).map (acc ++ ·)) : o = none := by
  subst hL
  rw [ho, unh, if_neg hg]; rfl
theorem unh_odd (L acc : List UInt8) (a : UInt8) (hL : L = [a]) (o : Option (List UInt8)) (ho : o = (unh L).map (acc ++ ·)) : o = none := by
  subst hL
  rw [ho]; rfl
theorem unh_end (L acc : List UInt8) (hL : L = []) (o : Option (List UInt8)) (ho : o = (unh L).map (acc ++ ·)) : o = some acc := by
  subst hL
  rw [ho]; simp [unh]
theorem byte_halves (a b : Nat) (ha : a < 16) (hb : b < 16) : ((UInt8.ofNat (a * 16 + b)).toNat : Int) = ((a * 16 + b : Nat) : Int) := by
  rw [UInt8.toNat_ofNat_of_lt' (by show _ < 256; omega)]

theorem two_cast (k : Nat) : ((2 * k : Nat) : Int) = 2 * (k : Int) := by omega
theorem pair_good (s : ByteArray) (k : Nat) (w : World) (hs : s.size ≤ maxLen) (h : 2 * k + 2 ≤ s.size) (hg : half (s[2 * k]'(by omega)) < 16 ∧ half (s[2 * k + 1]'(by omega)) < 16) :
    Calls Tryz.prog 46 #[.string s, .int .i64 (2 * (k : Int))] w fun e w' => e = .returned (.tuple #[.int .u8 ((half (s[2 * k]'(by omega)) * 16 + half (s[2 * k + 1]'(by omega)) : Nat) : Int), .nilIface]) ∧ Below w.heap.size w w' := by
  rw [← two_cast]; exact pair_ok s (2 * k) w hs h hg.1 hg.2
theorem pair_wrong (s : ByteArray) (k : Nat) (w : World) (hs : s.size ≤ maxLen) (h1 : 2 * k < s.size) (h : ∀ h : 2 * k + 2 ≤ s.size, ¬ (half (s[2 * k]'(by omega)) < 16 ∧ half (s[2 * k + 1]'(by omega)) < 16)) :
    Calls Tryz.prog 46 #[.string s, .int .i64 (2 * (k : Int))] w fun e w' => e = .returned (.tuple #[.int .u8 0, .iface 84 (.agg #[.int .i64 (2 * (k : Int)), .int .i64 11])]) ∧ Below w.heap.size w w' := by
  rw [← two_cast]
  by_cases h2 : 2 * k + 2 ≤ s.size
  · exact pair_bad s (2 * k) w hs h2 (h h2)
  · exact pair_short s (2 * k) w hs h1 (by omega)

set_option maxRecDepth 20000 in
set_option maxHeartbeats 2000000 in
theorem unhex_any (s : ByteArray) (w : World) (hg : Et w) (hs : s.size ≤ 140737488355328) :
    Calls Tryz.prog 31 #[.string s] w fun e w' => e = .returned (unhV (unh s.data.toList)) ∧ Below w.heap.size w w' := by
  have hm : s.size ≤ maxLen := by unfold maxLen; omega
  obtain ⟨i0, hi, hz0, hz1, hz2⟩ := info_parts info5
  have hmk : ∀ W : World, (Instr.makeSlice 62 (.int .i64 0) (.int .i64 ((s.size : Int) / 2))).run Tryz.prog W = .ok (.slice (some ⟨W.heap.size, 0, none⟩) 0 (s.size / 2)) (W.alloc (.cells (madeCells #[.int .u8 0] (s.size / 2)) 5)) := fun W => by
    have h := run_make (P := Tryz.prog) W 62 5 i0 (.int .u8 0) Tryz.underlying62 hi hz0 .i64 .i64 0 ((s.size : Int) / 2) (by omega) (by omega) (by rw [hz2]; omega) (by omega)
    rw [hz1, show ((s.size : Int) / 2).toNat = s.size / 2 from by omega] at h
    simpa [Value.cells] using h
  obtain ⟨o, ho⟩ : ∃ o, o = unh s.data.toList := ⟨_, rfl⟩
  rw [← ho]
  have HO := hide ho
  clear ho
  go_enter Tryz.func31, Tryz.ntmps31
  go_wp2
  go_loopw [4, 5] (fun v i wr => ∃ (k : Nat) (acc : List UInt8), 2 * k ≤ s.size ∧ i = .int .i64 (2 * (k : Int)) ∧ acc.length = k ∧ v = .slice (some ⟨w.heap.size, 0, none⟩) k (s.size / 2) ∧ wr.ownsRow w.heap.size 5 1 (.slice (some ⟨w.heap.size, 0, none⟩) k (s.size / 2)) k (Lib.byteCells acc) ∧ Hid (o = (unh (s.data.toList.drop (2 * k))).map (acc ++ ·)) ∧ Below w.heap.size w wr) (fun _ i _ => s.size - (intOf i).toNat)
  case atStart =>
    refine ⟨0, [], Nat.zero_le _, rfl, rfl, rfl, ?_, ?_, (Below.refl _ _).alloc (Nat.le_refl _) _⟩
    · exact World.ownsRow_made w _ (s.size / 2) (Nat.le_refl _) (by unfold maxLen; omega) (by rw [size_madeCells, Nat.mul_one])
    · show _ = _
      rw [unhide HO]; simp
  case round =>
    obtain ⟨k, acc, hk, rfl, hal, rfl, hown, hrest, hb⟩ := hrel
    have HAL := hide hal
    clear hal
    have hgr : Et wr := hg.next hb
    by_cases hlt : 2 * k < s.size
    · by_cases hgood : ∃ h : 2 * k + 2 ≤ s.size, half (s[2 * k]'(by omega)) < 16 ∧ half (s[2 * k + 1]'(by omega)) < 16
      · obtain ⟨h2, hgood⟩ := hgood
        have hd := drop_two s (2 * k) h2
        have hst := unh_step _ acc _ _ _ hd hgood o (unhide hrest)
        have hpr := fun W => pair_good s k W hm h2 hgood
        have hbh := byte_halves _ _ hgood.1 hgood.2
        have HP := hide hpr
        have HST := hide hst
        have HBH := hide hbh
        clear hpr hst hd hbh hrest
        generalize half (s[2 * k]'(by omega)) * 16 + half (s[2 * k + 1]'(by omega)) = x at HP HST HBH
        go_wp2_with (first | (go_at_call 46; refine (unhide HP _).mono ?_; rintro e w2 ⟨rfl, hb2⟩) | (at_builtin; refine wpList_append_fits _ rfl (.tmp 28) (.tmp 30) 62 rfl w.heap.size 5 i0 1 Tryz.underlying62 hi hz1 w.heap.size k (s.size / 2) _ rfl ((ownsRow_below hown hb2).alloc _) ⟨w2.heap.size, 0, none⟩ 1 1 [.int .u8 (x : Int)] rfl rfl (one_new w2 _) (by intro u hu; simp at hu; subst hu; rfl) (by omega) ?_; intro w3 hown3 hgrow3))
        have hb3 : Below w.heap.size w w3 := ((hb.trans (hb2.mono hb.size)).alloc (Nat.le_trans hb.size hb2.size) _).grown hgrow3 (Nat.le_trans hb.size (Nat.le_trans hb2.size (by simp))) (fun j hj => by cases hj; exact Nat.le_refl _)
        rw [show Lib.byteCells acc ++ [.int .u8 (x : Int)] = Lib.byteCells (acc ++ [UInt8.ofNat x]) from by rw [Lib.byteCells_append, ← unhide HBH]; rfl] at hown3
        clear hgrow3 hown hb hb2
        go_wp2
        go_roundw
        case rel => exact ⟨k + 1, acc ++ [UInt8.ofNat x], by omega, by go_num, by rw [List.length_append, unhide HAL]; rfl, rfl, hown3, HST, hb3⟩
        case measure => simp [intOf]; omega
      · have hbad : ∀ h : 2 * k + 2 ≤ s.size, ¬ (half (s[2 * k]'(by omega)) < 16 ∧ half (s[2 * k + 1]'(by omega)) < 16) := fun h hh => hgood ⟨h, hh⟩
        have hon : o = none := by
          by_cases h2 : 2 * k + 2 ≤ s.size
          · exact unh_stop _ acc _ _ _ (drop_two s (2 * k) h2) (hbad h2) o (unhide hrest)
          · exact unh_odd _ acc _ (drop_one s (2 * k) (by omega)) o (unhide hrest)
        subst hon
        have HP := hide (fun W => pair_wrong s k W hm hlt hbad)
        clear hrest hgood hbad hown
        go_wp2_with (first | (go_at_call 46; refine (unhide HP _).mono ?_; rintro e w2 ⟨rfl, hb2⟩) | (go_at_call 47; refine (number_any _ _ _ (hgr.next hb2)).mono ?_; rintro e w3 ⟨rfl, hb3⟩))
        go_ret2
        exact ⟨rfl, (hb.trans (hb2.mono hb.size)).trans (hb3.mono (Nat.le_trans hb.size hb2.size))⟩
    · have hke : 2 * k = s.size := by omega
      have hoe := unh_end _ acc (by rw [hke]; exact List.drop_of_length_le (by rw [size_toList]; exact Nat.le_refl _)) o (unhide hrest)
      subst hoe
      have hcv := run_own_string (w := wr) acc (base := w.heap.size) (v := .slice (some ⟨w.heap.size, 0, none⟩) k (s.size / 2)) (by rw [unhide HAL]; exact hown)
      clear hown hrest hke HO
      go_wp2
      go_ret2
      exact ⟨rfl, hb⟩
end Go.Proofs.YtmpkeakbcojdeaaGreatDoor
