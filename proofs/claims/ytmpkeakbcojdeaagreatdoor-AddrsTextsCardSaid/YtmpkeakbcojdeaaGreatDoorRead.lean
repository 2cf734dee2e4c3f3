/-
  The contracts of addrs.split, ReadMac and ReadIp: the address whose text the text is and OK, or 0 and ErrAddrsText; nothing that was there before has turned.
-/
import Derived.Test.YtmpkeakbcojdeaaGreatDoorStd
import Derived.Test.YtmpkeakbcojdeaaGreatDoorRefBytes
import Derived.Test.YtmpkeakbcojdeaaGreatDoorNets
namespace Go.Proofs.YtmpkeakbcojdeaaGreatDoor
open Go.RowKit

theorem cellsOf_at (ps : List ByteArray) (N j : Nat) (x : ByteArray) (h : ps[j]? = some x) : (Lib.cellsOf ps N)[j]? = some (.string x) := by
  have hj : j < ps.length := by
    rcases Nat.lt_or_ge j ps.length with h' | h'
    · exact h'
    · rw [List.getElem?_eq_none h'] at h; cases h
  unfold Lib.cellsOf
  rw [List.getElem?_toArray, List.getElem?_append_left (by simpa using hj), List.getElem?_map, h]
  rfl
theorem split_any (s : ByteArray) (c : UInt8) (n : Nat) (w : World) (hw : St w) (hs : s.size ≤ 1000) (hn : n ≤ 100) :
    Calls Tryz.prog 30 #[.string s, .string ⟨#[c]⟩, .int .i64 n] w fun e w' => ∃ (ps : List ByteArray) (N : Nat), ps.map (·.data.toList) = pieces c n s.data.toList ∧
      e = .returned (.tuple #[.slice (some ⟨w.heap.size, 0, none⟩) ps.length N, .bool (decide (ps.length = n))]) ∧
      (∀ j x, ps[j]? = some x → w'.cell? ⟨w.heap.size, j, none⟩ = some (.string x)) ∧ w.heap.size < w'.heap.size ∧ Below w.heap.size w w' := by
  obtain ⟨m, hm⟩ := hw.most
  have hsp := hide (lib_strings_SplitN s ⟨#[c]⟩ (n + 1) m w (by omega) hm (by show 1 ≤ 1; omega) (by omega) (by omega))
  have hd := Lib.splitB_data ⟨#[c]⟩ 0 (min (n + 1) (s.size + 1) - 1) s
  generalize Lib.splitB ⟨#[c]⟩ 0 (min (n + 1) (s.size + 1) - 1) s = ps at hsp hd
  have e1 : ps.map (·.data.toList) = pieces c n s.data.toList := by rw [hd, pieces, size_toList]
  have HE := hide e1
  clear hd e1
  generalize min (n + 1) (s.size + 1) = N at hsp
  go_enter Tryz.func30, Tryz.ntmps30
  go_wp2_with fail
  refine (unhide hsp).mono ?_
  rintro e w1 ⟨rfl, rfl⟩
  go_wp2_with fail
  go_ret2
  refine ⟨ps, N, unhide HE, ?_, ?_, by simp, (Below.refl w.heap.size w).alloc (Nat.le_refl _) _⟩
  · rw [← int_beq]; rfl
  · intro j x hx
    rw [World.cell?_alloc_at _ _ _ _ rfl]
    exact cellsOf_at ps _ j x hx

/-- a part is no longer than the text -/
theorem lens_mem (xs : List (List UInt8)) (p : List UInt8) (h : p ∈ xs) : p.length ≤ Lib.lens xs := by
  induction xs with
  | nil => cases h
  | cons y r ih =>
    have e : Lib.lens (y :: r) = y.length + Lib.lens r := by simp [Lib.lens]
    rw [e]
    rcases List.mem_cons.1 h with rfl | h
    · omega
    · have := ih h; omega
theorem piece_le (c : UInt8) (n : Nat) (s p : List UInt8) (h : p ∈ pieces c n s) : p.length ≤ s.length := by
  have hj := join_split c (min (n + 1) (s.length + 1) - 1) s
  obtain ⟨y, r, hy⟩ := splitK_cons c (min (n + 1) (s.length + 1) - 1) s
  rw [pieces] at h
  rw [hy] at hj h
  have h1 := Lib.join_length y r [c]
  rw [hj] at h1
  have h2 := lens_mem _ p h
  omega

/-- what ReadMac hands back -/
def macV (o : Option (List UInt8)) : Value := .tuple #[.int .u64 ((num (o.getD []) : Nat) : Int), .int .i64 (if o.isSome then 0 else 20)]
theorem macV_none : macV none = .tuple #[.int .u64 0, .int .i64 20] := rfl
theorem macV_some (l : List UInt8) : macV (some l) = .tuple #[.int .u64 ((num l : Nat) : Int), .int .i64 0] := rfl
theorem two_unh (p : List UInt8) : (∃ c, twoOf p = some c ∧ unh p = some [c]) ∨ (twoOf p = none ∧ (unh p = none ∨ ∃ l, unh p = some l ∧ l.length ≠ 1)) := by
  unfold twoOf
  cases hu : unh p with
  | none => exact Or.inr ⟨rfl, Or.inl rfl⟩
  | some l =>
    match l with
    | [] => exact Or.inr ⟨rfl, Or.inr ⟨[], rfl, by simp⟩⟩
    | [c] => exact Or.inl ⟨c, rfl, rfl⟩
    | a :: b :: r => exact Or.inr ⟨rfl, Or.inr ⟨_, rfl, by simp⟩⟩
set_option maxRecDepth 20000 in
set_option maxHeartbeats 2000000 in
theorem readMac_any (s : ByteArray) (w : World) (hw : St w) (hs : s.size ≤ 1000) :
    Calls Tryz.prog 9 #[.string s] w fun e w' => e = .returned (macV (macR s.data.toList)) ∧ Below w.heap.size w w' := by
  obtain ⟨o, ho⟩ : ∃ o, o = macR s.data.toList := ⟨_, rfl⟩
  rw [← ho]
  have HO := hide ho
  clear ho
  go_enter Tryz.func9, Tryz.ntmps9
  go_wp2_with fail
  refine (split_any s 58 6 w hw hs (by omega)).mono ?_
  rintro e w1 ⟨ps, N, hps, rfl, hc, hlt1, b1⟩
  have HPS := hide hps
  have HC := hide hc
  clear hps hc
  by_cases h6 : ps.length = 6
  · rw [decide_eq_true h6, h6]
    have hor : o = ones twoOf (pieces 58 6 s.data.toList) := by
      rw [unhide HO, macR, readAll, if_pos (by rw [← unhide HPS]; simpa using h6)]
    have HR := hide hor
    have H6 := hide h6
    clear hor h6
    go_wp2_with fail
    go_loopw [6, 19] (fun b i wr => ∃ (k : Nat) (acc : List UInt8), k ≤ 6 ∧ i = .int .i64 k ∧ Hid (acc.length = k) ∧ b = .string (bs acc) ∧ Hid (o = (ones twoOf ((pieces 58 6 s.data.toList).drop k)).map (acc ++ ·)) ∧ Below w1.heap.size w1 wr) (fun _ i _ => 6 - (intOf i).toNat)
    case atStart =>
      refine ⟨0, [], Nat.zero_le _, rfl, rfl, rfl, ?_, Below.refl _ _⟩
      show _ = _
      rw [unhide HR]; simp
    case round =>
      obtain ⟨k, acc, hk, rfl, hal, rfl, hrest, hb⟩ := hrel
      have hbw : Below w.heap.size w wr := b1.trans (hb.mono b1.size)
      have hsz : (bs acc).size = k := by rw [bs_size]; exact unhide hal
      by_cases hlt : k < 6
      · obtain ⟨p, hp⟩ : ∃ p, ps[k]? = some p := ⟨_, List.getElem?_eq_getElem (by rw [unhide H6]; exact hlt)⟩
        have hcell : wr.cell? ⟨w.heap.size, k, none⟩ = some (.string p) := (hb.cell hlt1).trans (unhide HC k p hp)
        have hpk : (pieces 58 6 s.data.toList)[k]? = some p.data.toList := by rw [← unhide HPS, List.getElem?_map, hp]; rfl
        have hdr : (pieces 58 6 s.data.toList).drop k = p.data.toList :: (pieces 58 6 s.data.toList).drop (k + 1) := by
          obtain ⟨h1, h2⟩ := List.getElem?_eq_some_iff.1 hpk
          rw [List.drop_eq_getElem_cons h1, h2]
        have hps : p.size ≤ 1000 := by
          have := piece_le 58 6 s.data.toList p.data.toList (List.mem_of_getElem? hpk)
          rw [size_toList, size_toList] at this
          omega
        have hun := unhex_any p wr (hw.next hbw).et (by omega)
        rcases two_unh p.data.toList with ⟨c, h1, h2⟩ | ⟨h1, h2⟩
        · rw [h2, unhV_some] at hun
          have hst := ones_step twoOf _ acc _ _ c hdr h1 o (unhide hrest)
          have hap : bs acc ++ bs [c] = bs (acc ++ [c]) := bs_append _ _
          have hc1 : (bs [c]).size = 1 := bs_size _
          have HST := hide hst
          have HUN := hide hun
          have HAP := hide hap
          clear hst hun hrest h1 h2 hdr hpk hp hap
          generalize bs [c] = C at HUN HAP hc1
          generalize bs acc = A at hsz HAP ⊢
          go_wp2_with (go_at_call 31; refine (unhide HUN).mono ?_; rintro e w2 ⟨rfl, hb2⟩)
          go_roundw
          case rel => exact ⟨k + 1, acc ++ [c], by omega, by go_num, by show _ = _; rw [List.length_append, unhide hal]; rfl, by rw [← unhide HAP], HST, hb.trans (hb2.mono hb.size)⟩
          case measure => simp [intOf]; omega
        · have hon := ones_stop twoOf _ acc _ _ hdr h1 o (unhide hrest)
          subst hon
          clear hrest h1 hdr hpk hp
          rcases h2 with h2 | ⟨l, h2, h3⟩
          · rw [h2, unhV_none] at hun
            have HUN := hide hun
            clear hun h2
            go_wp2_with (go_at_call 31; refine (unhide HUN).mono ?_; rintro e w2 ⟨rfl, hb2⟩)
            go_ret2
            exact ⟨rfl, hbw.trans (hb2.mono hbw.size)⟩
          · rw [h2, unhV_some] at hun
            have hc1 : (bs l).size ≠ 1 := by rw [bs_size]; exact h3
            have HUN := hide hun
            clear hun h2 h3
            generalize bs l = C at HUN hc1
            go_wp2_with (go_at_call 31; refine (unhide HUN).mono ?_; rintro e w2 ⟨rfl, hb2⟩)
            go_ret2
            exact ⟨rfl, hbw.trans (hb2.mono hbw.size)⟩
      · obtain rfl : k = 6 := by omega
        have hoe := ones_end twoOf _ acc (List.drop_of_length_le (by rw [← unhide HPS, List.length_map, unhide H6]; exact Nat.le_refl _)) o (unhide hrest)
        subst hoe
        have hge := get_ok (bs acc) 0 6 wr (by unfold maxLen; omega) (by omega) (by omega) (by omega)
        have hx : (bs acc).extract 0 (0 + 6) = bs acc := by
          have : (bs acc).extract 0 (0 + 6) = (bs acc).extract 0 (bs acc).size := by rw [hsz]
          rw [this]
          apply ByteArray.ext
          rw [ByteArray.data_extract]
          exact Array.extract_size
        rw [hx, bs_toList] at hge
        have HGE := hide hge
        clear hge hx hrest
        go_wp2_with (go_at_call 32; refine (unhide HGE).mono ?_; rintro e w2 ⟨rfl, rfl⟩)
        go_ret2
        exact ⟨rfl, hbw⟩
  · rw [decide_eq_false h6]
    have hon : o = none := by rw [unhide HO, macR, readAll, if_neg (by rw [← unhide HPS]; simpa using h6)]
    subst hon
    go_wp2_with fail
    go_ret2
    exact ⟨rfl, b1⟩
end Go.Proofs.YtmpkeakbcojdeaaGreatDoor
