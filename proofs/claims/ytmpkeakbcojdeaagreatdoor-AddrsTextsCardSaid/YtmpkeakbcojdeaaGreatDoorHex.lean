/-
  The contract of octets.Hex: for each byte its two digits, the greater half first; no cell that was there before has turned.
-/
import Derived.Test.YtmpkeakbcojdeaaGreatDoorOwn
import Derived.Test.YtmpkeakbcojdeaaGreatDoorInfo
import Derived.Test.YtmpkeakbcojdeaaGreatDoorGet
import Derived.Deep.RegionLaw
namespace Go.Proofs.YtmpkeakbcojdeaaGreatDoor
open Go.RowKit

/-- append within the capacity of a row of the call's own, as one step of a region that draws. -/
theorem step_append_fits {P : Program} {ops : Array Oper} {o : Oper} {a : Act} {w : World} {K : Act → World → Prop} {Q : Exit → Act → World → Prop} {E : Prop}
    (hg : o.guard = none) (s x : Operand) (t : TypeId) (hop : o.op = Op.call { callee := Callee.builtin Builtin.append, args := #[s, x], argTypes := #[t, t] })
    (base : Nat) (e : TypeId) (i : TypeInfo) (size : Nat) (h1 : P.underlying t = some (.slice e)) (h2 : P.info? e = some i) (h4 : i.size = size)
    (g k cap : Nat) (xs : List Value) (hs : a.eval s = .slice (some ⟨g, 0, none⟩) k cap) (hown : w.ownsRow base e size (.slice (some ⟨g, 0, none⟩) k cap) k xs) (ad : Addr) (m c : Nat) (news : List Value) (hx : a.eval x = .slice (some ad) m c) (hn : news.length = m * size)
    (hc : ∀ j u, news[j]? = some u → w.cell? (ad.add j) = some u) (h1c : ∀ u ∈ news, u.oneCell' = true) (b1 : k + m ≤ cap)
    (hK : ∀ w', w'.ownsRow base e size (.slice (some ⟨g, 0, none⟩) (k + m) cap) (k + m) (xs ++ news) → w.grownBy w' (some g) → K (a.put o.dst (.slice (some ⟨g, 0, none⟩) (k + m) cap)) w') :
    if Region.wanted o (yielded ops a.tmps) = true then Oper.wp P o a w K Q else E := by
  have hw : Region.wanted o (yielded ops a.tmps) = true := by simp [Region.wanted, hg]
  rw [if_pos hw]
  obtain ⟨w', hrun, r1, r2⟩ := run_append_fits (P := P) w base t o.type e i size h1 h2 h4 g k cap xs hown ad m c news hn hc h1c b1
  unfold Oper.wp
  simp [execOp, hop, resolve, invoke, builtin, hs, hx, hrun, Result.andThen]
  exact hK w' r1 r2

/-- a half byte's digit -/
def hexd (n : Nat) : UInt8 := if n < 10 then UInt8.ofNat (48 + n) else UInt8.ofNat (87 + n)
def hexs (l : List UInt8) : List UInt8 := l.flatMap fun c => [hexd (c.toNat / 16), hexd (c.toNat % 16)]
theorem hexs_length (l : List UInt8) : (hexs l).length = 2 * l.length := by
  induction l with
  | nil => rfl
  | cons c l ih => simp [hexs] at *; omega

theorem and_low (c : UInt8) : bits BinOp.and IntKind.u8 (c.toNat : Int) 15 = (c.toNat : Int) % 16 := by
  have h : ∀ n : Fin 256, ((n.val &&& 15 : Nat) : Int) = (n.val : Int) % 16 := by decide +kernel
  have hc := c.toNat_lt
  have := u8_and_nat c.toNat 15 hc (by decide)
  rw [show ((15 : Nat) : Int) = 15 from rfl] at this
  rw [this]
  exact h ⟨c.toNat, hc⟩

theorem two_new (w : World) (a b : Value) : ∀ j u, [a, b][j]? = some u → (w.alloc (.cells #[a, b] 5)).cell? ((⟨w.heap.size, 0, none⟩ : Addr).add j) = some u := by
  intro j u hj
  match j, hj with
  | 0, hj => simp at hj; subst hj; simp [Addr.add]
  | 1, hj => simp at hj; subst hj; simp [Addr.add]
theorem digit_at : ∀ n : Fin 16, ∀ h : n.val < (ByteArray.mk #[48, 49, 50, 51, 52, 53, 54, 55, 56, 57, 97, 98, 99, 100, 101, 102]).size, (ByteArray.mk #[48, 49, 50, 51, 52, 53, 54, 55, 56, 57, 97, 98, 99, 100, 101, 102])[n.val]'h = hexd n.val := by decide +kernel
theorem digit_int (x : Int) (n : Nat) (hx : x = (n : Int)) (hn : n < 16) : ∀ h : x.toNat < (ByteArray.mk #[48, 49, 50, 51, 52, 53, 54, 55, 56, 57, 97, 98, 99, 100, 101, 102]).size, (ByteArray.mk #[48, 49, 50, 51, 52, 53, 54, 55, 56, 57, 97, 98, 99, 100, 101, 102])[x.toNat]'h = hexd n := by
  subst hx
  exact digit_at ⟨n, hn⟩

theorem hexs_snoc (l : List UInt8) (c : UInt8) : hexs (l ++ [c]) = hexs l ++ [hexd (c.toNat / 16), hexd (c.toNat % 16)] := by simp [hexs]

set_option maxHeartbeats 1000000 in
theorem hex_any (s : ByteArray) (w : World) (hs : s.size ≤ 140737488355328) :
    Calls Tryz.prog 37 #[.string s] w fun e w' => e = .returned (.string (bs (hexs s.data.toList))) ∧ Below w.heap.size w w' := by
  obtain ⟨i0, hi, hz0, hz1, hz2⟩ := info_parts info5
  have hmk : ∀ W : World, (Instr.makeSlice 62 (.int .i64 0) (.int .i64 (2 * (s.size : Int)))).run Tryz.prog W = .ok (.slice (some ⟨W.heap.size, 0, none⟩) 0 (2 * s.size)) (W.alloc (.cells (madeCells #[.int .u8 0] (2 * s.size)) 5)) := fun W => by
    have h := run_make (P := Tryz.prog) W 62 5 i0 (.int .u8 0) Tryz.underlying62 hi hz0 .i64 .i64 0 (2 * (s.size : Int)) (by omega) (by omega) (by rw [hz2]; omega) (by omega)
    rw [hz1, show (2 * (s.size : Int)).toNat = 2 * s.size from by omega] at h
    simpa [Value.cells] using h
  go_enter Tryz.func37, Tryz.ntmps37
  go_wp2
  go_loopw [3, 11] (fun v i wr => ∃ k : Nat, k ≤ s.size ∧ i = .int .i64 k ∧ v = .slice (some ⟨w.heap.size, 0, none⟩) (2 * k) (2 * s.size) ∧ wr.ownsRow w.heap.size 5 1 (.slice (some ⟨w.heap.size, 0, none⟩) (2 * k) (2 * s.size)) (2 * k) (Lib.byteCells (hexs (s.data.toList.take k))) ∧ Below w.heap.size w wr) (fun _ i _ => s.size - (intOf i).toNat)
  case atStart =>
    refine ⟨0, Nat.zero_le _, rfl, rfl, ?_, (Below.refl _ _).alloc (Nat.le_refl _) _⟩
    exact World.ownsRow_made w _ (2 * s.size) (Nat.le_refl _) (by unfold maxLen; omega) (by rw [size_madeCells, Nat.mul_one])
  case round =>
    obtain ⟨k, hk, rfl, rfl, hown, hb⟩ := hrel
    by_cases hlt : k < s.size
    · have hlt' : (k : Int) < (s.size : Int) := by omega
      have hc := (s[k]'hlt).toNat_lt
      have hsn := hexs_snoc (s.data.toList.take k) (s[k]'hlt)
      rw [← take_snoc s k hlt] at hsn
      generalize hcs : s[k]'hlt = c at hc hsn
      have b1 : (0 : Int) ≤ (c.toNat : Int) / 16 := by omega
      have b2 : (c.toNat : Int) / 16 < 16 := by omega
      have b3 : (0 : Int) ≤ (c.toNat : Int) % 16 := by omega
      have b4 : (c.toNat : Int) % 16 < 16 := by omega
      have ha := and_low c
      have hD1 := digit_int ((c.toNat : Int) / 16) (c.toNat / 16) (by omega) (by omega)
      have hD2 := digit_int ((c.toNat : Int) % 16) (c.toNat % 16) (by omega) (by omega)
      generalize hexd (c.toNat / 16) = d1 at hD1 hsn
      generalize hexd (c.toNat % 16) = d2 at hD2 hsn
      have HL : Hid (Lib.byteCells (hexs (s.data.toList.take (k + 1))) = Lib.byteCells (hexs (s.data.toList.take k)) ++ [.int .u8 d1.toNat, .int .u8 d2.toNat]) := by
        show _ = _
        rw [hsn, Lib.byteCells_append]; rfl
      clear hsn
      go_wp2
      go_region_law (refine step_append_fits rfl (.tmp 14) (.tmp 25) 62 rfl w.heap.size 5 i0 1 Tryz.underlying62 hi hz1 w.heap.size (2 * k) (2 * s.size) _ (by simp [Act.eval]) (hown.alloc _) ⟨wr.heap.size, 0, none⟩ 2 2 [.int .u8 d1.toNat, .int .u8 d2.toNat] (by simp [Act.eval]) rfl (two_new wr _ _) (by intro u hu; simp at hu; rcases hu with rfl | rfl <;> rfl) (by omega) ?_; intro w1 hown1 hgrow1)
      all_goals
        have hb1 : Below w.heap.size w w1 := (hb.alloc hb.size _).drew.grown hgrow1 (Nat.le_trans hb.size (by simp)) (fun j hj => by cases hj; exact Nat.le_refl _)
        rw [← HL.out] at hown1
        clear hD1 hD2 ha hgrow1 hown hb
        go_wp2
        go_roundw
        case rel => exact ⟨k + 1, by omega, by go_num, rfl, hown1, hb1⟩
        case measure => simp [intOf]; omega
    · obtain rfl : k = s.size := by omega
      have hkn : s.data.toList.take s.size = s.data.toList := List.take_of_length_le (by rw [size_toList]; exact Nat.le_refl _)
      rw [hkn] at hown
      have hcv := run_own_string (w := wr) (hexs s.data.toList) (base := w.heap.size) (v := .slice (some ⟨w.heap.size, 0, none⟩) (2 * s.size) (2 * s.size)) (by rw [hexs_length, size_toList]; exact hown)
      clear hown hkn
      go_wp2
      go_ret
      exact ⟨rfl, hb⟩
end Go.Proofs.YtmpkeakbcojdeaaGreatDoor
