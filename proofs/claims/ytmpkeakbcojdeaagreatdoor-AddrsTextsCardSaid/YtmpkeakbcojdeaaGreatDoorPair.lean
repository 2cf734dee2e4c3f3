/-
  The contracts of strings.IndexByte at the sixteen digits and of octets.pair: the byte of two digits, or a fault that wraps ErrOctetsText; the world is as it was but for draws of an order.
-/
import Derived.Test.YtmpkeakbcojdeaaGreatDoorHex
import Derived.Lib.Bytealg
import Derived.Deep.QuietTactic
import Derived.BigQuiet
namespace Go.Proofs.YtmpkeakbcojdeaaGreatDoor
open Go.RowKit

/-- a digit's half byte; 16: it is none -/
def half (c : UInt8) : Nat := if 48 ≤ c.toNat ∧ c.toNat ≤ 57 then c.toNat - 48 else if 97 ≤ c.toNat ∧ c.toNat ≤ 102 then c.toNat - 87 else 16
/-- a digit's place among the sixteen; -1: it is none -/
def place (c : UInt8) : Int := if half c = 16 then -1 else (half c : Int)
theorem place_eq : ∀ c : Fin 256, Lib.indexByte [48, 49, 50, 51, 52, 53, 54, 55, 56, 57, 97, 98, 99, 100, 101, 102] (UInt8.ofNat c.val) = place (UInt8.ofNat c.val) := by decide +kernel
theorem half_le : ∀ c : UInt8, half c ≤ 16 := by
  intro c
  unfold half
  have := c.toNat_lt
  split
  · omega
  · split <;> omega

theorem index_any (c : UInt8) (w : World) :
    Calls Tryz.prog 60 #[.string ⟨#[48, 49, 50, 51, 52, 53, 54, 55, 56, 57, 97, 98, 99, 100, 101, 102]⟩, .int .u8 c.toNat] w fun e w' => e = .returned (.int .i64 (place c)) ∧ w' = w := by
  have h38 := @run_callFunc_extern Tryz.prog 92 _ Extern.BytealgIndexByte.indexByte Tryz.func92 (by kernel_rfl) (by kernel_rfl) (by kernel_rfl) (by kernel_rfl)
  have hx := Lib.run_indexByteString (P := Tryz.prog) ⟨#[48, 49, 50, 51, 52, 53, 54, 55, 56, 57, 97, 98, 99, 100, 101, 102]⟩ (c.toNat : Int)
  have hp := place_eq ⟨c.toNat, c.toNat_lt⟩
  simp only [UInt8.ofNat_toNat] at hp
  rw [show ((c.toNat : Int).toNat.toUInt8) = c from by simp, hp] at hx
  clear hp
  go_enter Tryz.func60, Tryz.ntmps60
  go_wp2
  go_ret
  exact ⟨rfl, rfl⟩

theorem or_halves_all : ∀ a b : Fin 16, bits BinOp.or IntKind.i64 ((a.val : Int) * 16) (b.val : Int) = (a.val : Int) * 16 + (b.val : Int) := by decide +kernel
theorem or_halves (a b : Nat) (ha : a < 16) (hb : b < 16) : bits BinOp.or IntKind.i64 ((a : Int) * 16) (b : Int) = (a : Int) * 16 + (b : Int) := or_halves_all ⟨a, ha⟩ ⟨b, hb⟩
theorem place_some (c : UInt8) (h : half c < 16) : place c = (half c : Int) := by unfold place; rw [if_neg (by omega)]
theorem place_none (c : UInt8) (h : ¬ half c < 16) : place c = -1 := by unfold place; rw [if_pos (by have := half_le c; omega)]

theorem below_drewN (w : World) (n : Nat) : Below w.heap.size w (w.drewN n) := ⟨rfl, rfl, rfl, Nat.le_refl _, fun _ _ => rfl⟩

theorem pair_short (s : ByteArray) (i : Nat) (w : World) (hs : s.size ≤ maxLen) (h : i < s.size) (h2 : s.size < i + 2) :
    Calls Tryz.prog 46 #[.string s, .int .i64 i] w fun e w' => e = .returned (.tuple #[.int .u8 0, .iface 84 (.agg #[.int .i64 i, .int .i64 11])]) ∧ Below w.heap.size w w' := by
  have hs' := hs
  unfold maxLen at hs'
  go_enter Tryz.func46, Tryz.ntmps46
  go_wp2_with (go_at_call 49; refine (piece_short s i 2 _ hs (by omega) (by omega) (by omega) (by omega)).mono ?_; rintro e w' ⟨rfl, rfl⟩)
  go_ret2
  exact ⟨rfl, Below.refl _ _⟩

set_option maxHeartbeats 1000000 in
theorem pair_ok (s : ByteArray) (i : Nat) (w : World) (hs : s.size ≤ maxLen) (h : i + 2 ≤ s.size) (h0 : half (s[i]'(by omega)) < 16) (h1 : half (s[i + 1]'(by omega)) < 16) :
    Calls Tryz.prog 46 #[.string s, .int .i64 i] w fun e w' => e = .returned (.tuple #[.int .u8 ((half (s[i]'(by omega)) * 16 + half (s[i + 1]'(by omega)) : Nat) : Int), .nilIface]) ∧ Below w.heap.size w w' := by
  obtain ⟨p, hp⟩ : ∃ p, p = s.extract i (i + 2) := ⟨_, rfl⟩
  have hps : p.size = 2 := by rw [hp, ByteArray.size_extract]; omega
  have e0 : p[0]'(by omega) = s[i]'(by omega) := by subst hp; simp [ByteArray.getElem_extract]
  have e1 : p[1]'(by omega) = s[i + 1]'(by omega) := by subst hp; simp [ByteArray.getElem_extract]
  have HP : Hid (p = s.extract i (i + 2)) := hp
  clear hp
  generalize s[i]'(by omega) = c0 at e0 h0 ⊢
  generalize s[i + 1]'(by omega) = c1 at e1 h1 ⊢
  have p0 := place_some c0 h0
  have p1 := place_some c1 h1
  have ho := or_halves _ _ h0 h1
  generalize half c0 = a at h0 p0 ho ⊢
  generalize half c1 = b at h1 p1 ho ⊢
  go_enter Tryz.func46, Tryz.ntmps46
  go_wp2_with (go_at_call 49; refine (piece_ok s i 2 _ hs h).mono ?_; rintro e w' ⟨rfl, rfl⟩; rw [← HP.out])
  go_quiet ((go_at_call 60; exact Calls.quiet_of_same (index_any _ _)))
  go_wp2
  go_ret2
  exact ⟨by rw [show ((a * 16 + b : Nat) : Int) = (a : Int) * 16 + (b : Int) from by omega]; rfl, below_drewN _ _⟩

set_option maxHeartbeats 1000000 in
theorem pair_bad (s : ByteArray) (i : Nat) (w : World) (hs : s.size ≤ maxLen) (h : i + 2 ≤ s.size) (hbad : ¬ (half (s[i]'(by omega)) < 16 ∧ half (s[i + 1]'(by omega)) < 16)) :
    Calls Tryz.prog 46 #[.string s, .int .i64 i] w fun e w' => e = .returned (.tuple #[.int .u8 0, .iface 84 (.agg #[.int .i64 i, .int .i64 11])]) ∧ Below w.heap.size w w' := by
  obtain ⟨p, hp⟩ : ∃ p, p = s.extract i (i + 2) := ⟨_, rfl⟩
  have hps : p.size = 2 := by rw [hp, ByteArray.size_extract]; omega
  have e0 : p[0]'(by omega) = s[i]'(by omega) := by subst hp; simp [ByteArray.getElem_extract]
  have e1 : p[1]'(by omega) = s[i + 1]'(by omega) := by subst hp; simp [ByteArray.getElem_extract]
  have HP : Hid (p = s.extract i (i + 2)) := hp
  clear hp
  generalize s[i]'(by omega) = c0 at e0 hbad
  generalize s[i + 1]'(by omega) = c1 at e1 hbad
  by_cases h0 : half c0 < 16
  · have p0 := place_some c0 h0
    have p1 := place_none c1 (fun h1 => hbad ⟨h0, h1⟩)
    clear hbad
    generalize half c0 = a at h0 p0
    have hn : ¬ (a : Int) < 0 := by omega
    go_enter Tryz.func46, Tryz.ntmps46
    go_wp2_with (go_at_call 49; refine (piece_ok s i 2 _ hs h).mono ?_; rintro e w' ⟨rfl, rfl⟩; rw [← HP.out])
    go_quiet ((go_at_call 60; exact Calls.quiet_of_same (index_any _ _)))
    go_wp2
    go_ret2
    exact ⟨rfl, below_drewN _ _⟩
  · have p0 := place_none c0 h0
    clear hbad h0
    go_enter Tryz.func46, Tryz.ntmps46
    go_wp2_with (go_at_call 49; refine (piece_ok s i 2 _ hs h).mono ?_; rintro e w' ⟨rfl, rfl⟩; rw [← HP.out])
    go_quiet ((go_at_call 60; exact Calls.quiet_of_same (index_any _ _)))
    go_wp2
    all_goals go_ret2
    all_goals exact ⟨rfl, below_drewN _ _⟩
end Go.Proofs.YtmpkeakbcojdeaaGreatDoor
