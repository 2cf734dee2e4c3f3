/-
  Plain facts on frames in datagrams: what is built is parsed as it was; what is parsed, built, has the same number and the same bytes behind the head; a number of bytes: no function of vxlan is named here.
-/
import Derived.Test.YtocbpkceokgohaaDoorGet5
namespace Go.Proofs.YtocbpkceokgohaaDoor

theorem take_next (l : List UInt8) (k : Nat) (h : k < l.length) : l.take (k + 1) = l.take k ++ [l[k]] := List.take_succ_eq_append_getElem h
/-- the number in n bytes from a place on -/
def nm (s : List UInt8) (a n : Nat) : Nat := num ((s.drop a).take n)
theorem nm_extract (l : List UInt8) (a n : Nat) : num ((bs l).extract a (a + n)).data.toList = nm l a n := by
  rw [extract_toList, bs_toList, show a + n - a = n by omega]; rfl
theorem nm3_lt (s : List UInt8) (a : Nat) : nm s a 3 < 16777216 := by
  refine Nat.lt_of_lt_of_le (num_lt _) ?_
  rw [List.length_take]
  exact Nat.le_trans (Nat.pow_le_pow_right (n := 256) (by omega) (Nat.min_le_left _ _)) (by decide)
/-- one byte more of a number of bytes -/
def stir (h c : Nat) : Nat := (h ^^^ c) * 16777619 % 4294967296
/-- a number of bytes -/
def hs (l : List UInt8) : Nat := l.foldl (fun h c => stir h c.toNat) 2166136261
theorem hs_nil : hs [] = 2166136261 := by unfold hs; rw [List.foldl_nil]
theorem fold_snoc (f : Nat → UInt8 → Nat) (b : Nat) (l : List UInt8) (c : UInt8) : (l ++ [c]).foldl f b = f (l.foldl f b) c := by simp
theorem hs_snoc (l : List UInt8) (c : UInt8) : hs (l ++ [c]) = stir (hs l) c.toNat := fold_snoc _ _ l c
theorem stir_lt (h c : Nat) : stir h c < 4294967296 := by unfold stir; omega
theorem hs_lt (l : List UInt8) : hs l < 4294967296 := by
  rcases List.eq_nil_or_concat l with rfl | ⟨m, c, rfl⟩
  · rw [hs_nil]; omega
  · rw [List.concat_eq_append, hs_snoc]; exact stir_lt _ _
/-- the port that a frame's bytes come from -/
def port (l : List UInt8) : Nat := 49152 + hs (l.take 14) % 16384
theorem port_le (l : List UInt8) : 49152 ≤ port l ∧ port l ≤ 65535 := by unfold port; omega
theorem port_more (l m : List UInt8) (h : 14 ≤ l.length) : port (l ++ m) = port l := by unfold port; rw [List.take_append_of_le_length h]
theorem port_first (l : List UInt8) : port (l.take 14) = port l := by unfold port; rw [List.take_take]; rfl
/-- a frame's bytes behind a head -/
def vbytes (v : Nat) (l : List UInt8) : List UInt8 := [8, 0, 0, 0] ++ (be v 3 ++ (0 :: l))
theorem vbytes_length (v : Nat) (l : List UInt8) : (vbytes v l).length = l.length + 8 := by unfold vbytes; simp [be_length]; omega
/-- the bit of the first byte -/
def flag (l : List UInt8) : Bool := (l.headD 0).toNat / 8 % 2 == 1
theorem flag_built (v : Nat) (l : List UInt8) : flag (vbytes v l) = true := show ((8 : UInt8).toNat / 8 % 2 == 1) = true by decide
/-- the number, the frame's bytes, the error's number -/
def vparse (l : List UInt8) : Nat × List UInt8 × Nat := if l.length < 8 then (0, [], 80) else if flag l then (nm l 4 3, l.drop 8, 0) else (0, [], 81)
theorem vbytes_nm (v : Nat) (l : List UInt8) : ((vbytes v l).drop 4).take 3 = be v 3 := by
  unfold vbytes
  rw [List.drop_left' (by rfl), List.take_left' (be_length v 3)]
theorem vbytes_rest (v : Nat) (l : List UInt8) : (vbytes v l).drop 8 = l := by
  have e : vbytes v l = ([8, 0, 0, 0] ++ (be v 3 ++ [0])) ++ l := by unfold vbytes; simp
  rw [e]
  exact List.drop_left' (by simp [be_length])
theorem vparse_built (v : Nat) (l : List UInt8) (h : v < 16777216) : vparse (vbytes v l) = (v, l, 0) := by
  unfold vparse
  rw [if_neg (by rw [vbytes_length]; omega), if_pos (flag_built v l), nm, vbytes_nm, vbytes_rest, num_be v 3 h]
/-- what is parsed, built: the same number's bytes -/
theorem vbytes_back (l : List UInt8) (h : 8 ≤ l.length) : ((vbytes (nm l 4 3) (l.drop 8)).drop 4).take 3 = (l.drop 4).take 3 := by
  rw [vbytes_nm]
  have e : ((l.drop 4).take 3).length = 3 := by rw [List.length_take, List.length_drop]; omega
  have := be_num ((l.drop 4).take 3)
  rw [e] at this
  exact this
theorem vbytes_doc (v : Nat) (l : List UInt8) : vbytes v l = [8, 0, 0, 0] ++ be (v * 256) 4 ++ l := by
  have e : be (v * 256) 4 = be v 3 ++ [0] := by
    rw [be, show v * 256 / 256 = v by omega, show v * 256 % 256 = 0 by omega]; rfl
  rw [e]; unfold vbytes; simp
theorem nm_doc (l : List UInt8) (h : 8 ≤ l.length) : nm l 4 4 / 256 = nm l 4 3 := by
  have h7 : 3 < (l.drop 4).length := by rw [List.length_drop]; omega
  unfold nm
  rw [take_next _ 3 h7, num_snoc]
  have := ((l.drop 4)[3]).toNat_lt
  omega
set_option maxRecDepth 100000 in
theorem and_eight (n : Nat) (h : n < 256) : bits BinOp.and IntKind.u8 (n : Int) 8 = ((8 * (n / 8 % 2) : Nat) : Int) := by
  have e : ∀ m : Fin 256, m.val &&& 8 = 8 * (m.val / 8 % 2) := by decide
  have := u8_and_nat n 8 h (by decide)
  rw [show ((8 : Nat) : Int) = 8 from rfl] at this
  rw [this, e ⟨n, h⟩]
end Go.Proofs.YtocbpkceokgohaaDoor
