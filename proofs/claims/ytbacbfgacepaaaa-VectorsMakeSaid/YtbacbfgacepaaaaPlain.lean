/-
  Plain facts on bytes, numbers and digits: no program is named here.
-/
import Derived.Test.YtbacbfgacepaaaaAgPlain
namespace Go.Proofs.Ytbacbfgacepaaaa

/-- v's n lowest bytes, the greatest one first. -/
def be (v : Nat) : Nat → List UInt8
  | 0 => []
  | n + 1 => be (v / 256) n ++ [UInt8.ofNat (v % 256)]
theorem be_length (v n : Nat) : (be v n).length = n := by
  induction n generalizing v with
  | zero => rfl
  | succ n ih => simp [be, ih]
/-- the number of bytes, the greatest one first -/
def num (l : List UInt8) : Nat := l.foldl (fun a c => a * 256 + c.toNat) 0
theorem num_snoc (l : List UInt8) (c : UInt8) : num (l ++ [c]) = num l * 256 + c.toNat := by simp [num]
theorem num_lt (l : List UInt8) : num l < 256 ^ l.length := by
  obtain ⟨m, rfl⟩ : ∃ m, m = l.reverse := ⟨_, rfl⟩
  rw [← List.reverse_reverse l]
  induction l.reverse with
  | nil => simp [num]
  | cons c m ih =>
    have hc := c.toNat_lt
    rw [List.reverse_cons, num_snoc, List.length_append, Nat.pow_add]
    simp only [List.length_cons, List.length_nil, Nat.zero_add, Nat.pow_one]
    omega
theorem num_be (v n : Nat) (h : v < 256 ^ n) : num (be v n) = v := by
  induction n generalizing v with
  | zero => simp at h; subst h; rfl
  | succ n ih =>
    have h1 : v / 256 < 256 ^ n := by rw [Nat.div_lt_iff_lt_mul (by omega)]; rw [Nat.pow_succ] at h; exact h
    rw [be, num_snoc, ih _ h1]
    simp
    omega
theorem be_num (l : List UInt8) : be (num l) l.length = l := by
  obtain ⟨m, hm⟩ : ∃ m, m = l.reverse := ⟨_, rfl⟩
  rw [show l = m.reverse from by rw [hm, List.reverse_reverse]]
  clear hm
  induction m with
  | nil => rfl
  | cons c m ih =>
    have hc := c.toNat_lt
    rw [List.reverse_cons, num_snoc, List.length_append]
    show be (num m.reverse * 256 + c.toNat) (m.reverse.length + 1) = _
    rw [be]
    have e1 : (num m.reverse * 256 + c.toNat) / 256 = num m.reverse := by omega
    have e2 : (num m.reverse * 256 + c.toNat) % 256 = c.toNat := by omega
    rw [e1, e2, ih]
    simp
/-- one byte more ahead -/
theorem be_head (v n : Nat) (h : v < 256 ^ n) : be v (n + 1) = 0 :: be v n := by
  induction n generalizing v with
  | zero => simp at h; subst h; rfl
  | succ n ih =>
    have h1 : v / 256 < 256 ^ n := by rw [Nat.div_lt_iff_lt_mul (by omega)]; rw [Nat.pow_succ] at h; exact h
    rw [be, ih _ h1]
    rfl
/-- the string of bytes -/
def bs (l : List UInt8) : ByteArray := ⟨l.toArray⟩
theorem bs_size (l : List UInt8) : (bs l).size = l.length := by simp [bs, ByteArray.size]
theorem bs_toList (l : List UInt8) : (bs l).data.toList = l := by simp [bs]
theorem bs_of (s : ByteArray) : bs s.data.toList = s := by cases s; simp [bs]
theorem bs_inj {a b : List UInt8} (h : bs a = bs b) : a = b := by
  have := congrArg (fun x : ByteArray => x.data.toList) h
  simpa [bs] using this
theorem extract_toList (s : ByteArray) (a b : Nat) : (s.extract a b).data.toList = (s.data.toList.drop a).take (b - a) := by
  rw [ByteArray.data_extract, Array.toList_extract, List.extract_eq_take_drop]
theorem size_toList (s : ByteArray) : s.data.toList.length = s.size := by rw [Array.length_toList]; rfl
end Go.Proofs.Ytbacbfgacepaaaa

