/-
  The lowest bits of a number, as a remainder; no program is named here.
  An entry's fields, as '==' asks for them.
  The document's table: what one holds; the contracts of gangwayref10.New and Time.
  gangwaylaw10.begun and some: two tables with a room, and a life, of at most 8, and 32; a call that takes nothing fixed out.
  The document's table: what its row holds; what a call on it has turned; the contracts of gangwayref10's Old and place.
  Lists that the document's calls make anew, entry by entry; the contracts of gangwayref10's without.
  The contracts of gangwayref10's Clear and Expire: a list of all that stay.
  The contract of gangwayref10's spare: room for one more; the entry that was put longest ago goes, of several the one with the least key; none where all are fixed.
  Plain facts: entries by rising keys, and the same entries in no order: the same is found, put in, taken out. No program is named here but in what it imports.
  The contracts of gangwayref10's Put and Fix.
  The contracts of gangwayref10's Put and Fix, whole.
  The contracts of gangwayref10's Get, Drop and Same.
  The contract of gangwayref10's Entries: all entries, by rising keys, each put in its place in a list made anew.
-/
import Derived.Test.YtljhgehlaehgnaaGreatDoorAgPlain
import Derived.Laws.Bits128
import Derived.Test.YtljhgehlaehgnaaGreatDoorAgs
namespace Go.Proofs.YtljhgehlaehgnaaGreatDoor

theorem i64_and7 (n : Int) : bits .and .i64 n 7 = n % 8 := by
  have h : (BitVec.ofInt 64 7).toNat = 2 ^ 3 - 1 := by decide
  have key : (BitVec.ofInt 64 n &&& BitVec.ofInt 64 7).toNat = (n % ((2 ^ 64 : Nat) : Int)).toNat % 2 ^ 3 := by
    rw [BitVec.toNat_and, BitVec.toNat_ofInt, h, Nat.and_two_pow_sub_one_eq_mod]
  show IntKind.i64.wrap ((BitVec.ofInt 64 n &&& BitVec.ofInt 64 7).toNat : Nat) = n % 8
  rw [key, IntKind.wrap_i64]
  omega
theorem i64_and31 (n : Int) : bits .and .i64 n 31 = n % 32 := by
  have h : (BitVec.ofInt 64 31).toNat = 2 ^ 5 - 1 := by decide
  have key : (BitVec.ofInt 64 n &&& BitVec.ofInt 64 31).toNat = (n % ((2 ^ 64 : Nat) : Int)).toNat % 2 ^ 5 := by
    rw [BitVec.toNat_and, BitVec.toNat_ofInt, h, Nat.and_two_pow_sub_one_eq_mod]
  show IntKind.i64.wrap ((BitVec.ofInt 64 n &&& BitVec.ofInt 64 31).toNat : Nat) = n % 32
  rw [key, IntKind.wrap_i64]
  omega
theorem i64_and16 (n : Int) : bits .and .i64 n 65535 = n % 65536 := by
  have h : (BitVec.ofInt 64 65535).toNat = 2 ^ 16 - 1 := by decide
  have key : (BitVec.ofInt 64 n &&& BitVec.ofInt 64 65535).toNat = (n % ((2 ^ 64 : Nat) : Int)).toNat % 2 ^ 16 := by
    rw [BitVec.toNat_and, BitVec.toNat_ofInt, h, Nat.and_two_pow_sub_one_eq_mod]
  show IntKind.i64.wrap ((BitVec.ofInt 64 n &&& BitVec.ofInt 64 65535).toNat : Nat) = n % 65536
  rw [key, IntKind.wrap_i64]
  omega
theorem i64_and30 (n : Int) : bits .and .i64 n 1073741823 = n % 1073741824 := by
  have h : (BitVec.ofInt 64 1073741823).toNat = 2 ^ 30 - 1 := by decide
  have key : (BitVec.ofInt 64 n &&& BitVec.ofInt 64 1073741823).toNat = (n % ((2 ^ 64 : Nat) : Int)).toNat % 2 ^ 30 := by
    rw [BitVec.toNat_and, BitVec.toNat_ofInt, h, Nat.and_two_pow_sub_one_eq_mod]
  show IntKind.i64.wrap ((BitVec.ofInt 64 n &&& BitVec.ofInt 64 1073741823).toNat : Nat) = n % 1073741824
  rw [key, IntKind.wrap_i64]
  omega
end Go.Proofs.YtljhgehlaehgnaaGreatDoor
namespace Go.Proofs.YtljhgehlaehgnaaGreatDoor
open Go.RowKit Go.Sort

theorem fieldsEntry : Tryz.prog.underlying 73 = some (.struct (Tryz.prog.fieldsOf 73)) := by kernel_rfl
theorem heldEntry : Tryz.prog.stoodInHeld 73 = false := by kernel_rfl
end Go.Proofs.YtljhgehlaehgnaaGreatDoor
namespace Go.Proofs.YtljhgehlaehgnaaGreatDoor
open Go.RowKit Go.Sort

/-- each key once -/
def Uniq (M : List Ent) : Prop := M.Pairwise fun a b => a.key ≠ b.key
end Go.Proofs.YtljhgehlaehgnaaGreatDoor
namespace Go.Proofs.YtljhgehlaehgnaaGreatDoor
open Go.RowKit Go.Sort

/-- a room, and a life, of a statement's size -/
def roomOf (a : Int) : Int := 1 + a % 8
def lifeOf (b : Int) : Int := 1 + b % 32
end Go.Proofs.YtljhgehlaehgnaaGreatDoor
namespace Go.Proofs.YtljhgehlaehgnaaGreatDoor
open Go.RowKit Go.Sort

theorem Tells.parts {B : Nat} {w : World} {v : Value} {L : List Ent} (h : Tells B w v L) :
    (v = .slice none 0 0 ∧ L = []) ∨ ∃ r cap R, v = .slice (some ⟨r, 0, none⟩) L.length cap ∧ B ≤ r ∧ w.heap[r]? = some (.cells (cs L ++ R).toArray 73 (0, 0)) ∧ L.length ≤ cap ∧ cap ≤ maxLen ∧ L.length * 4 + R.length = cap * 4 := by
  obtain ⟨hl, ⟨rfl, h0⟩ | ⟨r, cap, cur, rfl, hB, hr, h1, h2, h3, h4⟩⟩ := h
  · exact .inl ⟨rfl, List.length_eq_zero_iff.1 h0⟩
  · refine .inr ⟨r, cap, cur.toList.drop (L.length * 4), rfl, hB, ?_, h1, h2, ?_⟩
    · rw [hr]
      congr
      rw [← h4, List.take_append_drop]
    · have hc : cur.toList.length = cap * 4 := by simpa using h3
      rw [List.length_drop, hc]
      have := Nat.mul_le_mul_right 4 h1
      omega
theorem tells_of {B : Nat} {w : World} {L : List Ent} {r cap : Nat} {R : List Value} (hB : B ≤ r) (hr : w.heap[r]? = some (.cells (cs L ++ R).toArray 73 (0, 0))) (h1 : L.length ≤ cap) (h2 : cap ≤ maxLen) (h3 : L.length * 4 + R.length = cap * 4) :
    Tells B w (.slice (some ⟨r, 0, none⟩) L.length cap) L := by
  refine ⟨cs_length L, .inr ⟨r, cap, _, rfl, hB, hr, h1, h2, ?_, ?_⟩⟩
  · simp [cs_length]; omega
  · rw [List.take_append_of_le_length (by rw [cs_length]; exact Nat.le_refl _), List.take_of_length_le (by rw [cs_length]; exact Nat.le_refl _)]
theorem erow_at {w : World} {r : Nat} {L : List Ent} {R : List Value} (hr : w.heap[r]? = some (.cells (cs L ++ R).toArray 73 (0, 0))) (j : Nat) (h : j < L.length) (t : Nat) (ht : t < 4) : w.cell? ⟨r, j * 4 + t, none⟩ = (L[j]).cs[t]? := by
  rw [cell_of_row w r (j * 4 + t) _ _ _ hr, List.getElem?_toArray, List.getElem?_append_left (by rw [cs_length]; omega), cs_get L j h t ht]
theorem erow_of {w : World} {r : Nat} {L : List Ent} {R : List Value} (hr : w.heap[r]? = some (.cells (cs L ++ R).toArray 73 (0, 0))) : Prow w r L :=
  ⟨fun j h => erow_at hr j h 0 (by omega), fun j h => erow_at hr j h 1 (by omega), fun j h => erow_at hr j h 2 (by omega), fun j h => erow_at hr j h 3 (by omega)⟩
/-- a row of entries, as a loop reads it: no row, or one in a block of its own -/
def Rrow (W : World) (ao : Option Addr) (n : Nat) (M : List Ent) : Prop := M.length = n ∧ (0 < n → ∃ r, ao = some ⟨r, 0, none⟩ ∧ r < W.heap.size ∧ Prow W r M)
theorem Rrow.below {W W' : World} {ao : Option Addr} {n : Nat} {M : List Ent} (h : Rrow W ao n M) (b : Below W.heap.size W W') : Rrow W' ao n M := by
  refine ⟨h.1, fun hn => ?_⟩
  obtain ⟨r, h1, h2, h3⟩ := h.2 hn
  exact ⟨r, h1, Nat.lt_of_lt_of_le h2 b.size, h3.below b⟩
theorem Tells.rrow {B : Nat} {w : World} {v : Value} {L : List Ent} (h : Tells B w v L) : ∃ ao cap, v = .slice ao L.length cap ∧ L.length ≤ cap ∧ Rrow w ao L.length L := by
  rcases h.parts with ⟨rfl, rfl⟩ | ⟨r, cap, R, rfl, _, hr, hc, _⟩
  · exact ⟨none, 0, rfl, Nat.le_refl _, rfl, fun h => absurd h (by simp)⟩
  · exact ⟨_, cap, rfl, hc, rfl, fun _ => ⟨r, rfl, lt_of_row hr, erow_of hr⟩⟩
theorem rtab_set {w : World} {g : Nat} {t : TypeId} {a b c u : Value} (h : w.heap[g]? = some (.cells #[a, b, c] t (0, 0))) : (w.setCell ⟨g, 0, none⟩ u).heap[g]? = some (.cells #[u, b, c] t (0, 0)) := by
  have := heap_setCell_same _ g 0 _ t u h
  simpa using this
/-- where a key stands, in no order -/
theorem mlook_some {M : List Ent} {k : Int} {e : Ent} (hu : Uniq M) (h : look M k = some e) : ∃ A D, M = A ++ e :: D ∧ e.key = k ∧ (∀ x ∈ A, x.key ≠ k) ∧ (∀ x ∈ D, x.key ≠ k) := by
  obtain ⟨A, D, hL, hA⟩ := (List.find?_eq_some_iff_append.1 h).2
  have hk : e.key = k := by simpa using (List.find?_eq_some_iff_append.1 h).1
  subst hL
  refine ⟨A, D, rfl, hk, ?_, ?_⟩
  · intro x hx
    rw [← hk]
    exact (List.pairwise_append.1 hu).2.2 x hx e (by simp)
  · intro x hx
    rw [← hk]
    exact fun e2 => (List.pairwise_cons.1 (List.pairwise_append.1 hu).2.1).1 x hx e2.symm
end Go.Proofs.YtljhgehlaehgnaaGreatDoor
namespace Go.Proofs.YtljhgehlaehgnaaGreatDoor
open Go.RowKit Go.Sort

/-- a list made since w -/
def Acc (w W : World) (V : Value) (N : List Ent) : Prop := Tells w.heap.size W V N ∧ Below w.heap.size w W
theorem acc_new {w W : World} (b : Below w.heap.size w W) : Acc w (W.alloc (.cells #[] 73)) (.slice (some ⟨W.heap.size, 0, none⟩) 0 0) [] :=
  ⟨World.ownsRow_made W #[] 0 b.size (by unfold maxLen; omega) rfl, alloc_then b⟩
theorem Acc.below {w W W' : World} {V : Value} {N : List Ent} (h : Acc w W V N) (b : Below W.heap.size W W') : Acc w W' V N := ⟨owns_below h.1 b, bthen h.2 b⟩
theorem tells_shape {B n : Nat} {V : Value} {xs : List Value} {W : World} (h : W.ownsRow B 73 4 V n xs) (hn : ¬ V = .slice none 0 0) : ∃ r c, V = .slice (some ⟨r, 0, none⟩) n c := by
  obtain ⟨_, ⟨rfl, _⟩ | ⟨k, cap, cur, rfl, _⟩⟩ := h
  · exact absurd rfl hn
  · exact ⟨k, cap, rfl⟩
/-- an entry appended to such a list -/
theorem wp_app {ops : Array Oper} {rest : List Oper} {o : Oper} {a : Act} {Q : Exit → Act → World → Prop} (hgd : o.guard = none) (s x : Operand)
    (ho : o.op = .call { callee := .builtin .append, args := #[s, x], argTypes := #[43, 43] }) (w W : World) (v : Value) (n : Nat) (N : List Ent) (E : Ent) (hn : N.length = n) (hs : a.eval s = v) (hacc : Acc w W v N)
    (hx : a.eval x = .slice (some ⟨W.heap.size, 0, none⟩) 1 1) (hl : n ≤ 4096)
    (h : ∀ r c W', Hid (Acc w W' (.slice (some ⟨r, 0, none⟩) (n + 1) c) (N ++ [E])) → wpList Tryz.prog ops Q rest (a.put o.dst (.slice (some ⟨r, 0, none⟩) (n + 1) c)) W') :
    wpList Tryz.prog ops Q (o :: rest) a (W.alloc (.cells #[.int .u64 E.key, .int .u64 E.val, .int .i64 E.at_, .bool E.fix] 73)) := by
  obtain ⟨i0, hi0, hz0, hz1, hz2⟩ := info_parts Tryz.infoEntry
  subst hn
  have hb := alloc_below W (.cells #[.int .u64 E.key, .int .u64 E.val, .int .i64 E.at_, .bool E.fix] 73)
  have hacc' := hacc.below hb
  refine wpList_append_own_at _ hgd s x 43 ho w.heap.size 73 i0 _ 4 32 Tryz.underlying43 hi0 hz0 hz1 hz2 rfl (by decide) v N.length (cs N) hs hacc'.1 ⟨W.heap.size, 0, none⟩ 1 1 E.cs hx rfl (src4e W E) (cs4_one E) (by unfold maxLen; omega) (by omega) hacc'.2.size ?_
  intro v' w' ho' hg hnil _
  obtain ⟨r, c, rfl⟩ := tells_shape ho' (fun e => by have := (hnil.1 e).2; omega)
  refine h r c w' ⟨?_, ?_⟩
  · show World.ownsRow _ _ _ _ _ _ _
    rw [List.length_append, cs_append, cs_one]
    exact ho'
  · exact hacc'.2.grown hg hacc'.2.size (fun k hk => (World.ownsRow.lt hacc'.1 k hk).1)
theorem erase_out {A D : List Ent} {x : Ent} {k : Nat} (h : k < (A ++ x :: D).length) : ((A ++ x :: D).take (k + 1)).eraseIdx A.length = if k = A.length then ((A ++ x :: D).take k).eraseIdx A.length else ((A ++ x :: D).take k).eraseIdx A.length ++ [(A ++ x :: D)[k]] := by
  rw [List.take_succ_eq_append_getElem h]
  have hl : ((A ++ x :: D).take k).length = k := by rw [List.length_take]; omega
  split
  · next e =>
    subst e
    rw [List.eraseIdx_append_of_length_le (by omega), hl, Nat.sub_self, List.eraseIdx_of_length_le (l := List.take A.length (A ++ x :: D)) (by omega)]
    simp
  · next e =>
    rcases Nat.lt_or_ge k A.length with hk | hk
    · rw [List.eraseIdx_append_of_length_le (by omega), hl, List.eraseIdx_of_length_le (l := List.take k (A ++ x :: D)) (by omega), List.eraseIdx_of_length_le (by simp; omega)]
    · rw [List.eraseIdx_append_of_lt_length (by omega)]
theorem erase_all {A D : List Ent} {x : Ent} : (A ++ x :: D).eraseIdx A.length = A ++ D := by
  rw [List.eraseIdx_append_of_length_le (Nat.le_refl _)]; simp
theorem uniq_out {A D : List Ent} {x : Ent} (h : Uniq (A ++ x :: D)) : Uniq (A ++ D) := List.Pairwise.sublist (by simp) h
theorem oks_out {A D : List Ent} {x : Ent} (h : Oks (A ++ x :: D)) : Oks (A ++ D) := fun e he => h e (by simp at he ⊢; rcases he with h | h <;> simp [h])
end Go.Proofs.YtljhgehlaehgnaaGreatDoor
namespace Go.Proofs.YtljhgehlaehgnaaGreatDoor
open Go.RowKit Go.Sort

theorem mkept_take (p : Ent → Bool) {M : List Ent} {k : Nat} (h : k < M.length) : kept p (M.take (k + 1)) = if p M[k] then kept p (M.take k) else kept p (M.take k) ++ [M[k]] := by
  rw [List.take_succ_eq_append_getElem h]
  unfold kept
  rw [List.filter_append]
  cases hp : p M[k] <;> simp [hp]
theorem uniq_kept {p : Ent → Bool} {M : List Ent} (h : Uniq M) : Uniq (kept p M) := List.Pairwise.filter _ h
theorem len_kept (p : Ent → Bool) (M : List Ent) : (kept p M).length ≤ M.length := List.length_filter_le _ _
theorem kept_time (life now : Int) (M : List Ent) : kept (fun e => timeB now && oldE life now e) M = expP life now M := by
  unfold expP
  cases timeB now with
  | true => simp
  | false => simp [kept]
end Go.Proofs.YtljhgehlaehgnaaGreatDoor
namespace Go.Proofs.YtljhgehlaehgnaaGreatDoor
open Go.RowKit Go.Sort

/-- the least one of the first k, or none -/
def SAt (M : List Ent) (k : Nat) (z : Int) : Prop := (z = -1 ∧ ∀ x ∈ M.take k, x.fix = true) ∨ ∃ f, ∃ h : f < M.length, z = (f : Int) ∧ Least (M.take k) M[f]
theorem sat_step {M : List Ent} {k : Nat} {z : Int} (h : k < M.length) (hs : SAt M k z) :
    (M[k].fix = true → SAt M (k + 1) z) ∧ (M[k].fix = false → z = -1 → SAt M (k + 1) (k : Int)) ∧
    (∀ f (hf : f < M.length), z = (f : Int) → M[k].fix = false → ((M[k].at_ < M[f].at_ ∨ (M[k].at_ = M[f].at_ ∧ M[k].key < M[f].key)) → SAt M (k + 1) (k : Int)) ∧ (¬ (M[k].at_ < M[f].at_ ∨ (M[k].at_ = M[f].at_ ∧ M[k].key < M[f].key)) → SAt M (k + 1) z)) := by
  unfold SAt at hs ⊢
  rw [List.take_succ_eq_append_getElem h]
  generalize M.take k = N at hs ⊢
  refine ⟨fun hf => ?_, fun hf hz => ?_, fun f hfl hz hf => ⟨fun hl => ?_, fun hl => ?_⟩⟩
  · rcases hs with ⟨h1, h2⟩ | ⟨f, h1, h2, h3, h4, h5⟩
    · refine .inl ⟨h1, fun x hx => ?_⟩
      rcases List.mem_append.1 hx with hx | hx
      · exact h2 x hx
      · obtain rfl : x = M[k] := by simpa using hx
        exact hf
    · refine .inr ⟨f, h1, h2, by simp [h3], h4, fun x hx hxf => ?_⟩
      rcases List.mem_append.1 hx with hx | hx
      · exact h5 x hx hxf
      · obtain rfl : x = M[k] := by simpa using hx
        rw [hf] at hxf; cases hxf
  · rcases hs with ⟨h1, h2⟩ | ⟨f, h1, h2, _⟩
    · refine .inr ⟨k, h, rfl, by simp, hf, fun x hx hxf => ?_⟩
      rcases List.mem_append.1 hx with hx | hx
      · rw [h2 x hx] at hxf; cases hxf
      · obtain rfl : x = M[k] := by simpa using hx
        exact .inr ⟨rfl, Int.le_refl _⟩
    · omega
  · rcases hs with ⟨h1, h2⟩ | ⟨f', h1, h2, h3, h4, h5⟩
    · omega
    · obtain rfl : f' = f := by omega
      refine .inr ⟨k, h, rfl, by simp, hf, fun x hx hxf => ?_⟩
      rcases List.mem_append.1 hx with hx | hx
      · have := h5 x hx hxf
        omega
      · obtain rfl : x = M[k] := by simpa using hx
        exact .inr ⟨rfl, Int.le_refl _⟩
  · rcases hs with ⟨h1, h2⟩ | ⟨f', h1, h2, h3, h4, h5⟩
    · omega
    · obtain rfl : f' = f := by omega
      refine .inr ⟨f', h1, h2, by simp [h3], h4, fun x hx hxf => ?_⟩
      rcases List.mem_append.1 hx with hx | hx
      · exact h5 x hx hxf
      · obtain rfl : x = M[k] := by simpa using hx
        omega
/-- what spare leaves -/
def Spared (room : Int) (M : List Ent) (b : Bool) (M' : List Ent) : Prop :=
  (b = true ∧ M' = M ∧ (M.length : Int) < room) ∨ (b = false ∧ M' = M ∧ ¬ (M.length : Int) < room ∧ ∀ x ∈ M, x.fix = true) ∨ (b = true ∧ ¬ (M.length : Int) < room ∧ ∃ A c D, M = A ++ c :: D ∧ M' = A ++ D ∧ Least M c)
end Go.Proofs.YtljhgehlaehgnaaGreatDoor
namespace Go.Proofs.YtljhgehlaehgnaaGreatDoor

theorem perm_look {L M : List Ent} (hs : Srt L) (hp : L.Perm M) (k : Int) : look M k = look L k := by
  cases h : look L k with
  | none =>
    rw [look_none_iff] at h ⊢
    exact fun x hx => h x (hp.mem_iff.2 hx)
  | some x =>
    obtain ⟨h1, h2⟩ := (look_iff hs).1 h
    cases h' : look M k with
    | none => exact absurd h2 (look_none_iff.1 h' x (hp.mem_iff.1 h1))
    | some y =>
      have h3 := hp.mem_iff.2 (look_mem h')
      have h4 := look_key h'
      rw [srt_key hs h3 h1 (by omega)]
theorem perm_kept {L M : List Ent} (hp : L.Perm M) (p : Ent → Bool) : (kept p L).Perm (kept p M) := hp.filter _
theorem perm_exp {L M : List Ent} (hp : L.Perm M) (life now : Int) : (expP life now L).Perm (expP life now M) := by
  unfold expP
  cases timeB now with
  | true => exact perm_kept hp _
  | false => exact hp
theorem perm_ins_new {L M : List Ent} {x : Ent} (hs : Srt L) (hp : L.Perm M) (hn : look L x.key = none) : (ins x L).Perm (M ++ [x]) := by
  obtain ⟨A, B, rfl, hA, hB⟩ := look_none hs hn
  rw [ins_new hA hB]
  exact (List.perm_middle.trans (hp.cons x)).trans (List.perm_append_singleton x M).symm
theorem perm_split {L A D : List Ent} {x : Ent} {k : Int} (hs : Srt L) (hp : L.Perm (A ++ x :: D)) (hk : x.key = k) : ∃ A' D', L = A' ++ x :: D' ∧ (∀ y ∈ A', y.key < k) ∧ (∀ y ∈ D', k < y.key) ∧ (A' ++ D').Perm (A ++ D) ∧ look L k = some x := by
  have hx : x ∈ L := hp.mem_iff.2 (by simp)
  have hl := (look_iff hs).2 ⟨hx, hk⟩
  obtain ⟨A', D', h1, h2, h3, h4⟩ := look_some hs hl
  refine ⟨A', D', h1, h3, h4, ?_, hl⟩
  rw [h1] at hp
  exact ((List.perm_middle.symm.trans hp).trans List.perm_middle).cons_inv
theorem perm_ins_old {L A D : List Ent} {x y : Ent} (hs : Srt L) (hp : L.Perm (A ++ y :: D)) (hk : y.key = x.key) : (ins x L).Perm (A ++ x :: D) := by
  obtain ⟨A', D', rfl, hA, _, hpp, _⟩ := perm_split hs hp hk
  rw [ins_old hk hA]
  exact (List.perm_middle.trans (hpp.cons x)).trans List.perm_middle.symm
theorem perm_del {L A D : List Ent} {y : Ent} {k : Int} (hs : Srt L) (hp : L.Perm (A ++ y :: D)) (hk : y.key = k) : (del L k).Perm (A ++ D) := by
  obtain ⟨A', D', rfl, hA, hD, hpp, _⟩ := perm_split hs hp hk
  rw [del_at hk hA hD]
  exact hpp
theorem Least.perm {L M : List Ent} {c : Ent} (h : Least L c) (hp : L.Perm M) : Least M c := ⟨hp.mem_iff.1 h.1, h.2.1, fun x hx => h.2.2 x (hp.mem_iff.2 hx)⟩
theorem Spared.mem {room : Int} {M M' : List Ent} {b : Bool} (h : Spared room M b M') : ∀ x ∈ M', x ∈ M := by
  rcases h with ⟨_, rfl, _⟩ | ⟨_, rfl, _⟩ | ⟨_, _, A, c, D, rfl, rfl, _⟩
  · exact fun _ h => h
  · exact fun _ h => h
  · intro x hx
    simp at hx ⊢
    rcases hx with h | h <;> simp [h]
theorem Spared.len {room : Int} {M M' : List Ent} (h : Spared room M true M') (hf : (M.length : Int) ≤ room) : (M'.length : Int) < room := by
  rcases h with ⟨_, rfl, h⟩ | ⟨h, _⟩ | ⟨_, _, A, c, D, rfl, rfl, _⟩
  · exact h
  · cases h
  · simp at hf ⊢
    omega
theorem Spared.perm {room : Int} {L M M' : List Ent} {b : Bool} (h : Spared room M b M') (hs : Srt L) (hp : L.Perm M) :
    (b = true ∧ ∃ L1, roomed room L = some L1 ∧ L1.Perm M' ∧ Srt L1) ∨ (b = false ∧ roomed room L = none ∧ M' = M) := by
  have hl := hp.length_eq
  unfold roomed
  rcases h with ⟨rfl, rfl, h⟩ | ⟨rfl, rfl, h, hall⟩ | ⟨rfl, h, A, c, D, rfl, rfl, hc⟩
  · rw [if_pos (by omega)]
    exact .inl ⟨rfl, L, rfl, hp, hs⟩
  · rw [if_neg (by omega)]
    cases ho : oldest L with
    | none => exact .inr ⟨rfl, rfl, rfl⟩
    | some b =>
      obtain ⟨h1, h2⟩ := oldest_mem ho
      rw [hall b (hp.mem_iff.1 h1)] at h2
      cases h2
  · rw [if_neg (by omega)]
    cases ho : oldest L with
    | none =>
      have := oldest_none hs ho c (hp.mem_iff.2 hc.1)
      rw [hc.2.1] at this
      cases this
    | some b =>
      have hk := least_key ((oldest_least hs ho).perm hp) hc
      exact .inl ⟨rfl, _, rfl, perm_del hs hp hk.symm, hs.filter _⟩
theorem uniq_srt {L : List Ent} (h : Srt L) : Uniq L := h.imp fun h => Int.ne_of_lt h
theorem uniq_perm {L M : List Ent} (h : Uniq L) (hp : L.Perm M) : Uniq M := hp.pairwise h (fun h => fun e => h e.symm)
theorem uniq_add {M : List Ent} {x : Ent} (h : Uniq M) (hn : ∀ y ∈ M, y.key ≠ x.key) : Uniq (M ++ [x]) :=
  List.pairwise_append.2 ⟨h, by simp, fun a ha b hb => by obtain rfl : b = x := by simpa using hb
                                                          exact hn a ha⟩
theorem uniq_put {A D : List Ent} {x y : Ent} (h : Uniq (A ++ y :: D)) (hk : y.key = x.key) : Uniq (A ++ x :: D) := by
  have h1 := List.pairwise_append.1 h
  have h2 := List.pairwise_cons.1 h1.2.1
  refine List.pairwise_append.2 ⟨h1.1, List.pairwise_cons.2 ⟨fun b hb => by rw [← hk]; exact h2.1 b hb, h2.2⟩, fun a ha b hb => ?_⟩
  rcases List.mem_cons.1 hb with rfl | hb
  · rw [← hk]; exact h1.2.2 a ha y (by simp)
  · exact h1.2.2 a ha b (by simp [hb])
theorem oks_put {A D : List Ent} {x y : Ent} (h : Oks (A ++ y :: D)) (hx : x.ok) : Oks (A ++ x :: D) := by
  intro e he
  simp at he
  rcases he with h1 | rfl | h1
  · exact h e (by simp [h1])
  · exact hx
  · exact h e (by simp [h1])
theorem oks_add {M : List Ent} {x : Ent} (h : Oks M) (hx : x.ok) : Oks (M ++ [x]) := by
  intro e he
  simp at he
  rcases he with h1 | rfl
  · exact h e h1
  · exact hx
/-- an answer, and what is left: as by rising keys -/
theorem noted_spared {room : Int} {L M M' : List Ent} {b : Bool} {x : Ent} (hs : Srt L) (hp : L.Perm M) (hn : look L x.key = none) (h : Spared room M b M') :
    (b = true ∧ errFull (noted room L x) = 0 ∧ ((noted room L x).getD L).Perm (M' ++ [x])) ∨ (b = false ∧ errFull (noted room L x) = 101 ∧ ((noted room L x).getD L).Perm M') := by
  unfold noted
  rw [hn]
  rcases h.perm hs hp with ⟨rfl, L1, h1, h2, h3⟩ | ⟨rfl, h1, rfl⟩
  · refine .inl ⟨rfl, by simp [h1, errFull], ?_⟩
    simp only [h1, Option.map_some, Option.getD_some]
    refine perm_ins_new h3 h2 ?_
    rw [look_none_iff]
    intro y hy
    have hM := h.mem y (h2.mem_iff.1 hy)
    exact look_none_iff.1 hn y (hp.mem_iff.2 hM)
  · exact .inr ⟨rfl, by simp [h1, errFull], by simpa [h1] using hp⟩
end Go.Proofs.YtljhgehlaehgnaaGreatDoor
namespace Go.Proofs.YtljhgehlaehgnaaGreatDoor
open Go.RowKit Go.Sort

theorem tells_mono {B B' : Nat} {w : World} {v : Value} {L : List Ent} (h : Tells B w v L) (hb : B' ≤ B) : Tells B' w v L := by
  obtain ⟨hl, hx | ⟨k, cap, cur, hv, h1, hrest⟩⟩ := h
  · exact ⟨hl, .inl hx⟩
  · exact ⟨hl, .inr ⟨k, cap, cur, hv, by omega, hrest⟩⟩
/-- an entry appended to a table's row -/
theorem wp_add {ops : Array Oper} {rest : List Oper} {o : Oper} {a : Act} {Q : Exit → Act → World → Prop} (hgd : o.guard = none) (s x : Operand)
    (ho : o.op = .call { callee := .builtin .append, args := #[s, x], argTypes := #[43, 43] }) (B : Nat) (W : World) (v : Value) (n : Nat) (M : List Ent) (E : Ent) (hn : M.length = n) (hs : a.eval s = v) (hown : Tells B W v M) (hB : B ≤ W.heap.size)
    (hx : a.eval x = .slice (some ⟨W.heap.size, 0, none⟩) 1 1) (hl : n ≤ 4096)
    (h : ∀ r c W', Hid ((W.alloc (.cells #[.int .u64 E.key, .int .u64 E.val, .int .i64 E.at_, .bool E.fix] 73)).grownBy W' v.ownBlock ∧ Tells B W' (.slice (some ⟨r, 0, none⟩) (n + 1) c) (M ++ [E]) ∧ Nb W v.ownBlock (some r)) → wpList Tryz.prog ops Q rest (a.put o.dst (.slice (some ⟨r, 0, none⟩) (n + 1) c)) W') :
    wpList Tryz.prog ops Q (o :: rest) a (W.alloc (.cells #[.int .u64 E.key, .int .u64 E.val, .int .i64 E.at_, .bool E.fix] 73)) := by
  obtain ⟨i0, hi0, hz0, hz1, hz2⟩ := info_parts Tryz.infoEntry
  subst hn
  have hb := alloc_below W (.cells #[.int .u64 E.key, .int .u64 E.val, .int .i64 E.at_, .bool E.fix] 73)
  have hown' := owns_below hown hb
  refine wpList_append_own_at _ hgd s x 43 ho B 73 i0 _ 4 32 Tryz.underlying43 hi0 hz0 hz1 hz2 rfl (by decide) v M.length (cs M) hs hown' ⟨W.heap.size, 0, none⟩ 1 1 E.cs hx rfl (src4e W E) (cs4_one E) (by unfold maxLen; omega) (by omega) (Nat.le_trans hB hb.size) ?_
  intro v' w' ho' hg hnil hat
  obtain ⟨r, c, rfl⟩ := tells_shape ho' (fun e => by have := (hnil.1 e).2; omega)
  refine h r c w' ⟨hg, ?_, ?_⟩
  · show World.ownsRow _ _ _ _ _ _ _
    rw [List.length_append, cs_append, cs_one]
    exact ho'
  · rcases hat with hat | hat
    · exact .inl hat
    · refine .inr fun k hk => ?_
      rw [show (Value.slice (some ⟨r, 0, none⟩) (M.length + 1) c).ownBlock = some r from rfl] at hat
      rw [hat] at hk
      have e := Option.some.inj hk
      simp at e
      omega
/-- four cells of the row, behind a struct's store -/
theorem erow_put {w : World} {r : Nat} {A D : List Ent} {x y : Ent} {R : List Value} (h : w.heap[r]? = some (.cells (cs (A ++ y :: D) ++ R).toArray 73 (0, 0))) :
    ((((w.setCell ⟨r, A.length * 4, none⟩ (.int .u64 x.key)).setCell ⟨r, A.length * 4 + 1, none⟩ (.int .u64 x.val)).setCell ⟨r, A.length * 4 + 2, none⟩ (.int .i64 x.at_)).setCell ⟨r, A.length * 4 + 3, none⟩ (.bool x.fix)).heap[r]? = some (.cells (cs (A ++ x :: D) ++ R).toArray 73 (0, 0)) := by
  have h' : w.heap[r]? = some (.cells (cs A ++ .int .u64 y.key :: .int .u64 y.val :: .int .i64 y.at_ :: .bool y.fix :: (cs D ++ R)).toArray 73 (0, 0)) := by
    rw [h, cs_append, cs_cons]; simp [Ent.cs]
  rw [put4 (cs_length A) h', cs_append, cs_cons]
  simp [Ent.cs]
theorem erow_cells {w : World} {r : Nat} {A D : List Ent} {y : Ent} {R : List Value} (h : w.heap[r]? = some (.cells (cs (A ++ y :: D) ++ R).toArray 73 (0, 0))) :
    w.cell? ⟨r, A.length * 4, none⟩ = some (.int .u64 y.key) ∧ w.cell? ⟨r, A.length * 4 + 1, none⟩ = some (.int .u64 y.val) ∧ w.cell? ⟨r, A.length * 4 + 2, none⟩ = some (.int .i64 y.at_) ∧ w.cell? ⟨r, A.length * 4 + 3, none⟩ = some (.bool y.fix) ∧
    w.frozen? ⟨r, A.length * 4, none⟩ = false ∧ w.frozen? ⟨r, A.length * 4 + 1, none⟩ = false ∧ w.frozen? ⟨r, A.length * 4 + 2, none⟩ = false ∧ w.frozen? ⟨r, A.length * 4 + 3, none⟩ = false := by
  refine mid4 (t := 73) (X := cs A) (Z := cs D ++ R) (cs_length A) ?_
  rw [h, cs_append, cs_cons]; simp [Ent.cs]
end Go.Proofs.YtljhgehlaehgnaaGreatDoor
namespace Go.Proofs.YtljhgehlaehgnaaGreatDoor
open Go.RowKit Go.Sort

/-- room made, and one more noted, or none -/
def Added (room : Int) (M : List Ent) (x : Ent) (c : Int) (M' : List Ent) : Prop := ∃ b M2, Spared room M b M2 ∧ ((b = true ∧ c = 0 ∧ M' = M2 ++ [x]) ∨ (b = false ∧ c = 101 ∧ M' = M2))
theorem added_noted {room : Int} {L M M' : List Ent} {x : Ent} {c : Int} (hs : Srt L) (hp : L.Perm M) (hn : look L x.key = none) (h : Added room M x c M') : c = errFull (noted room L x) ∧ ((noted room L x).getD L).Perm M' := by
  obtain ⟨b, M2, hsp, h⟩ := h
  rcases noted_spared hs hp hn hsp with ⟨rfl, h1, h2⟩ | ⟨rfl, h1, h2⟩
  · rcases h with ⟨_, rfl, rfl⟩ | ⟨h, _⟩
    · exact ⟨h1.symm, h2⟩
    · cases h
  · rcases h with ⟨h, _⟩ | ⟨_, rfl, rfl⟩
    · cases h
    · exact ⟨h1.symm, h2⟩
end Go.Proofs.YtljhgehlaehgnaaGreatDoor
namespace Go.Proofs.YtljhgehlaehgnaaGreatDoor
open Go.RowKit Go.Sort

theorem differ_entry (a b c : Int) (f : Bool) (W : World) : (binOp .neq 73 (.agg #[.int .u64 a, .int .u64 b, .int .i64 c, .bool f]) (.agg #[.int .u64 a, .int .u64 b, .int .i64 c, .bool f])).run Tryz.prog W = .ok (.bool false) W := by
  rw [run_neq_struct, run_equalIn_agg _ _ _ _ _ fieldsEntry heldEntry]
  simp [go_sem, Tryz.underlying73]
set_option maxHeartbeats 1000000 in
set_option maxRecDepth 100000 in
theorem rsame_any (L : List Ent) (ao bo : Option Addr) (n c d : Nat) (w : World) (ha : Rrow w ao n L) (hb : Rrow w bo n L) (hn : n ≤ 4096) :
    Calls Tryz.prog 10 #[.slice ao n c, .slice bo n d] w fun e w' => e = .returned (.bool true) ∧ Below w.heap.size w w' := by
  have HA := hide ha
  have HB := hide hb
  clear ha hb
  go_enter Tryz.func10, Tryz.ntmps10
  go_wp2_with fail
  go_loopw [5] (fun a wr => ∃ k : Nat, a = .int .i64 k ∧ k ≤ n ∧ Below w.heap.size w wr) (fun a _ => n - (intOf a).toNat)
  case atStart => exact ⟨0, rfl, Nat.zero_le _, Below.refl _ _⟩
  case round =>
    obtain ⟨k, rfl, hkl, hbl⟩ := hrel
    by_cases hlt : k < n
    · obtain ⟨r1, rfl, hr1, hp1⟩ := ((unhide HA).below hbl).2 (by omega)
      obtain ⟨r2, rfl, hr2, hp2⟩ := ((unhide HB).below hbl).2 (by omega)
      have hkl2 : k < L.length := by rw [(unhide HA).1]; exact hlt
      have e0 := hp1.at0 k hkl2
      have e1 := hp1.at1 k hkl2
      have e2 := hp1.at2 k hkl2
      have e3 := hp1.at3 k hkl2
      have f0 := hp2.at0 k hkl2
      have f1 := hp2.at1 k hkl2
      have f2 := hp2.at2 k hkl2
      have f3 := hp2.at3 k hkl2
      have HBL := hide hbl
      clear hp1 hp2 hbl
      generalize L[k] = E at *
      have NE := fun W => differ_entry E.key E.val E.at_ E.fix W
      have hki : (k : Int) < (n : Int) := by omega
      go_wp2_with fail
      go_quiet (fail)
      go_wp2_with fail
      go_roundw
      case rel => exact ⟨k + 1, by go_num, by omega, drewN_below (unhide HBL) _⟩
      case measure => simp [intOf]; omega
    · go_wp2_with fail
      go_ret
      exact ⟨rfl, hbl⟩
end Go.Proofs.YtljhgehlaehgnaaGreatDoor
namespace Go.Proofs.YtljhgehlaehgnaaGreatDoor
open Go.RowKit Go.Sort

/-- a step of the inner loop: an entry laid ahead of the first one with a greater key -/
def stepI (e : Ent) (p : List Ent × Bool) (x : Ent) : List Ent × Bool := if !p.2 && decide (e.key < x.key) then (p.1 ++ [e] ++ [x], true) else (p.1 ++ [x], p.2)
/-- an entry put in -/
def insI (e : Ent) (S : List Ent) : List Ent := let p := S.foldl (stepI e) ([], false); if p.2 then p.1 else p.1 ++ [e]
theorem fold_low (e : Ent) : ∀ (A N : List Ent), (∀ y ∈ A, y.key < e.key) → A.foldl (stepI e) (N, false) = (N ++ A, false)
  | [], N, _ => by simp
  | a :: A, N, h => by
    have ha := h a (by simp)
    have hs : stepI e (N, false) a = (N ++ [a], false) := by
      unfold stepI
      rw [if_neg]
      simp; omega
    rw [List.foldl_cons, hs, fold_low e A _ (fun y hy => h y (by simp [hy]))]
    simp
theorem fold_high (e : Ent) : ∀ (A N : List Ent), A.foldl (stepI e) (N, true) = (N ++ A, true)
  | [], N => by simp
  | a :: A, N => by
    rw [List.foldl_cons, show stepI e (N, true) a = (N ++ [a], true) by simp [stepI], fold_high e A]
    simp
theorem insI_ins {S : List Ent} {e : Ent} (hs : Srt S) (hn : look S e.key = none) : insI e S = ins e S := by
  obtain ⟨A, B, rfl, hA, hB⟩ := look_none hs hn
  rw [ins_new hA hB]
  unfold insI
  rw [List.foldl_append, fold_low e A [] hA]
  cases B with
  | nil => simp
  | cons b B =>
    have hb := hB b (by simp)
    rw [List.foldl_cons, show stepI e ([] ++ A, false) b = (A ++ [e] ++ [b], true) by simp [stepI, hb], fold_high]
    simp
/-- all entries, put in one by one -/
def insAll (M : List Ent) : List Ent := M.foldl (fun S e => insI e S) []
theorem insAll_fold : ∀ (M S : List Ent), Srt S → Uniq (S ++ M) → Srt (M.foldl (fun S e => insI e S) S) ∧ (M.foldl (fun S e => insI e S) S).Perm (S ++ M)
  | [], S, hs, _ => by simpa using hs
  | e :: M, S, hs, hu => by
    have hn : look S e.key = none := look_none_iff.2 fun y hy => (List.pairwise_append.1 hu).2.2 y hy e (by simp)
    rw [List.foldl_cons, insI_ins hs hn]
    have hp : (ins e S).Perm (S ++ [e]) := perm_ins_new hs (List.Perm.refl _) hn
    have hq : (ins e S ++ M).Perm (S ++ e :: M) := by
      have := hp.append_right M
      simpa using this
    obtain ⟨h1, h2⟩ := insAll_fold M (ins e S) (hs.ins e) (uniq_perm hu hq.symm)
    exact ⟨h1, h2.trans hq⟩
theorem insAll_eq {L M : List Ent} (hs : Srt L) (hp : L.Perm M) : insAll M = L := by
  obtain ⟨h1, h2⟩ := insAll_fold M [] List.Pairwise.nil (by simpa using uniq_perm (uniq_srt hs) hp)
  have h3 : Srt (insAll M) := h1
  have h4 : (insAll M).Perm M := h2
  refine List.Perm.eq_of_pairwise (le := fun (a b : Ent) => a.key < b.key) ?_ h3 hs (h4.trans hp.symm)
  intro a b _ _ h h'
  exact absurd h (by omega)
theorem insAll_take (M : List Ent) (k : Nat) (h : k < M.length) : insAll (M.take (k + 1)) = insI M[k] (insAll (M.take k)) := by
  unfold insAll
  rw [List.take_succ_eq_append_getElem h, List.foldl_append]; rfl
theorem fold_take (e : Ent) (N : List Ent) (q : Nat) (h : q < N.length) : (N.take (q + 1)).foldl (stepI e) ([], false) = stepI e ((N.take q).foldl (stepI e) ([], false)) N[q] := by
  rw [List.take_succ_eq_append_getElem h, List.foldl_append]; rfl
theorem fold_len (e : Ent) : ∀ (N : List Ent) (p : List Ent × Bool), (N.foldl (stepI e) p).1.length ≤ p.1.length + N.length + 1 ∧ ((N.foldl (stepI e) p).2 = false → (N.foldl (stepI e) p).1.length ≤ p.1.length + N.length) ∧ (p.2 = true → (N.foldl (stepI e) p).1.length ≤ p.1.length + N.length)
  | [], p => by simp
  | x :: N, p => by
    rw [List.foldl_cons]
    obtain ⟨h1, h2, h3⟩ := fold_len e N (stepI e p x)
    obtain ⟨X, b⟩ := p
    cases b with
    | true =>
      rw [show stepI e (X, true) x = (X ++ [x], true) by simp [stepI]] at h1 h2 h3 ⊢
      have h3 := h3 rfl
      simp at h1 h2 h3 ⊢
      omega
    | false =>
      by_cases hx : e.key < x.key
      · rw [show stepI e (X, false) x = (X ++ [e] ++ [x], true) by simp [stepI, hx]] at h1 h2 h3 ⊢
        have h3 := h3 rfl
        rw [fold_high] at h1 h2 h3 ⊢
        simp at h1 h2 h3 ⊢
        omega
      · rw [show stepI e (X, false) x = (X ++ [x], false) by simp [stepI, hx]] at h1 h2 h3 ⊢
        simp at h1 h2 h3 ⊢
        refine ⟨by omega, fun h => ?_⟩
        have := h2 h
        omega
theorem acc_up {w wr W : World} {V : Value} {N : List Ent} (b : Below w.heap.size w wr) (h : Acc wr W V N) : Acc w W V N := ⟨tells_mono h.1 b.size, bthen b h.2⟩
end Go.Proofs.YtljhgehlaehgnaaGreatDoor
