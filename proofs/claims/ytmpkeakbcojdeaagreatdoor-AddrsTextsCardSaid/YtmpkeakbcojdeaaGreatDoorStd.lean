/-
  What the program's calls into Go's library answer: strconv.Itoa and FormatUint of a byte, strconv.ParseUint of 8 bits; what they ask of the world.
-/
import Derived.Test.YtmpkeakbcojdeaaGreatDoorShelf2
import Derived.Test.YtmpkeakbcojdeaaGreatDoorTexts
import Derived.Test.YtmpkeakbcojdeaaGreatDoorInfo
import Derived.Lib.ItoaMem
import Derived.Lib.SlicesS
import Derived.Lib.AtoiErrMem
namespace Go.Proofs.YtmpkeakbcojdeaaGreatDoor
open Go.RowKit Go.Sort

/-- the cells of a package's variable -/
def held (g : Nat) (w : World) : Option (Array Value) := match w.heap[g]? with | some (Obj.cells cs _ _) => some cs | _ => none
theorem held_below {g : Nat} {w w' : World} {cs : Array Value} (h : held g w = some cs) (hb : Below w.heap.size w w') : held g w' = some cs := by
  have hg : g < w.heap.size := by
    rcases Nat.lt_or_ge g w.heap.size with h' | h'
    · exact h'
    · unfold held at h; rw [Array.getElem?_eq_none h'] at h; cases h
  unfold held at h ⊢
  rw [hb.block g hg]; exact h
theorem var_of_held {P : Program} {g : Nat} {w : World} {n : String} {cs : Array Value} (hn : P.globalNamed n = some g) (h : held g w = some cs) : w.var? P n = some cs := by
  unfold World.var?
  rw [hn]
  exact h
theorem held_of_var {P : Program} {g : Nat} {w : World} {n : String} {cs : Array Value} (hn : P.globalNamed n = some g) (h : w.var? P n = some cs) : held g w = some cs := by
  unfold World.var? at h
  rw [hn] at h
  exact h
/-- an error's variable holds an interface value -/
def Ev (g : Nat) (w : World) : Prop := ∃ u v, held g w = some #[.iface u v]
/-- what the library's code asks of its variables -/
structure St (w : World) : Prop where
  et : Et w
  syn : Ev 1 w
  rng : Ev 2 w
  tab : held 3 w = some (Lib.pow10Tab.map fun z => Value.int .u64 z).toArray
  most : ∃ m, w.cell? ⟨4, 0, none⟩ = some (.int .i64 m)
theorem Ev.below {g : Nat} {w w' : World} (h : Ev g w) (hb : Below w.heap.size w w') : Ev g w' := by
  obtain ⟨u, v, h1⟩ := h
  exact ⟨u, v, held_below h1 hb⟩
theorem St.next {w w' : World} (h : St w) (hb : Below w.heap.size w w') : St w' := by
  refine ⟨h.et.next hb, h.syn.below hb, h.rng.below hb, held_below h.tab hb, ?_⟩
  obtain ⟨m, hm⟩ := h.most
  exact ⟨m, by rw [hb.cell (block_lt_of_cell hm)]; exact hm⟩
theorem below_draws (w : World) (k : Nat) (os : Array Obj) : Below w.heap.size w (grow (w.drewN k) os) :=
  ⟨rfl, rfl, rfl, by simp [grow, World.drewN], fun j hj => by simp [grow, World.drewN, Array.getElem?_append, hj]⟩

theorem itoa_ok (n : Nat) (w : World) (hs : St w) (hn : n < 256) :
    Calls Tryz.prog 41 #[.int .i64 n] w fun e w' => e = .returned (.string (bs (Lib.decDigits n))) ∧ Below w.heap.size w w' := by
  refine (Any.strconv_Itoa lib_laysM171 n (by omega) (by omega) w ?_).mono ?_
  · exact var_of_held (g := 3) (by kernel_rfl) hs.tab
  · rintro e w' ⟨rfl, k, os, rfl⟩
    exact ⟨by rw [Lib.itoa_nonneg]; rfl, below_draws w k os⟩
theorem digits_ok (n : Nat) (w : World) (hs : St w) (h1 : 1 ≤ n) (hn : n < 256) :
    Calls Tryz.prog 83 #[.int .u64 n] w fun e w' => e = .returned (.int .i64 (Lib.nDigits n)) ∧ w' = w := by
  refine Any.internal_strconv_numDigits lib_laysM284 n h1 (by omega) w ?_
  exact var_of_held (g := 3) (by kernel_rfl) hs.tab
theorem fmt_small (n : Nat) (w : World) (hn : n < 100) :
    Calls Tryz.prog 64 #[.int .u64 n, .int .i64 10] w fun e w' => e = .returned (.string (bs (Lib.decDigits n))) ∧ Below w.heap.size w w' := by
  go_enter Tryz.func64, Tryz.ntmps64
  go_wp2_with (go_at_call 82; refine (lib_internal_strconv_small n hn _).mono ?_; rintro e w' ⟨rfl, rfl⟩)
  go_ret
  exact ⟨rfl, Below.refl _ _⟩
theorem three_digits (n : Nat) (h : ¬ n < 100) (h2 : n < 256) : Lib.nDigits n = 3 := by
  have e := Lib.decDigits_length n
  rw [dec_three n h (by omega)] at e
  exact e.symm
theorem holds_new (w : World) (T : TypeId) : Holds (fun (b : UInt8) => Value.int .u8 (b.toNat : Int)) (w.alloc (.cells Lib.zeros24 T)) w.heap.size 0 (Array.replicate 3 (0 : UInt8)) := fun j hj => by
  have hj' : j < 3 := by simpa using hj
  refine ⟨?_, World.frozen?_alloc_new _ _ _ _⟩
  rw [World.cell?_alloc_new, Lib.zeros24_at _ (by omega), getElem!_pos _ j hj]
  simp
theorem row_new (w : World) (o : Obj) (dk : Array UInt8) (k : Nat) : Below w.heap.size w ((putRow (fun (b : UInt8) => Value.int .u8 (b.toNat : Int)) (w.alloc o) w.heap.size 0 dk).drewN k) := by
  rw [alloc_eq_grow]
  obtain ⟨os', _, e⟩ := putRow_grow_new (fun (b : UInt8) => Value.int .u8 (b.toNat : Int)) w #[o] w.heap.size 0 dk (Nat.le_refl _)
  rw [e]
  exact below_draws w k os'
set_option maxRecDepth 100000 in
theorem fmt_three (n : Nat) (w : World) (hs : St w) (h : ¬ n < 100) (hn : n < 256) :
    Calls Tryz.prog 64 #[.int .u64 n, .int .i64 10] w fun e w' => e = .returned (.string (bs (Lib.decDigits n))) ∧ Below w.heap.size w w' := by
  have h3 := three_digits n h hn
  have hg : (100 : Int) ≤ (n : Int) := by omega
  have hal : Tryz.prog.arrayLen 110 = 24 := by kernel_rfl
  have hsl : ∀ W, (Instr.sliceAt 110 (.pointer (some ⟨w.heap.size, 0, none⟩)) none (some (.int .i64 3)) none).run Tryz.prog W = .ok (.slice (some ⟨w.heap.size, 0, none⟩) 3 24) W := fun W => by
    rw [run_sliceAt_array_h W 110 ⟨w.heap.size, 0, none⟩ (by kernel_rfl) .i64 3 (by omega) (by rw [hal]; omega), hal]
    rfl
  have hd := digits_ok n (w.alloc (.cells Lib.zeros24 110)) (hs.next ((Below.refl w.heap.size w).alloc (Nat.le_refl _) _)) (by omega) hn
  rw [h3] at hd
  have hf := lib_internal_strconv_formatBase10 w.heap.size 0 24 n (Array.replicate 3 0) (w.alloc (.cells Lib.zeros24 110)) (holds_new w _) (by simp; omega) (by omega) (by simp)
  rw [Array.size_replicate] at hf
  go_enter Tryz.func64, Tryz.ntmps64
  go_wp2_with fail
  refine hd.mono ?_
  rintro e w1 ⟨rfl, rfl⟩
  go_wp2_with fail
  refine hf.mono ?_
  rintro e w2 ⟨rfl, k, v', dk, rfl, hF⟩
  have hcv : (convert 62 9 (.slice (some ⟨w.heap.size, 0, none⟩) 3 24)).run Tryz.prog ((putRow (fun (b : UInt8) => Value.int .u8 (b.toNat : Int)) (w.alloc (.cells Lib.zeros24 110)) w.heap.size 0 dk).drewN k) = .ok (.string (bs (Lib.decDigits n))) ((putRow (fun (b : UInt8) => Value.int .u8 (b.toNat : Int)) (w.alloc (.cells Lib.zeros24 110)) w.heap.size 0 dk).drewN k) := by
    have h' := run_convert_bytes_back (P := Tryz.prog) ((putRow (fun (b : UInt8) => Value.int .u8 (b.toNat : Int)) (w.alloc (.cells Lib.zeros24 110)) w.heap.size 0 dk).drewN k) 62 9 5 ⟨w.heap.size, 0, none⟩ 24 (Lib.decDigits n) Tryz.underlying62 Tryz.underlying5 Tryz.underlying9 (fun j hj => by
      rw [Lib.row_is_numeral (by rw [h3]; exact hF) j hj, Lib.add_plain, World.cell?_drewN]
      exact cell?_putRow (fun (b : UInt8) => Value.int .u8 (b.toNat : Int)) _ w.heap.size 0 _ dk (holds_new w _) (by rw [hF.size, Array.size_replicate]) j (by rw [hF.size]; rw [Lib.decDigits_length, h3] at hj; exact hj))
    rw [Lib.decDigits_length, h3] at h'
    exact h'
  have hb := row_new w (.cells Lib.zeros24 110) dk k
  generalize (putRow (fun (b : UInt8) => Value.int .u8 (b.toNat : Int)) (w.alloc (.cells Lib.zeros24 110)) w.heap.size 0 dk).drewN k = w3 at hcv hb ⊢
  go_wp2
  go_ret
  exact ⟨rfl, hb⟩
theorem fmt_ok (n : Nat) (w : World) (hs : St w) (hn : n < 256) :
    Calls Tryz.prog 52 #[.int .u64 n, .int .i64 10] w fun e w' => e = .returned (.string (bs (Lib.decDigits n))) ∧ Below w.heap.size w w' := by
  have hf : Calls Tryz.prog 64 #[.int .u64 n, .int .i64 10] w fun e w' => e = .returned (.string (bs (Lib.decDigits n))) ∧ Below w.heap.size w w' := by
    by_cases h : n < 100
    · exact fmt_small n w h
    · exact fmt_three n w hs h hn
  go_enter Tryz.func52, Tryz.ntmps52
  go_wp2_with fail
  refine hf.mono ?_
  rintro e w1 ⟨rfl, b1⟩
  go_wp2_with fail
  go_ret
  exact ⟨rfl, b1⟩

theorem parse_ok (s : ByteArray) (u : Nat) (w : World) (hs : s.size ≤ 281474976710656) (h : Lib.parseUintB 8 s.data.toList = .ok u) :
    Calls Tryz.prog 51 #[.string s, .int .i64 10, .int .i64 8] w fun e w' => e = .returned (.tuple #[.int .u64 u, .nilIface]) ∧ Below w.heap.size w w' := by
  refine (lib_strconv_ParseUint_10_at8_ok s (by omega) u h w).mono ?_
  rintro e w' ⟨rfl, rfl | rfl⟩
  · exact ⟨rfl, Below.refl _ _⟩
  · exact ⟨rfl, Lib.bytesWorld_below w 5 s⟩
theorem parse_bad (s : ByteArray) (w : World) (hw : St w) (hs : s.size ≤ 281474976710656) (h : ∀ u, Lib.parseUintB 8 s.data.toList ≠ .ok u) :
    Calls Tryz.prog 51 #[.string s, .int .i64 10, .int .i64 8] w fun e w' => ∃ (x : Int) (N : Nat), e = .returned (.tuple #[.int .u64 x, .iface 107 (.pointer (some ⟨N, 0, none⟩))]) ∧ Below w.heap.size w w' := by
  cases hp : Lib.parseUintB 8 s.data.toList
  · rename_i u
    exact absurd hp (h u)
  · obtain ⟨u, v, h1⟩ := hw.syn
    refine (Any.strconv_ParseUint_10_at8_syntax_var lib_laysPu14 s hs hp u v w (var_of_held (g := 1) (by kernel_rfl) h1)).mono ?_
    rintro e w' ⟨N, rfl, _, _, hb⟩
    exact ⟨0, N, rfl, hb⟩
  · obtain ⟨u, v, h1⟩ := hw.rng
    refine (Any.strconv_ParseUint_10_at8_range_var lib_laysPu14 s hs hp u v w (var_of_held (g := 2) (by kernel_rfl) h1)).mono ?_
    rintro e w' ⟨N, rfl, _, _, hb⟩
    exact ⟨255, N, rfl, hb⟩
/-- what addrs.small hands back -/
def tenV (o : Option UInt8) : Value := .tuple #[.int .u8 ((o.getD 0).toNat : Int), .bool o.isSome]
theorem tenV_none : tenV none = .tuple #[.int .u8 0, .bool false] := rfl
theorem tenV_some (c : UInt8) : tenV (some c) = .tuple #[.int .u8 (c.toNat : Int), .bool true] := rfl
theorem string_ne (a : List UInt8) (s : ByteArray) (h : a ≠ s.data.toList) : ((bs a).toList == s.toList) = false := (Lib.bytes_beq_false_iff _ _).2 fun e => h (by rw [← e, bs_toList])
theorem string_eq (a : List UInt8) (s : ByteArray) (h : a = s.data.toList) : bs a = s := by rw [h, bs_of]
theorem small_any (s : ByteArray) (w : World) (hw : St w) (hs : s.size ≤ 281474976710656) :
    Calls Tryz.prog 35 #[.string s] w fun e w' => e = .returned (tenV (tenOf s.data.toList)) ∧ Below w.heap.size w w' := by
  by_cases h : ∃ u, Lib.parseUintB 8 s.data.toList = .ok u
  · obtain ⟨u, hu⟩ := h
    have hu8 := parse_le _ u hu
    have hp := hide (parse_ok s u w hs hu)
    have hf := hide (fun w1 (b : Below w.heap.size w w1) => fmt_ok u w1 (hw.next b) (by omega))
    by_cases hd : Lib.decDigits u = s.data.toList
    · have ht : tenOf s.data.toList = some (UInt8.ofNat u) := by rw [tenOf, hu]; exact if_pos hd
      have he := string_eq _ s hd
      have hc : ((UInt8.ofNat u).toNat : Int) = (u : Int) := by rw [UInt8.toNat_ofNat_of_lt' (by show _ < 256; omega)]
      rw [ht, tenV_some, hc]
      clear hd ht hu
      go_enter Tryz.func35, Tryz.ntmps35
      go_wp2_with fail
      refine (unhide hp).mono ?_
      rintro e w1 ⟨rfl, b1⟩
      go_wp2_with fail
      refine (unhide hf w1 b1).mono ?_
      rw [he]
      rintro e w2 ⟨rfl, b2⟩
      go_wp2_with fail
      go_ret2
      exact ⟨rfl, bthen b1 b2⟩
    · have ht : tenOf s.data.toList = none := by rw [tenOf, hu]; exact if_neg hd
      have he := string_ne _ s hd
      rw [ht, tenV_none]
      clear hd ht hu
      generalize bs (Lib.decDigits u) = t at hf he
      go_enter Tryz.func35, Tryz.ntmps35
      go_wp2_with fail
      refine (unhide hp).mono ?_
      rintro e w1 ⟨rfl, b1⟩
      go_wp2_with fail
      refine (unhide hf w1 b1).mono ?_
      rintro e w2 ⟨rfl, b2⟩
      go_wp2_with fail
      go_ret2
      exact ⟨rfl, bthen b1 b2⟩
  · have ht : tenOf s.data.toList = none := by
      unfold tenOf
      split
      · rename_i v hv; exact absurd ⟨v, hv⟩ h
      · rfl
    have hp := hide (parse_bad s w hw hs (fun u e => h ⟨u, e⟩))
    rw [ht, tenV_none]
    clear ht h
    go_enter Tryz.func35, Tryz.ntmps35
    go_wp2_with fail
    refine (unhide hp).mono ?_
    rintro e w1 ⟨x, N, rfl, b1⟩
    go_wp2_with fail
    go_ret2
    exact ⟨rfl, b1⟩
end Go.Proofs.YtmpkeakbcojdeaaGreatDoor
