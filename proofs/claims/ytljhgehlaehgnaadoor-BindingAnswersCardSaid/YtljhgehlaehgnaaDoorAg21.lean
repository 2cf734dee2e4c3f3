/-
  The contract of Table's Entries: all entries, by rising keys, in memory of the call's own.
-/
import Derived.Test.YtljhgehlaehgnaaDoorAg20
namespace Go.Proofs.YtljhgehlaehgnaaDoor
open Go.RowKit Go.Sort

theorem Tryd.infoEntry : (Tryd.prog.info? 82).map (fun i => (i.zero, i.size, i.bytes)) = some (some (.agg #[.int .u64 0, .int .u64 0, .int .i64 0, .bool false]), 4, 32) := by kernel_rfl
/-- the entries that a slice owns, in memory from block B on -/
def Tells (B : Nat) (w : World) (v : Value) (L : List Ent) : Prop := w.ownsRow B 82 4 v L.length (cs L)
theorem owns_below {B : Nat} {e : TypeId} {s n : Nat} {xs : List Value} {w w' : World} {v : Value} (h : w.ownsRow B e s v n xs) (b : Below w.heap.size w w') : w'.ownsRow B e s v n xs := by
  obtain ⟨hl, hx | ⟨k, cap, cur, rfl, h1, h2, h3, h4, h5, h6⟩⟩ := h
  · exact ⟨hl, .inl hx⟩
  · exact ⟨hl, .inr ⟨k, cap, cur, rfl, h1, Below.row b h2, h3, h4, h5, h6⟩⟩
theorem src4e (w : World) (x : Ent) : ∀ j u, x.cs[j]? = some u → (w.alloc (.cells #[.int .u64 x.key, .int .u64 x.val, .int .i64 x.at_, .bool x.fix] 82)).cell? ((⟨w.heap.size, 0, none⟩ : Addr).add j) = some u := by
  intro j u hu
  rw [Addr.add_lit, Nat.zero_add, cell_of_row _ w.heap.size j _ _ _ (heap_alloc_new w _)]
  simpa [Ent.cs] using hu
theorem entries_nil (g : Nat) (room life : Int) (B : Nat) (w : World) (T : Tab B w g room life (.slice none 0 0) []) :
    Calls Tryd.prog 100 #[.pointer (some ⟨g, 0, none⟩)] w fun e w' => e = .returned (.slice (some ⟨w.heap.size, 0, none⟩) 0 0) ∧ Tells w.heap.size w' (.slice (some ⟨w.heap.size, 0, none⟩) 0 0) [] ∧ Below w.heap.size w w' := by
  obtain ⟨i0, hi0, hz0, hz1, hz2⟩ := info_parts Tryd.infoEntry
  have C := hide (size_any B [] (.slice none 0 0) g room life w T)
  have hgl := T.lt
  have hcx := T.cell
  clear T
  go_enter Tryd.func100, Tryd.ntmps100
  go_wp2_with (first | (go_at_call 47; refine (unhide C).mono ?_; rintro e w1 ⟨rfl, rfl⟩) | (at_make; refine wpList_make_own _ rfl _ _ 61 rfl w1.heap.size 82 i0 _ 4 Tryd.underlying61 hi0 hz0 hz1 _ _ _ 0 rfl rfl (by rfl) (by omega) (by unfold maxLen; omega) (Nat.le_refl _) ?_; intro w2 ho2 hg2; have hcx2 := (hg2.cell hcx (by simp)); have H2 := hide ho2; have G2 := hide hg2; clear ho2 hg2))
  refine wp_loop_rounds 1 ?_
  rw [rounds_succ]
  go_wp2
  go_ret
  exact ⟨rfl, unhide H2, (Below.refl _ _).grown (unhide G2) (Nat.le_refl _) (fun k hk => by cases hk)⟩
set_option maxHeartbeats 1000000 in
set_option maxRecDepth 100000 in
theorem entries_at (g r c n : Nat) (room life : Int) (B : Nat) (L : List Ent) (w : World) (T : Tab B w g room life (.slice (some ⟨r, 0, none⟩) L.length c) L) (hn : L.length = n) (hr : Prow w r L) :
    Calls Tryd.prog 100 #[.pointer (some ⟨g, 0, none⟩)] w fun e w' => e = .returned (.slice (some ⟨w.heap.size, 0, none⟩) n n) ∧ Tells w.heap.size w' (.slice (some ⟨w.heap.size, 0, none⟩) n n) L ∧ Below w.heap.size w w' := by
  obtain ⟨i0, hi0, hz0, hz1, hz2⟩ := info_parts Tryd.infoEntry
  have C := hide (size_any B L _ g room life w T)
  have hgl := T.lt
  have hcx := T.cell
  have hc := T.len
  have HR := hide hr
  have HN := hide hn
  rw [hn] at C hcx hc
  have CE := hide (fun (e : Ent) W => entry_any e.key e W)
  unfold Ent.st at CE
  clear T hr hn
  go_enter Tryd.func100, Tryd.ntmps100
  go_wp2_with (first | (go_at_call 47; refine (unhide C).mono ?_; rintro e w1 ⟨rfl, rfl⟩) | (at_make; refine wpList_make_own _ rfl _ _ 61 rfl w1.heap.size 82 i0 _ 4 Tryd.underlying61 hi0 hz0 hz1 _ _ _ n rfl rfl (by rfl) (by rw [hz2]; omega) (by unfold maxLen; omega) (Nat.le_refl _) ?_; intro w2 ho2 hg2; have hcx2 := (hg2.cell hcx (by simp)); have H2 := hide ho2; have G2 := hide hg2; clear ho2 hg2))
  go_loopw [3, 5, 17] (fun o _ a wr => ∃ k : Nat, a = .int .i64 k ∧ k ≤ n ∧ o = .slice (some ⟨w1.heap.size, 0, none⟩) k n ∧ wr.ownsRow w1.heap.size 82 4 (.slice (some ⟨w1.heap.size, 0, none⟩) k n) k (cs (L.take k)) ∧ Below w1.heap.size w1 wr) (fun _ _ a _ => n - (intOf a).toNat)
  case atStart => exact ⟨0, rfl, Nat.zero_le _, rfl, unhide H2, (Below.refl _ _).grown (unhide G2) (Nat.le_refl _) (fun k hk => by cases hk)⟩
  case round =>
    obtain ⟨k, rfl, hkn, rfl, hown, hb⟩ := hrel
    have HB := hide hb
    have HO := hide hown
    have hr1 := (unhide HR).below hb
    clear hb hown H2 G2 hcx2
    by_cases hlt : k < n
    · have hkl : k < L.length := by rw [unhide HN]; exact hlt
      have e0 := hr1.at0 k hkl
      have e1 := hr1.at1 k hkl
      have e2 := hr1.at2 k hkl
      have e3 := hr1.at3 k hkl
      have HT := hide (List.take_succ_eq_append_getElem hkl)
      clear hr1
      generalize L[k] = E at e0 e1 e2 e3 HT
      have b1 := alloc_below wr (.cells #[.int .u64 E.key, .int .u64 E.val, .int .i64 E.at_, .bool E.fix] 100)
      have C1 := hide (unhide CE E (wr.alloc (.cells #[.int .u64 E.key, .int .u64 E.val, .int .i64 E.at_, .bool E.fix] 100)))
      have B1 := hide b1
      clear b1
      go_upto_region 5 with (fail)
      go_wp2_with (first | (go_at_call 33; refine (unhide C1).mono ?_; rintro e w2 ⟨rfl, b2⟩; have B2 := hide (bthen (unhide B1) b2); have S2 := hide (src4e w2 E); clear b2) | (at_builtin; refine wpList_append_fits _ rfl (.tmp 21) (.tmp 27) 61 rfl w1.heap.size 82 i0 4 Tryd.underlying61 hi0 hz1 w1.heap.size k n (cs (L.take k)) rfl (owns_below (unhide HO) (alloc_then (unhide B2))) ⟨w2.heap.size, 0, none⟩ 1 1 E.cs rfl rfl (unhide S2) (cs4_one E) (by omega) ?_; intro w3 ho3 hg3; have H3 := hide ho3; have G3 := hide hg3; clear ho3 hg3))
      go_roundw
      case rel =>
        refine ⟨k + 1, by go_num, by omega, by rfl, ?_, ?_⟩
        · have h := unhide H3
          rw [unhide HT, cs_append, cs_one]
          exact h
        · refine (((unhide HB).trans ((alloc_then (unhide B2)).mono (unhide HB).size)).grown (unhide G3) ?_ (fun j hj => by simp at hj; omega))
          exact Nat.le_trans (unhide HB).size (alloc_then (unhide B2)).size
      case measure => simp [intOf]; omega
    · obtain rfl : k = n := by omega
      have hk : L.take k = L := List.take_of_length_le (by rw [unhide HN]; exact Nat.le_refl _)
      rw [hk] at HO
      clear hr1 hk
      go_wp2_with fail
      go_ret
      refine ⟨rfl, ?_, unhide HB⟩
      show World.ownsRow _ _ _ _ _ _ _
      rw [unhide HN]; exact unhide HO
theorem entries_any (g : Nat) (room life : Int) (B : Nat) (v : Value) (L : List Ent) (w : World) (T : Tab B w g room life v L) :
    Calls Tryd.prog 100 #[.pointer (some ⟨g, 0, none⟩)] w fun e w' => e = .returned (.slice (some ⟨w.heap.size, 0, none⟩) L.length L.length) ∧ Tells w.heap.size w' (.slice (some ⟨w.heap.size, 0, none⟩) L.length L.length) L ∧ Below w.heap.size w w' := by
  rcases T.own.parts with ⟨rfl, rfl⟩ | ⟨r, cap, R, rfl, _, hr, _⟩
  · exact entries_nil g room life B w T
  · exact entries_at g r cap L.length room life B L w T rfl (prow_of hr)
end Go.Proofs.YtljhgehlaehgnaaDoor
