/-
  The contract of fdb's Places: as many as there are entries.
-/
import Derived.Test.YtpddbfdgaeldjaaFd3
namespace Go.Proofs.Ytpddbfdgaeldjaa
open Go.RowKit Go.Sort

theorem infoPlace : (Try.prog.info? 74).map (fun i => (i.zero, i.size, i.bytes)) = some (some (.agg #[.int .i64 0, .int .u64 0, .int .i64 0, .int .u32 0, .int .i64 0, .bool false]), 6, 48) := by kernel_rfl
/-- a place's cells -/
def pcs (a b c d t : Int) (f : Bool) : List Value := [.int .i64 a, .int .u64 b, .int .i64 c, .int .u32 d, .int .i64 t, .bool f]
theorem src6 (w : World) (a b c d t : Int) (f : Bool) : ∀ j u, (pcs a b c d t f)[j]? = some u → (w.alloc (.cells #[.int .i64 a, .int .u64 b, .int .i64 c, .int .u32 d, .int .i64 t, .bool f] 74)).cell? ((⟨w.heap.size, 0, none⟩ : Addr).add j) = some u := by
  intro j u hu
  rw [Addr.add_lit, Nat.zero_add, cell_of_row _ w.heap.size j _ _ _ (heap_alloc_new w _)]
  simpa [pcs] using hu
theorem pcs_one (a b c d t : Int) (f : Bool) : ∀ u ∈ pcs a b c d t f, u.oneCell' = true := by
  intro u hu
  simp only [pcs, List.mem_cons, List.not_mem_nil, or_false] at hu
  rcases hu with rfl | rfl | rfl | rfl | rfl | rfl <;> rfl
/-- an entry's cells, where a walk reads them -/
theorem tells_at {B r n : Nat} {L : List Ent} {W : World} (h : Tells B W (.slice (some ⟨r, 0, none⟩) n n) L) (hn : L.length = n) (j : Nat) (hj : j < L.length) (t : Nat) (ht : t < 4) : W.cell? ⟨r, j * 4 + t, none⟩ = (L[j]).cs[t]? := by
  have h' : W.ownsRow B 72 4 (.slice (some ⟨r, 0, none⟩) n n) n (cs L) := by rw [← hn]; rw [← hn] at h; exact h
  have := h'.cellAt (j * 4 + t) (by omega)
  rw [this]
  exact cs_get L j hj t ht
set_option maxHeartbeats 1000000 in
set_option maxRecDepth 100000 in
theorem places_any {w : World} {g p b : Nat} {mr : Option Nat} {v : Value} {most win room life : Int} {L : List Ent} {M : List Int} (W : World) (n : Nat) (hF : Fdb w g p b mr v most win room life L M W) (hn : L.length = n) :
    Calls Try.prog 9 #[.pointer (some ⟨g, 0, none⟩)] W fun e W' => ∃ r, e = .returned (.slice (some ⟨r, 0, none⟩) n n) ∧ Below W.heap.size W W' := by
  obtain ⟨i0, hi0, hz0, hz1, hz2⟩ := info_parts infoPlace
  have C := hide (has_entries (w := w) (W := W) (g := p) (room := room) (life := life) (L := L) hF.has)
  rw [hn] at C
  have CP := hide (fun k v t f W hk hv => placeOf_any k v t f W hk hv)
  have ptr := hF.ptr
  obtain ⟨_, v', T⟩ := hF.has
  have HO := hide T.oks
  have hlen : n ≤ 4096 := by have := T.len; omega
  have HN := hide hn
  clear hF T hn
  go_enter Try.func9, Try.ntmps9
  go_wp2_with fail
  refine (unhide C).mono ?_
  rintro e W1 ⟨rfl, t1, b1⟩
  have T1 := hide t1
  have B1 := hide b1
  clear t1 b1 C ptr
  go_wp2_with (at_make; refine wpList_make_own _ rfl _ _ 31 rfl W1.heap.size 74 i0 _ 6 Try.underlying31 hi0 hz0 hz1 _ _ _ n rfl rfl (by rfl) (by rw [hz2]; omega) (by unfold maxLen; omega) (Nat.le_refl _) ?_; intro w2 ho2 hg2; have H2 := hide ho2; have G2 := hide hg2; clear ho2 hg2)
  go_loopw [4, 17] (fun o a wr => ∃ (k : Nat) (xs : List Value), a = .int .i64 k ∧ k ≤ n ∧ o = .slice (some ⟨W1.heap.size, 0, none⟩) k n ∧ wr.ownsRow W1.heap.size 74 6 (.slice (some ⟨W1.heap.size, 0, none⟩) k n) k xs ∧ Below W1.heap.size W1 wr) (fun _ a _ => n - (intOf a).toNat)
  case atStart => exact ⟨0, [], rfl, Nat.zero_le _, rfl, unhide H2, (Below.refl _ _).grown (unhide G2) (Nat.le_refl _) (fun k hk => by cases hk)⟩
  case round =>
    obtain ⟨k, xs, rfl, hkn, rfl, hown, hb⟩ := hrel
    have HB := hide hb
    have HOw := hide hown
    have t2 := owns_below (unhide T1) hb
    clear hb hown H2 G2
    by_cases hlt : k < n
    · have hkl : k < L.length := by rw [unhide HN]; exact hlt
      have e0 := tells_at t2 (unhide HN) k hkl 0 (by omega)
      have e1 := tells_at t2 (unhide HN) k hkl 1 (by omega)
      have e2 := tells_at t2 (unhide HN) k hkl 2 (by omega)
      have e3 := tells_at t2 (unhide HN) k hkl 3 (by omega)
      have ok := unhide HO _ (List.getElem_mem hkl)
      generalize L[k] = E at e0 e1 e2 e3 ok
      simp only [Ent.cs, List.getElem?_cons_zero, List.getElem?_cons_succ, Nat.add_zero] at e0 e1 e2 e3
      have b2 := alloc_below wr (.cells #[.int .u64 E.key, .int .u64 E.val, .int .i64 E.at_, .bool E.fix] 72)
      have r2 := hide (heap_alloc_new wr (.cells #[.int .u64 E.key, .int .u64 E.val, .int .i64 E.at_, .bool E.fix] 72))
      have C2 := hide (unhide CP E.key E.val E.at_ E.fix (wr.alloc (.cells #[.int .u64 E.key, .int .u64 E.val, .int .i64 E.at_, .bool E.fix] 72)) ⟨ok.1, ok.2.1⟩ ⟨ok.2.2.1, ok.2.2.2.1⟩)
      have B2 := hide b2
      clear b2 t2 ok
      go_upto_region 6 with (fail)
      go_wp2_with (first | (go_at_call 24; refine (unhide C2).mono ?_; rintro e w2 ⟨⟨pa, pb, pc, pd, rfl⟩, b2⟩; have B3 := hide (bthen (unhide B2) b2); have S2 := hide (src6 w2 pa pb pc pd E.at_ E.fix); clear b2) | (at_builtin; refine wpList_append_fits _ rfl (.tmp 21) (.tmp 24) 31 rfl W1.heap.size 74 i0 6 Try.underlying31 hi0 hz1 W1.heap.size k n xs rfl (owns_below (unhide HOw) (alloc_then (unhide B3))) ⟨w2.heap.size, 0, none⟩ 1 1 (pcs pa pb pc pd E.at_ E.fix) rfl rfl (unhide S2) (pcs_one pa pb pc pd E.at_ E.fix) (by omega) ?_; intro w3 ho3 hg3; have H3 := hide ho3; have G3 := hide hg3; clear ho3 hg3))
      go_roundw
      case rel =>
        refine ⟨k + 1, _, by go_num, by omega, by rfl, unhide H3, ?_⟩
        refine (((unhide HB).trans ((alloc_then (unhide B3)).mono (unhide HB).size)).grown (unhide G3) ?_ (fun j hj => by simp at hj; omega))
        exact Nat.le_trans (unhide HB).size (alloc_then (unhide B3)).size
      case measure => simp [intOf]; omega
    · obtain rfl : k = n := by omega
      clear t2
      go_wp2_with fail
      go_ret
      exact ⟨_, rfl, bthen (unhide B1) (unhide HB)⟩
end Go.Proofs.Ytpddbfdgaeldjaa
