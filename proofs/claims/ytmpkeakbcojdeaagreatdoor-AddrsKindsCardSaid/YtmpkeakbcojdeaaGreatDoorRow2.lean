/-
  What every row of this seat shares: what the listed variables give a walk, and a world that meets the list.
-/
import Derived.Test.YtmpkeakbcojdeaaGreatDoorRows
import Derived.Test.YtmpkeakbcojdeaaGreatDoorCards
import Derived.Test.YtmpkeakbcojdeaaGreatDoorTie
import Derived.Test.YtmpkeakbcojdeaaGreatDoorFixed2
import Derived.ChangeSame
import Derived.ChangeVars
import Derived.JoinedOf
import Derived.RowKit
import Derived.RowKitTokens
import Derived.LaidLaws
import Derived.LaidHandle
import Derived.Stop.Joined
import Derived.Stop.LaidErr
import Derived.ProofKit
import Derived.OpenShut
import Derived.SevenTiedAt
import Derived.Lay
import Derived.Lib.LaidTab
import Derived.HandedShaped
import Derived.Shelf.Vars
namespace Go.Proofs.YtmpkeakbcojdeaaGreatDoor
open Go.ChangeShapes Go.WideShapes Go.ChangeAt Go.RowKit

theorem own : ownKnob Tryz.prog.godebug = none := by kernel_rfl
theorem oneRow : ((List.range 182).filter fun t => Tryz.prog.rowNamed t [101, 114, 114, 111, 114]) = [64] := by kernel_rfl
theorem typesSize : Tryz.prog.types.size = 182 := by kernel_rfl
/-- a listed variable and what it reads as -/
theorem laid_item {P : Program} {W : World} : ∀ (l : List (String × DataW Unit)) (ps : List MemPlace) (i : Nat) (n : String) (d : DataW Unit), DataW.LaidVars P W l ps → l[i]? = some (n, d) →
    ∃ g t cs fuel p, P.globalNamed n = some g ∧ (P.globals[g]?).map (·.type) = some t ∧ W.var? P n = some cs ∧ DataW.trod (fun _ => ()) P W 0 (fun _ => true) false fuel t cs.toList = some (d, p)
  | [], _, _, _, _, _, h => by cases h
  | (n', d') :: r, ps, 0, n, d, hv, h => by
    obtain ⟨g, t, cs, fuel, p, q, h1, h2, h3, h4, _, _⟩ := hv
    cases h
    exact ⟨g, t, cs, fuel, p, h1, h2, h3, h4⟩
  | (n', d') :: r, ps, i + 1, n, d, hv, h => by
    obtain ⟨g, t, cs, fuel, p, q, _, _, _, _, hq, _⟩ := hv
    exact laid_item r q i n d hq h
theorem laid_nth (i : Nat) : ∃ n : String, n = ((Rows.addrsTextsRow.laid.filter fun x => x.2.handleName?.isNone)[i]?.map (·.1)).getD "" := ⟨_, rfl⟩

set_option maxRecDepth 100000 in
theorem laid5 : (Rows.addrsTextsRow.laid.filter fun x => x.2.handleName?.isNone)[5]? = some (((Rows.addrsTextsRow.laid.filter fun x => x.2.handleName?.isNone)[5]?.map (·.1)).getD "", Rows.laid_strconv_ErrSyntax) := by kernel_rfl
set_option maxRecDepth 100000 in
theorem laid4 : (Rows.addrsTextsRow.laid.filter fun x => x.2.handleName?.isNone)[4]? = some (((Rows.addrsTextsRow.laid.filter fun x => x.2.handleName?.isNone)[4]?.map (·.1)).getD "", Rows.laid_strconv_ErrRange) := by kernel_rfl

/-- the wrap of a row that lists variables, with the world's shape -/
theorem handed_shaped {H : Type} {enc : TypeId × Value → H} {a : Assume} {C : Checked} {os : Os} {f : FuncId} {fn : Func} {s : ChangeSpec} {conds : List PathCond} {apart fresh handsOn again : Bool} {X : World → Array Value → Prop}
    (hX : ∀ (w w' : World) (args : Array Value), w.heap = w'.heap → X w args → X w' args)
    (hown : ownKnob C.prog.godebug = none) (started : os.Started) (noInit : C.prog.inits.idxOf? f = none) (hfn : C.prog.funcs[f]? = some fn)
    (witness : ∃ (w : World) (tape : Tape) (i : Input), w.os = os ∧ (w.forCall tape i).Shaped C.prog ∧ i.vars = [] ∧ Input.okWide C.prog (w.forCall tape i) .any w.heap.size f i ∧
      ((s.pre enc C.prog fn conds apart (w.forCall tape i).memory i.args ∧ X (w.forCall tape i).memory i.args) ∧ sizedMet enc C.prog fn (OpenSpec.ofChange s) apart (w.forCall tape i).memory i.args) ∧ a.holds C.prog (lone (Frame.enter C.prog f i.args .normal) [] (w.forCall tape i)))
    (contract : ∀ (W : World) (base : Nat) (args : Array Value) (ds gs : List (DataW H)) (before : List MemPlace),
      (∀ (j : Nat) t v, fn.params[j]? = some t → args[j]? = some v → Value.okWide C.prog W .any base t v) →
      DataW.Whole enc C.prog fn.params.toList s.vars apart W args.toList ds gs before →
      X W args → W.ShapedOpen C.prog →
      Calls C.prog f args W fun e W' => ∃ v, e = .returned v ∧ s.post enc C.prog fn apart fresh handsOn again W args v W') :
    ReturnsInHanded a C os f .any (fun w args => (s.pre enc C.prog fn conds apart w args ∧ X w args) ∧ sizedMet enc C.prog fn (OpenSpec.ofChange s) apart w args) (s.post enc C.prog fn apart fresh handsOn again) := by
  refine returnsInHanded_of_calls hown started noInit witness ?_
  intro w tape i _ hsh _ hok hpre hholds
  obtain ⟨_, _, _, fn', hfn', _, _, _, _, hval⟩ := hok
  obtain rfl : fn' = fn := Option.some.inj (hfn'.symm.trans hfn)
  obtain ⟨⟨⟨ds, gs, before, hw, _⟩, hx⟩, _⟩ := hpre
  have hw' := DataW.Whole.of_heap (w' := w.forCall tape i) (by rfl) hw
  refine (contract (w.forCall tape i) w.heap.size i.args ds gs before hval hw' (hX _ _ _ (by rfl) hx) hsh).mono fun e W' ⟨v, he, hp⟩ => ?_
  subst he
  exact ChangeSpec.post_blind hp

set_option maxRecDepth 100000 in
/-- what the list and the world's shape give a walk -/
theorem st_of_laid {W : World} (h : laidMetH Tryz.prog Rows.addrsTextsRow.laid W) (hsh : W.ShapedOpen Tryz.prog) : St W := by
  have e0 : (Rows.addrsTextsRow.laid.filter fun x => x.2.handleName?.isSome) = [("errors.errorType", Rows.laid_errors_errorType)] := by kernel_rfl
  unfold laidMetH at h
  rw [e0] at h
  obtain ⟨⟨ps, hl, _⟩, hh⟩ := h
  have hev : ∀ (i g : Nat) (n name : String) (d : DataW Unit), (Rows.addrsTextsRow.laid.filter fun x => x.2.handleName?.isNone)[i]? = some (n, .iface name d) → Tryz.prog.globalNamed n = some g → (Tryz.prog.globals[g]?).map (·.type) = some 64 → Ev g W := fun i g n name d hx hg ht => by
    obtain ⟨g', t', cs, fuel, p, h1, h2, h3, h4⟩ := laid_item _ ps i n _ hl hx
    obtain rfl := Option.some.inj (hg.symm.trans h1)
    obtain rfl := Option.some.inj (ht.symm.trans h2)
    obtain ⟨fuel', u, v, e, _, _⟩ := iface_of_trod Tryz.underlying64 h4
    refine ⟨u, v, ?_⟩
    rw [held_of_var hg h3]
    obtain ⟨l⟩ := cs
    simp only at e
    rw [e]
  refine ⟨?_, ?_, ?_, ?_, ?_⟩
  · obtain ⟨name, u, ty, e1, e2, e3, e4, e5⟩ := hh _ (List.mem_singleton.2 rfl)
    have en : name = [101, 114, 114, 111, 114] := (Option.some.inj e1).symm
    subst en
    obtain rfl : 121 = u := Option.some.inj (Eq.trans (Eq.symm (by kernel_rfl)) e2)
    have hm : ty ∈ (List.range 182).filter fun t => Tryz.prog.rowNamed t [101, 114, 114, 111, 114] := List.mem_filter.2 ⟨List.mem_range.2 (by rw [← typesSize]; exact e3), e4⟩
    rw [oneRow] at hm
    obtain rfl := List.mem_singleton.1 hm
    have ht : typeHandle Tryz.prog 64 = .pointer (some ⟨9, 64, none⟩) := by kernel_rfl
    rw [ht] at e5
    unfold Et
    simpa using World.var?_cell (show Tryz.prog.globalNamed "errors.errorType" = some 0 by kernel_rfl) e5 0
  · obtain ⟨n, hn⟩ := laid_nth 5
    exact hev 5 1 n _ _ (by rw [hn]; exact laid5) (by rw [hn]; kernel_rfl) (by kernel_rfl)
  · obtain ⟨n, hn⟩ := laid_nth 4
    exact hev 4 2 n _ _ (by rw [hn]; exact laid4) (by rw [hn]; kernel_rfl) (by kernel_rfl)
  · obtain ⟨n, hn⟩ := laid_nth 2
    obtain ⟨g', t', cs, fuel, p, h1, h2, h3, h4⟩ := laid_item _ ps 2 n (Lib.tabData .u64 Lib.pow10Tab) hl (by rw [hn]; kernel_rfl)
    have hg : Tryz.prog.globalNamed n = some 3 := by rw [hn]; kernel_rfl
    obtain rfl := Option.some.inj (hg.symm.trans h1)
    obtain rfl : 139 = t' := Option.some.inj (Eq.trans (Eq.symm (by kernel_rfl)) h2)
    have hc := Lib.cells_of_tab Tryz.underlying139 Tryz.underlying22 (by kernel_rfl) (by kernel_rfl) h4
    rw [held_of_var hg h3, ← hc]
  · exact cell_of_shapedOpen_int (t := 3) (zero := #[.int .i64 0]) hsh (of_decide_eq_true (by kernel_rfl)) (by kernel_rfl) (by kernel_rfl) (by kernel_rfl) (by kernel_rfl) Tryz.underlying3

/-- the handle laid, the others laid over it -/
theorem laid_over {P : Program} {w0 : World} {laid : List (String × DataW Unit)} (hf : w0.layFits P laid [] = true) (hi : w0.layIfaces P laid (w0.layVars P laid) = true) : laidMet P laid (w0.layVars P laid) := by
  have e1 : (laid.filter fun x => (laid.map (·.1)).contains x.1) = laid := List.filter_eq_self.2 fun x hx => List.contains_iff_mem.2 (List.mem_map.2 ⟨x, hx, rfl⟩)
  have e2 : (laid.filter fun x => !(laid.map (·.1)).contains x.1) = [] := List.filter_eq_nil_iff.2 fun x hx => by rw [List.contains_iff_mem.2 (List.mem_map.2 ⟨x, hx, rfl⟩)]; simp
  exact laidMet_layVars (w0 := w0) (laid.map (·.1)) [] (by rw [e1]) (by rw [e1]; exact hf) (by rw [e1]; exact hi) (by rw [e2]; exact LaidIn.none)
theorem laid_met_at {w0 : World} (args : Array Value) (hf : w0.layFits Tryz.prog (Rows.addrsTextsRow.laid.filter fun x => x.2.handleName?.isNone) [] = true)
    (hi : w0.layIfaces Tryz.prog (Rows.addrsTextsRow.laid.filter fun x => x.2.handleName?.isNone) (w0.layVars Tryz.prog (Rows.addrsTextsRow.laid.filter fun x => x.2.handleName?.isNone)) = true)
    (hh : (Rows.addrsTextsRow.laid.filter fun x => x.2.handleName?.isSome).all (handleAtB Tryz.prog ((w0.layVars Tryz.prog (Rows.addrsTextsRow.laid.filter fun x => x.2.handleName?.isNone)).forCall (fun _ _ => 0) ⟨#[], args, []⟩).memory) = true) :
    laidMetH Tryz.prog Rows.addrsTextsRow.laid ((w0.layVars Tryz.prog (Rows.addrsTextsRow.laid.filter fun x => x.2.handleName?.isNone)).forCall (fun _ _ => 0) ⟨#[], args, []⟩).memory :=
  laidMetH_of_parts ((laid_over hf hi).of_heap (by simp [World.memory, World.forCall, Input.heap])) hh
theorem laid_met (os : Os) (args : Array Value) : laidMetH Tryz.prog Rows.addrsTextsRow.laid
    ((({ World.holding Tryz.prog os ⟨#[], #[], []⟩ with heap := (World.holding Tryz.prog os ⟨#[], #[], []⟩).heap.modify 0 fun
      | .cells _ t frozen => .cells #[.iface 121 (.agg #[.pointer (some ⟨9, 64, none⟩)])] t frozen
      | o => o } : World).layVars Tryz.prog (Rows.addrsTextsRow.laid.filter fun x => x.2.handleName?.isNone)).forCall (fun _ _ => 0) ⟨#[], args, []⟩).memory :=
  laid_met_at args (by kernel_rfl) (by kernel_rfl) (by kernel_rfl)
end Go.Proofs.YtmpkeakbcojdeaaGreatDoor
