/-
  The document's answer for packets: the contracts of gangwayref06's Check, Head, Build, num, Parse and Older.
-/
import Derived.Test.YtojipoifjioglaaDoorFixed6
import Derived.Test.YtojipoifjioglaaDoorRef6
namespace Go.Proofs.YtojipoifjioglaaDoor
open Go.RowKit Go.Sort

set_option maxRecDepth 100000 in
theorem rcheck_at (a b o t q s d : Int) (x y : Bool) (B : ByteArray) (t1 t2 t3 t4 t5 : Bool) (w : World) (hB : (B.size : Int) ≤ 1700)
    (h1 : (a / 256 == 0) = t1) (h2 : (t / 256 == 0) = t2) (h3 : (q / 256 == 0) = t3) (h4 : (b / 65536 != 0) = t4) (h5 : (o / 8192 != 0) = t5) :
    Calls Tryd.prog 14 #[.agg #[.int .i64 a, .int .i64 b, .bool x, .bool y, .int .i64 o, .int .i64 t, .int .i64 q, .int .u32 s, .int .u32 d, .string B]] w fun e w' => e = .returned (.int .i64 (if (t1 && t2 && t3) && !t4 && !t5 then 0 else 61)) ∧ Below w.heap.size w w' := by
  cases t1 <;> cases t2 <;> cases t3 <;> cases t4 <;> cases t5
  all_goals
    go_enter Tryd.func14, Tryd.ntmps14
    go_wp2
    go_ret
    exact ⟨rfl, alloc_below _ _⟩
end Go.Proofs.YtojipoifjioglaaDoor
