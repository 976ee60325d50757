/-
  The walk of PlanAsks, over the landed code.
-/
import Derived.Test.YtlbfllaaabginaaDoorStepB
import Derived.Test.YtlbfllaaabginaaDoorPlanItem
import Derived.Test.YtlbfllaaabginaaDoorLawPlanAsks
import Derived.Test.YtlbfllaaabginaaDoorRqIn
namespace Go.Proofs.YtlbfllaaabginaaDoor
open Go.RowKit

theorem walk_PlanAsks (q : Rq) (i : Int) (w : World) (hq : RqIn w w.heap.size q) (hi : (Lit.int .i64 i).wf = true) (hG : Gl w) :
    Calls Tryd.prog 4 #[rqV q, .int .i64 i] w fun e w' => e = .returned (.bool true) ∧ Below w.heap.size w w' :=
  planasks_walk (planHas stepHas) q i w hq hi hG

end Go.Proofs.YtlbfllaaabginaaDoor
