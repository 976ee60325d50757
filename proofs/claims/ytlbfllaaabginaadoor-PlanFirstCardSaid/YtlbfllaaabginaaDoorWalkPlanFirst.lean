/-
  The walk of PlanFirst, over the landed code.
-/
import Derived.Test.YtlbfllaaabginaaDoorStepB
import Derived.Test.YtlbfllaaabginaaDoorPlanItem
import Derived.Test.YtlbfllaaabginaaDoorLawPlanFirst
import Derived.Test.YtlbfllaaabginaaDoorRqIn
namespace Go.Proofs.YtlbfllaaabginaaDoor
open Go.RowKit

theorem walk_PlanFirst (q : Rq) (i j : Int) (w : World) (hq : RqIn w w.heap.size q) (hi : (Lit.int .u8 i).wf = true) (hj : (Lit.int .u8 j).wf = true) (hG : Gl w) :
    Calls Tryd.prog 9 #[rqV q, .int .u8 i, .int .u8 j] w fun e w' => e = .returned (.bool true) ∧ Below w.heap.size w w' :=
  planfirst_walk (planHas stepHas) q i j w hq hi hj hG

end Go.Proofs.YtlbfllaaabginaaDoor
