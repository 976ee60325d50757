/-
  The walk of PlanItems, over the landed code.
-/
import Derived.Test.YtlbfllaaabginaaDoorStepB
import Derived.Test.YtlbfllaaabginaaDoorPlanItem
import Derived.Test.YtlbfllaaabginaaDoorLawPlanItems
import Derived.Test.YtlbfllaaabginaaDoorRqIn
namespace Go.Proofs.YtlbfllaaabginaaDoor
open Go.RowKit

theorem walk_PlanItems (q : Rq) (w : World) (hq : RqIn w w.heap.size q) (hG : Gl w) :
    Calls Tryd.prog 10 #[rqV q] w fun e w' => e = .returned (.bool true) ∧ Below w.heap.size w w' :=
  planitems_walk (planHas stepHas) q w hq hG

end Go.Proofs.YtlbfllaaabginaaDoor
