/-
  The walk of PlanSteps, over the landed code.
-/
import Derived.Test.YtlbfllaaabginaaDoorStepB
import Derived.Test.YtlbfllaaabginaaDoorPlanItem
import Derived.Test.YtlbfllaaabginaaDoorLawPlanSteps
namespace Go.Proofs.YtlbfllaaabginaaDoor
open Go.RowKit

theorem walk_PlanSteps (p : Int) (x : Option Addr) (len cap : Nat) (xa : List Ax) (inv : Bool) (w : World) (_hp : (Lit.int .u64 p).wf = true) (hA : AxisIn w x len cap xa) (hlb : len ≤ 8796093022208) (hG : Gl w) :
    Calls Tryd.prog 8 #[.int .u64 p, .slice x len cap, .bool inv] w fun e w' => e = .returned (.bool true) ∧ Below w.heap.size w w' :=
  plansteps_walk (planHas stepHas) p x len cap xa inv w _hp hA hlb hG

end Go.Proofs.YtlbfllaaabginaaDoor
