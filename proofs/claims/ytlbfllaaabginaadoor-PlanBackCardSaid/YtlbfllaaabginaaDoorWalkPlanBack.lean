/-
  The walk of PlanBack, over the landed code.
-/
import Derived.Test.YtlbfllaaabginaaDoorStepB
import Derived.Test.YtlbfllaaabginaaDoorPlanItem
import Derived.Test.YtlbfllaaabginaaDoorLawPlanBack
namespace Go.Proofs.YtlbfllaaabginaaDoor
open Go.RowKit

theorem walk_PlanBack (p : Int) (x : Option Addr) (len cap : Nat) (xa : List Ax) (inv : Bool) (y : Option Addr) (m cap' : Nat) (zs : List Int) (w : World) (_hp : (Lit.int .u64 p).wf = true) (hA : AxisIn w x len cap xa) (hlb : len ≤ 8796093022208) (hr : RowIn .u64 w y m cap' zs) (hG : Gl w) :
    Calls Tryd.prog 6 #[.int .u64 p, .slice x len cap, .bool inv, .slice y m cap'] w fun e w' => e = .returned (.bool true) ∧ Below w.heap.size w w' :=
  planback_walk (planHas stepHas) stepHas p x len cap xa inv y m cap' zs w _hp hA hlb hr hG

end Go.Proofs.YtlbfllaaabginaaDoor
