/-
  The walk of FlyPoints, over the landed code.
-/
import Derived.Test.YtmcnamlgbkbiaaaDoorFlyDo
import Derived.Test.YtmcnamlgbkbiaaaDoorLawFlyPoints
namespace Go.Proofs.YtmcnamlgbkbiaaaDoor
open Go.RowKit

theorem walk_FlyPoints (p r : Int) (inv : Bool) (x : Option Addr) (len cap : Nat) (zs : List Int) (w : World) (hp : (Lit.int .u64 p).wf = true) (hr : (Lit.int .i64 r).wf = true) (hx : RowIn .u64 w x len cap zs) (hG : Gl w) :
    Calls Tryd.prog 8 #[.int .u64 p, .int .i64 r, .bool inv, .slice x len cap] w fun e w' => e = .returned (.bool true) ∧ Below w.heap.size w w' :=
  flypoints_walk flyHas p r inv x len cap zs w hp hr hx hG

end Go.Proofs.YtmcnamlgbkbiaaaDoor
