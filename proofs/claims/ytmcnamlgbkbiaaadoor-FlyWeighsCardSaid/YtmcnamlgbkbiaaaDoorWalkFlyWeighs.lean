/-
  The walk of FlyWeighs, over the landed code.
-/
import Derived.Test.YtmcnamlgbkbiaaaDoorFlyDo
import Derived.Test.YtmcnamlgbkbiaaaDoorLawFlyWeighs
namespace Go.Proofs.YtmcnamlgbkbiaaaDoor
open Go.RowKit

theorem walk_FlyWeighs (p : Int) (inv : Bool) (x : Option Addr) (len cap : Nat) (zs : List Int) (y : Option Addr) (len' cap' : Nat) (zs' : List Int) (w : World) (hp : (Lit.int .u64 p).wf = true) (hr : RowIn .u64 w x len cap zs) (hr' : RowIn .u64 w y len' cap' zs') (hG : Gl w) :
    Calls Tryd.prog 9 #[.int .u64 p, .bool inv, .slice x len cap, .slice y len' cap'] w fun e w' => e = .returned (.bool true) ∧ Below w.heap.size w w' :=
  flyweighs_walk flyHas p inv x len cap zs y len' cap' zs' w hp hr hr' hG

end Go.Proofs.YtmcnamlgbkbiaaaDoor
