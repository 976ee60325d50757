/-
  The walk of FlyDoes, over the landed code.
-/
import Derived.Test.YtmcnamlgbkbiaaaDoorFlyDo
import Derived.Test.YtmcnamlgbkbiaaaDoorLawFlyDoes
namespace Go.Proofs.YtmcnamlgbkbiaaaDoor
open Go.RowKit

theorem walk_FlyDoes (p r : Int) (inv : Bool) (x : Option Addr) (len cap : Nat) (zs : List Int) (y : Option Addr) (len' cap' : Nat) (zs' : List Int) (w : World) (hp : (Lit.int .u64 p).wf = true) (hr : (Lit.int .i64 r).wf = true) (hx : RowIn .u64 w x len cap zs) (hy : RowIn .u64 w y len' cap' zs') (hG : Gl w) :
    Calls Tryd.prog 3 #[.int .u64 p, .int .i64 r, .bool inv, .slice x len cap, .slice y len' cap'] w fun e w' => e = .returned (.bool true) ∧ Below w.heap.size w w' :=
  flydoes_walk flyHas p r inv x len cap zs y len' cap' zs' w hp hr hx hy hG

end Go.Proofs.YtmcnamlgbkbiaaaDoor
