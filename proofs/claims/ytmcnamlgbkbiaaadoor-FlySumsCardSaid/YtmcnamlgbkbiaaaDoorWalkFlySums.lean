/-
  The walk of FlySums, over the landed code.
-/
import Derived.Test.YtmcnamlgbkbiaaaDoorFlyDo
import Derived.Test.YtmcnamlgbkbiaaaDoorLawFlySums
namespace Go.Proofs.YtmcnamlgbkbiaaaDoor
open Go.RowKit

theorem walk_FlySums (p : Int) (inv : Bool) (x : Option Addr) (len cap : Nat) (zs : List Int) (y : Option Addr) (len' cap' : Nat) (zs' : List Int) (c : Int) (w : World) (hp : (Lit.int .u64 p).wf = true) (hr : RowIn .u64 w x len cap zs) (hr' : RowIn .u64 w y len' cap' zs') (hc : (Lit.int .u64 c).wf = true) (hG : Gl w) :
    Calls Tryd.prog 5 #[.int .u64 p, .bool inv, .slice x len cap, .slice y len' cap', .int .u64 c] w fun e w' => e = .returned (.bool true) ∧ Below w.heap.size w w' :=
  flysums_walk flyHas p inv x len cap zs y len' cap' zs' c w hp hr hr' hc hG

end Go.Proofs.YtmcnamlgbkbiaaaDoor
