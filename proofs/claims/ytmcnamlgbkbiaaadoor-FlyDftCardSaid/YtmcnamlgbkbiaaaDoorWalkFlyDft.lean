/-
  The walk of FlyDft, over the landed code.
-/
import Derived.Test.YtmcnamlgbkbiaaaDoorFlyDo
import Derived.Test.YtmcnamlgbkbiaaaDoorLawFlyDft
namespace Go.Proofs.YtmcnamlgbkbiaaaDoor
open Go.RowKit

theorem walk_FlyDft (p : Int) (inv : Bool) (x : Option Addr) (len cap : Nat) (zs : List Int) (w : World) (hp : (Lit.int .u64 p).wf = true) (hr : RowIn .u64 w x len cap zs) (hG : Gl w) :
    Calls Tryd.prog 7 #[.int .u64 p, .bool inv, .slice x len cap] w fun e w' => e = .returned (.bool true) ∧ Below w.heap.size w w' :=
  flydft_walk flyHas p inv x len cap zs w hp hr hG

end Go.Proofs.YtmcnamlgbkbiaaaDoor
