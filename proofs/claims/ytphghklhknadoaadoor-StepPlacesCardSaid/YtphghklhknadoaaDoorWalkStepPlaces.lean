/-
  The walk of StepPlaces, over the landed code.
-/
import Derived.Test.YtphghklhknadoaaDoorStepB
import Derived.Test.YtphghklhknadoaaDoorLawStepPlaces
import Derived.Test.YtphghklhknadoaaDoorStepA
namespace Go.Proofs.YtphghklhknadoaaDoor
open Go.RowKit

theorem walk_StepPlaces (p : Int) (x : Option Addr) (len cap : Nat) (xa : List Ax) (inv : Bool) (s : Sp) (w : World) (_hp : (Lit.int .u64 p).wf = true) (hA : AxisIn w x len cap xa) (hlb : len ≤ 8796093022208) (hs : SpIn s) (hG : Gl w) :
    Calls Tryd.prog 8 #[.int .u64 p, .slice x len cap, .bool inv, spV s] w fun e w' => e = .returned (.bool true) ∧ Below w.heap.size w w' :=
  stepplaces_walk stepHas grpHas p x len cap xa inv s w _hp hA hlb hs hG

end Go.Proofs.YtphghklhknadoaaDoor
