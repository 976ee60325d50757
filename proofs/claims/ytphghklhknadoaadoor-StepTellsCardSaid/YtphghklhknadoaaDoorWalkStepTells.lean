/-
  The walk of StepTells, over the landed code.
-/
import Derived.Test.YtphghklhknadoaaDoorStepB
import Derived.Test.YtphghklhknadoaaDoorLawStepTells
import Derived.Test.YtphghklhknadoaaDoorStepA
namespace Go.Proofs.YtphghklhknadoaaDoor
open Go.RowKit

theorem walk_StepTells (p : Int) (x : Option Addr) (len cap : Nat) (xa : List Ax) (inv : Bool) (s : Sp) (w : World) (_hp : (Lit.int .u64 p).wf = true) (hA : AxisIn w x len cap xa) (hlb : len ≤ 8796093022208) (hs : SpIn s) (hG : Gl w) :
    Calls Tryd.prog 4 #[.int .u64 p, .slice x len cap, .bool inv, spV s] w fun e w' => e = .returned (.bool true) ∧ Below w.heap.size w w' :=
  steptells_walk stepHas grpHas p x len cap xa inv s w _hp hA hlb hs hG

end Go.Proofs.YtphghklhknadoaaDoor
