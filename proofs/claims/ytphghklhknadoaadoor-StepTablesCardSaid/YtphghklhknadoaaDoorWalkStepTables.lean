/-
  The walk of StepTables, over the landed code.
-/
import Derived.Test.YtphghklhknadoaaDoorStepB
import Derived.Test.YtphghklhknadoaaDoorLawStepTables
import Derived.Test.YtphghklhknadoaaDoorStepA
namespace Go.Proofs.YtphghklhknadoaaDoor
open Go.RowKit

theorem walk_StepTables (p : Int) (x : Option Addr) (len cap : Nat) (xa : List Ax) (s : Sp) (w : World) (_hp : (Lit.int .u64 p).wf = true) (hA : AxisIn w x len cap xa) (hlb : len ≤ 8796093022208) (hs : SpIn s) (hG : Gl w) :
    Calls Tryd.prog 10 #[.int .u64 p, .slice x len cap, spV s] w fun e w' => e = .returned (.bool true) ∧ Below w.heap.size w w' :=
  steptables_walk stepHas p x len cap xa s w _hp hA hlb hs hG

end Go.Proofs.YtphghklhknadoaaDoor
