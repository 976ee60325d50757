/-
  The walk of StepTwist, over the landed code.
-/
import Derived.Test.YtphghklhknadoaaDoorStepB
import Derived.Test.YtphghklhknadoaaDoorLawStepTwist
import Derived.Test.YtphghklhknadoaaDoorStepA
namespace Go.Proofs.YtphghklhknadoaaDoor
open Go.RowKit

theorem walk_StepTwist (p : Int) (x : Option Addr) (len cap : Nat) (xa : List Ax) (a : Int) (y : Option Addr) (m cap' : Nat) (zs : List Int) (w : World) (_hp : (Lit.int .u64 p).wf = true) (hA : AxisIn w x len cap xa) (hlb : len ≤ 8796093022208) (ha : (Lit.int .i64 a).wf = true) (hr : RowIn .u64 w y m cap' zs) (hG : Gl w) :
    Calls Tryd.prog 11 #[.int .u64 p, .slice x len cap, .int .i64 a, .slice y m cap'] w fun e w' => e = .returned (.bool true) ∧ Below w.heap.size w w' :=
  steptwist_walk stepHas p x len cap xa a y m cap' zs w _hp hA hlb ha hr hG

end Go.Proofs.YtphghklhknadoaaDoor
