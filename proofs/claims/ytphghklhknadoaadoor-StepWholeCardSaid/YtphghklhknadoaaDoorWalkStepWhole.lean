/-
  The walk of StepWhole, over the landed code.
-/
import Derived.Test.YtphghklhknadoaaDoorStepB
import Derived.Test.YtphghklhknadoaaDoorLawStepWhole
import Derived.Test.YtphghklhknadoaaDoorStepA
namespace Go.Proofs.YtphghklhknadoaaDoor
open Go.RowKit

theorem walk_StepWhole (p : Int) (x : Option Addr) (len cap : Nat) (xa : List Ax) (a : Int) (inv : Bool) (y : Option Addr) (m cap' : Nat) (zs : List Int) (w : World) (_hp : (Lit.int .u64 p).wf = true) (hA : AxisIn w x len cap xa) (hlb : len ≤ 8796093022208) (_ha : (Lit.int .i64 a).wf = true) (hr : RowIn .u64 w y m cap' zs) (hG : Gl w) :
    Calls Tryd.prog 5 #[.int .u64 p, .slice x len cap, .int .i64 a, .bool inv, .slice y m cap'] w fun e w' => e = .returned (.bool true) ∧ Below w.heap.size w w' :=
  stepwhole_walk stepHas p x len cap xa a inv y m cap' zs w _hp hA hlb _ha hr hG

end Go.Proofs.YtphghklhknadoaaDoor
