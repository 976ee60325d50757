/-
  The walk of StepDoes, over the landed code.
-/
import Derived.Test.YtphghklhknadoaaDoorStepB
import Derived.Test.YtphghklhknadoaaDoorLawStepDoes
import Derived.Test.YtphghklhknadoaaDoorStepA
namespace Go.Proofs.YtphghklhknadoaaDoor
open Go.RowKit

theorem walk_StepDoes (p : Int) (x : Option Addr) (len cap : Nat) (xa : List Ax) (inv : Bool) (s : Sp) (y : Option Addr) (m cap' : Nat) (zs : List Int) (w : World) (_hp : (Lit.int .u64 p).wf = true) (hA : AxisIn w x len cap xa) (hlb : len ≤ 8796093022208) (hs : SpIn s) (hr : RowIn .u64 w y m cap' zs) (hG : Gl w) :
    Calls Tryd.prog 3 #[.int .u64 p, .slice x len cap, .bool inv, spV s, .slice y m cap'] w fun e w' => e = .returned (.bool true) ∧ Below w.heap.size w w' :=
  stepdoes_walk stepHas p x len cap xa inv s y m cap' zs w _hp hA hlb hs hr hG

end Go.Proofs.YtphghklhknadoaaDoor
