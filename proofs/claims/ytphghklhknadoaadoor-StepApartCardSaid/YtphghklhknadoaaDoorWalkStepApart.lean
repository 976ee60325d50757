/-
  The walk of StepApart, over the landed code.
-/
import Derived.Test.YtphghklhknadoaaDoorStepB
import Derived.Test.YtphghklhknadoaaDoorLawStepApart
import Derived.Test.YtphghklhknadoaaDoorStepA
namespace Go.Proofs.YtphghklhknadoaaDoor
open Go.RowKit

theorem walk_StepApart (p : Int) (x : Option Addr) (len cap : Nat) (xa : List Ax) (inv : Bool) (s : Sp) (y : Option Addr) (m cap' : Nat) (zs : List Int) (a u : Int) (w : World) (_hp : (Lit.int .u64 p).wf = true) (hA : AxisIn w x len cap xa) (hlb : len ≤ 8796093022208) (hs : SpIn s) (hr : RowIn .u64 w y m cap' zs) (ha : (Lit.int .u16 a).wf = true) (hu : (Lit.int .u64 u).wf = true) (hG : Gl w) :
    Calls Tryd.prog 9 #[.int .u64 p, .slice x len cap, .bool inv, spV s, .slice y m cap', .int .u16 a, .int .u64 u] w fun e w' => e = .returned (.bool true) ∧ Below w.heap.size w w' :=
  stepapart_walk stepHas grpHas p x len cap xa inv s y m cap' zs a u w _hp hA hlb hs hr ha hu hG

end Go.Proofs.YtphghklhknadoaaDoor
