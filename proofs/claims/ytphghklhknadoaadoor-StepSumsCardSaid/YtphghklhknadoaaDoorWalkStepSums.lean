/-
  The walk of StepSums, over the landed code.
-/
import Derived.Test.YtphghklhknadoaaDoorStepB
import Derived.Test.YtphghklhknadoaaDoorLawStepSums
import Derived.Test.YtphghklhknadoaaDoorStepA
namespace Go.Proofs.YtphghklhknadoaaDoor
open Go.RowKit

theorem walk_StepSums (p : Int) (ax : Option Addr) (na acap : Nat) (xa : List Ax) (inv : Bool) (s : Sp) (x : Option Addr) (len cap : Nat) (zs : List Int) (y : Option Addr) (len' cap' : Nat) (zs' : List Int) (c : Int) (w : World) (_hp : (Lit.int .u64 p).wf = true) (hA : AxisIn w ax na acap xa) (hlb : na ≤ 8796093022208) (hs : SpIn s) (hr : RowIn .u64 w x len cap zs) (hr' : RowIn .u64 w y len' cap' zs') (hc : (Lit.int .u64 c).wf = true) (hG : Gl w) :
    Calls Tryd.prog 7 #[.int .u64 p, .slice ax na acap, .bool inv, spV s, .slice x len cap, .slice y len' cap', .int .u64 c] w fun e w' => e = .returned (.bool true) ∧ Below w.heap.size w w' :=
  stepsums_walk stepHas p ax na acap xa inv s x len cap zs y len' cap' zs' c w _hp hA hlb hs hr hr' hc hG

end Go.Proofs.YtphghklhknadoaaDoor
