/-
  The walks of two laws over package field: FieldRing and FieldZero return true for every four words.
-/
import Derived.Test.YtabffpokcghnmaaDoorMul
import Derived.RowKit3
import Derived.OpenShut
namespace Go.Proofs.YtabffpokcghnmaaDoor
open Go.RowKit

theorem word_of {a : Int} (h : (Lit.int .u64 a).wf = true) : 0 ≤ a ∧ a < 18446744073709551616 := by
  have := bounds_u64 h
  omega

theorem grown_draws (w : World) (n : Nat) : Grown w (w.drewN n) := Grown.refl w

end Go.Proofs.YtabffpokcghnmaaDoor
