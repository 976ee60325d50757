/-
  The walks of two laws over package power: PowerSums and PowerBack return true for every words.
-/
import Derived.Test.YtabffpokcghnmaaDoorPower
import Derived.Test.YtabffpokcghnmaaDoorLawRing
namespace Go.Proofs.YtabffpokcghnmaaDoor
open Go.RowKit

namespace Fp
theorem kn_one : kn 998244353 = true := by decide
theorem inv_two : inv 998244353 2 = 499122177 := by
  rw [inv_only (x := 499122177) kn_one (by decide) (by decide)]; decide
theorem red_two : red 998244353 2 ≠ 0 := by decide
end Fp

theorem word32_of {a : Int} (h : (Lit.int .u32 a).wf = true) : 0 ≤ a ∧ a < 4294967296 := by
  have := bounds_u32 h
  omega
theorem prod32 {n m : Int} (n0 : 0 ≤ n) (n1 : n < 4294967296) (m0 : 0 ≤ m) (m1 : m < 4294967296) : 0 ≤ n * m ∧ n * m < 18446744073709551616 ∧ (n * m).toNat = n.toNat * m.toNat := by
  have h0 : 0 ≤ n * m := Int.mul_nonneg n0 m0
  have h1 : n * m ≤ 4294967295 * 4294967295 := Int.mul_le_mul (by omega) (by omega) m0 (by omega)
  refine ⟨h0, by omega, ?_⟩
  rw [Int.toNat_mul n0 m0]

end Go.Proofs.YtabffpokcghnmaaDoor
