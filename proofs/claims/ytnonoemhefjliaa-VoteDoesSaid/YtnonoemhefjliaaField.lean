/-
  What each function of package field comes to, as a contract over every input: the numbers of XMath. No condition but that the numbers are 64-bit words.
-/
import Derived.Test.YtnonoemhefjliaaProg
import Derived.Test.YtnonoemhefjliaaMath
import Derived.WalkKit
import Derived.WalkSpells
import Derived.Deep.QuietTactic
import Derived.BigQuiet
import Derived.Lib.Hide
namespace Go.Proofs.Ytnonoemhefjliaa
open Go.RowKit

theorem ret_u64 {a b : Int} (h : a = b) : Ending.returned (.int .u64 a) = .returned (.int .u64 b) := by rw [h]

/-- It returns v, and has only drawn. -/
def RetQ (v : Value) (w : World) (e : Ending) (w' : World) : Prop := e = .returned v ∧ ∃ n, w' = w.drewN n

end Go.Proofs.Ytnonoemhefjliaa
