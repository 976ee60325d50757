/-
  NARROWER THAN 'FOR EVERY INPUT', by the rows' own cells (each row's printed sentence says how): RootDoes: laid · RootOrder: laid · RootSteps: laid · RootSum: laid.
  DERIVED. THE GIVEN ROWS OF THIS SEAT. 4 by the template 'for every input the law returns true; each argument reads behind the call as it read before'; 0 by the template 'total and deterministic' (their statements: YtabffpokcghnmaaDoorTotals.lean).
  GIVEN WITH THE SEED: the statements are not yours to turn. If you find one false, say at which input.
  Laid BY PROGRAM, IN A SANDBOX (cutbox-rows.mjs): the forced cells as the released guide's own fill.sh prints them over the translation 24b749aa46646e14… (all of the seat's roots in one cut). By AI agents, Wed Nov 11 2026. No macro, syntax, notation, axiom, sorry.
-/
import Derived.Test.YtabffpokcghnmaaDoorChecked
import GoSem.Claim
import GoSem.ClaimJoined
import GoSem.ClaimMapViews
import Derived.JoinedTies
import Derived.KernelRfl
namespace Go.Proofs.YtabffpokcghnmaaDoor
/- THE CELL 'sum', in the pinned program and in every row, IS THE sha256 OF THE DUMP (.gsa) THAT YtabffpokcghnmaaDoorProg.lean LOADS. Nothing in Lean hashes anything: it is a label: what it is worth is what the hold of that sum in a sandbox is worth. -/
noncomputable def Tryd.pinned : Pinned := { name := "ytabffpokcghnmaadoor", sum := "24b749aa46646e14c6fc39617b9302527022f0124451f8a76cbc4b37accb42d5", checked := Tryd.checked }
namespace Rows
def none {H : Type} : Left H := { results := [], args := [] }

/- WHAT THE LISTED PACKAGE-LEVEL VARIABLES READ AS WHEN THE CALL BEGINS. Each datum BY PROGRAM (the guide's laid-datum.mjs) off the statement by which the dump's own 'gosem.cut.vars' lays the variable. In a bare row this is a premise. The card (YtabffpokcghnmaaDoorCards.lean) ties it to the program's text. -/
def laid_bracken_root_generators {H : Type} : DataW H := .agg [.agg [.lit (.int .u64 18446744069414584321), .lit (.int .u64 7)], .agg [.lit (.int .u64 998244353), .lit (.int .u64 3)], .agg [.lit (.int .u64 2013265921), .lit (.int .u64 31)]]

/-- 'brackenlaw03.RootDoes': WHATEVER THE INPUT: true; the input reads as it did. -/
def rootDoesSpec : ChangeSpec := { name := "rootDoes", fn := fun _ => fun
  | [d1, d2, d3] => { results := [.lit (.bool true)], args := [d1, d2, d3] }
  | _ => none }
def rootDoesRow : OpenClaim := { program := "ytabffpokcghnmaadoor", sum := "24b749aa46646e14c6fc39617b9302527022f0124451f8a76cbc4b37accb42d5", func := "bracken/brackenlaw03.RootDoes", spec := "rootDoes", recurses := true, named := ["bracken/root.generators", "math/bits.divideError", "math/bits.overflowError"], apart := false, laid := [("bracken/root.generators", laid_bracken_root_generators)] }
def RootDoesSaid : Prop := rootDoesRow.holds Tryd.pinned (OpenSpec.ofChange rootDoesSpec)

/-- ITS FALSE NEIGHBOUR: 'it returns false'. Refute it at one input. -/
def rootDoesWrong : ChangeSpec := { name := "rootDoes", fn := fun _ => fun
  | [d1, d2, d3] => { results := [.lit (.bool false)], args := [d1, d2, d3] }
  | _ => none }
def RootDoesWrongFalsely : Prop := rootDoesRow.holds Tryd.pinned (OpenSpec.ofChange rootDoesWrong)

/-- 'brackenlaw03.RootOrder': WHATEVER THE INPUT: true; the input reads as it did. -/
def rootOrderSpec : ChangeSpec := { name := "rootOrder", fn := fun _ => fun
  | [d1, d2, d3] => { results := [.lit (.bool true)], args := [d1, d2, d3] }
  | _ => none }
def rootOrderRow : OpenClaim := { program := "ytabffpokcghnmaadoor", sum := "24b749aa46646e14c6fc39617b9302527022f0124451f8a76cbc4b37accb42d5", func := "bracken/brackenlaw03.RootOrder", spec := "rootOrder", named := ["bracken/root.generators", "math/bits.divideError", "math/bits.overflowError"], apart := false, laid := [("bracken/root.generators", laid_bracken_root_generators)] }
def RootOrderSaid : Prop := rootOrderRow.holds Tryd.pinned (OpenSpec.ofChange rootOrderSpec)

/-- ITS FALSE NEIGHBOUR: 'it returns false'. Refute it at one input. -/
def rootOrderWrong : ChangeSpec := { name := "rootOrder", fn := fun _ => fun
  | [d1, d2, d3] => { results := [.lit (.bool false)], args := [d1, d2, d3] }
  | _ => none }
def RootOrderWrongFalsely : Prop := rootOrderRow.holds Tryd.pinned (OpenSpec.ofChange rootOrderWrong)

/-- 'brackenlaw03.RootSteps': WHATEVER THE INPUT: true; the input reads as it did. -/
def rootStepsSpec : ChangeSpec := { name := "rootSteps", fn := fun _ => fun
  | [d1, d2, d3] => { results := [.lit (.bool true)], args := [d1, d2, d3] }
  | _ => none }
def rootStepsRow : OpenClaim := { program := "ytabffpokcghnmaadoor", sum := "24b749aa46646e14c6fc39617b9302527022f0124451f8a76cbc4b37accb42d5", func := "bracken/brackenlaw03.RootSteps", spec := "rootSteps", named := ["bracken/root.generators", "math/bits.divideError", "math/bits.overflowError"], apart := false, laid := [("bracken/root.generators", laid_bracken_root_generators)] }
def RootStepsSaid : Prop := rootStepsRow.holds Tryd.pinned (OpenSpec.ofChange rootStepsSpec)

/-- ITS FALSE NEIGHBOUR: 'it returns false'. Refute it at one input. -/
def rootStepsWrong : ChangeSpec := { name := "rootSteps", fn := fun _ => fun
  | [d1, d2, d3] => { results := [.lit (.bool false)], args := [d1, d2, d3] }
  | _ => none }
def RootStepsWrongFalsely : Prop := rootStepsRow.holds Tryd.pinned (OpenSpec.ofChange rootStepsWrong)

/-- 'brackenlaw03.RootSum': WHATEVER THE INPUT: true; the input reads as it did. -/
def rootSumSpec : ChangeSpec := { name := "rootSum", fn := fun _ => fun
  | [d1, d2, d3] => { results := [.lit (.bool true)], args := [d1, d2, d3] }
  | _ => none }
def rootSumRow : OpenClaim := { program := "ytabffpokcghnmaadoor", sum := "24b749aa46646e14c6fc39617b9302527022f0124451f8a76cbc4b37accb42d5", func := "bracken/brackenlaw03.RootSum", spec := "rootSum", named := ["bracken/root.generators", "math/bits.divideError", "math/bits.overflowError"], apart := false, laid := [("bracken/root.generators", laid_bracken_root_generators)] }
def RootSumSaid : Prop := rootSumRow.holds Tryd.pinned (OpenSpec.ofChange rootSumSpec)

/-- ITS FALSE NEIGHBOUR: 'it returns false'. Refute it at one input. -/
def rootSumWrong : ChangeSpec := { name := "rootSum", fn := fun _ => fun
  | [d1, d2, d3] => { results := [.lit (.bool false)], args := [d1, d2, d3] }
  | _ => none }
def RootSumWrongFalsely : Prop := rootSumRow.holds Tryd.pinned (OpenSpec.ofChange rootSumWrong)

/- THE SECOND FORM. 'bulk': how many values and letters a reading holds, each counted each time it is reached (what is shared counts as often as it is met; a slice's spare places count too). A statement '..UptoSaid' is the law's where the arguments, and the package variables that the reading takes, are together of bulk at most 1048576: NARROWER than '..Said'. Prove '..Said' where nothing that the law and all that it calls make is longer than what came in: it says more and counts as full. Else prove '..UptoSaid'. A law counts once. -/
mutual
def uptoBulk {H : Type} : DataW H → Nat
  | .lit (.string bytes) => bytes.length + 1
  | .lit _ => 1
  | .nil => 1
  | .ptr d => uptoBulk d + 1
  | .slice elems spare => uptoBulkAll elems + uptoBulkAll spare + 1
  | .agg parts => uptoBulkAll parts + 1
  | .iface _ d => uptoBulk d + 1
  | .map entries => uptoBulkEntries entries + 1
  | .held _ => 1
def uptoBulkAll {H : Type} : List (DataW H) → Nat
  | [] => 0
  | d :: r => uptoBulk d + uptoBulkAll r
def uptoBulkEntries {H : Type} : List (Lit × DataW H) → Nat
  | [] => 0
  | x :: r => uptoBulkEntry x + uptoBulkEntries r
def uptoBulkEntry {H : Type} : Lit × DataW H → Nat
  | (.string bytes, d) => bytes.length + uptoBulk d + 1
  | (_, d) => uptoBulk d + 1
 end
def uptoSmall : (H : Type) → List (DataW H) → Bool := fun _ ds => decide (uptoBulkAll ds ≤ 1048576)
def OpenSpec.upto (s : _root_.Go.ChangeSpec) : _root_.Go.OpenSpec := { _root_.Go.OpenSpec.ofChange s with cond := some uptoSmall }

/-- 'brackenlaw03.RootDoes', WHERE WHAT IT READS IS OF BULK AT MOST 1048576: true; the input reads as it did. -/
def rootDoesUptoRow : OpenClaim := { program := "ytabffpokcghnmaadoor", sum := "24b749aa46646e14c6fc39617b9302527022f0124451f8a76cbc4b37accb42d5", func := "bracken/brackenlaw03.RootDoes", spec := "rootDoes", recurses := true, named := ["bracken/root.generators", "math/bits.divideError", "math/bits.overflowError"], apart := false, laid := [("bracken/root.generators", laid_bracken_root_generators)], narrowed := true }
def RootDoesUptoSaid : Prop := rootDoesUptoRow.holds Tryd.pinned (OpenSpec.upto rootDoesSpec)

/-- 'brackenlaw03.RootOrder', WHERE WHAT IT READS IS OF BULK AT MOST 1048576: true; the input reads as it did. -/
def rootOrderUptoRow : OpenClaim := { program := "ytabffpokcghnmaadoor", sum := "24b749aa46646e14c6fc39617b9302527022f0124451f8a76cbc4b37accb42d5", func := "bracken/brackenlaw03.RootOrder", spec := "rootOrder", named := ["bracken/root.generators", "math/bits.divideError", "math/bits.overflowError"], apart := false, laid := [("bracken/root.generators", laid_bracken_root_generators)], narrowed := true }
def RootOrderUptoSaid : Prop := rootOrderUptoRow.holds Tryd.pinned (OpenSpec.upto rootOrderSpec)

/-- 'brackenlaw03.RootSteps', WHERE WHAT IT READS IS OF BULK AT MOST 1048576: true; the input reads as it did. -/
def rootStepsUptoRow : OpenClaim := { program := "ytabffpokcghnmaadoor", sum := "24b749aa46646e14c6fc39617b9302527022f0124451f8a76cbc4b37accb42d5", func := "bracken/brackenlaw03.RootSteps", spec := "rootSteps", named := ["bracken/root.generators", "math/bits.divideError", "math/bits.overflowError"], apart := false, laid := [("bracken/root.generators", laid_bracken_root_generators)], narrowed := true }
def RootStepsUptoSaid : Prop := rootStepsUptoRow.holds Tryd.pinned (OpenSpec.upto rootStepsSpec)

/-- 'brackenlaw03.RootSum', WHERE WHAT IT READS IS OF BULK AT MOST 1048576: true; the input reads as it did. -/
def rootSumUptoRow : OpenClaim := { program := "ytabffpokcghnmaadoor", sum := "24b749aa46646e14c6fc39617b9302527022f0124451f8a76cbc4b37accb42d5", func := "bracken/brackenlaw03.RootSum", spec := "rootSum", named := ["bracken/root.generators", "math/bits.divideError", "math/bits.overflowError"], apart := false, laid := [("bracken/root.generators", laid_bracken_root_generators)], narrowed := true }
def RootSumUptoSaid : Prop := rootSumUptoRow.holds Tryd.pinned (OpenSpec.upto rootSumSpec)

end Rows
end Go.Proofs.YtabffpokcghnmaaDoor
