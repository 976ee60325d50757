/-
  NARROWER THAN 'FOR EVERY INPUT', by the rows' own cells (each row's printed sentence says how): PlanDoes: laid · PlanAsks: laid · PlanWhole: laid · PlanBack: laid · PlanFits: laid · PlanSteps: laid · PlanFirst: laid · PlanItems: laid.
  DERIVED. THE GIVEN ROWS OF THIS SEAT. 8 by the template 'for every input the law returns true; each argument reads behind the call as it read before'; 0 by the template 'total and deterministic' (their statements: YtlbfllaaabginaaDoorTotals.lean).
  GIVEN WITH THE SEED: the statements are not yours to turn. If you find one false, say at which input.
  Laid BY PROGRAM, IN A SANDBOX (cutbox-rows.mjs): the forced cells as the released guide's own fill.sh prints them over the translation 444b4691ed91daf5… (all of the seat's roots in one cut). By AI agents, Wed Nov 11 2026. No macro, syntax, notation, axiom, sorry.
-/
import Derived.Test.YtlbfllaaabginaaDoorChecked
import GoSem.Claim
import GoSem.ClaimJoined
import GoSem.ClaimMapViews
import Derived.JoinedTies
import Derived.KernelRfl
namespace Go.Proofs.YtlbfllaaabginaaDoor
/- THE CELL 'sum', in the pinned program and in every row, IS THE sha256 OF THE DUMP (.gsa) THAT YtlbfllaaabginaaDoorProg.lean LOADS. Nothing in Lean hashes anything: it is a label: what it is worth is what the hold of that sum in a sandbox is worth. -/
noncomputable def Tryd.pinned : Pinned := { name := "ytlbfllaaabginaadoor", sum := "444b4691ed91daf540f873e9e59151ff4802229227073f2e13b630e29a0d7045", checked := Tryd.checked }
namespace Rows
def none {H : Type} : Left H := { results := [], args := [] }

/- WHAT THE LISTED PACKAGE-LEVEL VARIABLES READ AS WHEN THE CALL BEGINS. Each datum BY PROGRAM (the guide's laid-datum.mjs) off the statement by which the dump's own 'gosem.cut.vars' lays the variable. In a bare row this is a premise. The card (YtlbfllaaabginaaDoorCards.lean) ties it to the program's text. -/
def laid_bracken_root_generators {H : Type} : DataW H := .agg [.agg [.lit (.int .u64 18446744069414584321), .lit (.int .u64 7)], .agg [.lit (.int .u64 998244353), .lit (.int .u64 3)], .agg [.lit (.int .u64 2013265921), .lit (.int .u64 31)]]

/-- 'brackenlaw17.PlanDoes': WHATEVER THE INPUT: true; the input reads as it did. -/
def planDoesSpec : ChangeSpec := { name := "planDoes", fn := fun _ => fun
  | [d1, d2, d3] => { results := [.lit (.bool true)], args := [d1, d2, d3] }
  | _ => none }
def planDoesRow : OpenClaim := { program := "ytlbfllaaabginaadoor", sum := "444b4691ed91daf540f873e9e59151ff4802229227073f2e13b630e29a0d7045", func := "bracken/brackenlaw17.PlanDoes", spec := "planDoes", unfollowed := true, recurses := true, named := ["bracken/root.generators", "math/bits.divideError", "math/bits.overflowError"], apart := false, laid := [("bracken/root.generators", laid_bracken_root_generators)] }
def PlanDoesSaid : Prop := planDoesRow.holds Tryd.pinned (OpenSpec.ofChange planDoesSpec)

/-- ITS FALSE NEIGHBOUR: 'it returns false'. Refute it at one input. -/
def planDoesWrong : ChangeSpec := { name := "planDoes", fn := fun _ => fun
  | [d1, d2, d3] => { results := [.lit (.bool false)], args := [d1, d2, d3] }
  | _ => none }
def PlanDoesWrongFalsely : Prop := planDoesRow.holds Tryd.pinned (OpenSpec.ofChange planDoesWrong)

/-- 'brackenlaw17.PlanAsks': WHATEVER THE INPUT: true; the input reads as it did. -/
def planAsksSpec : ChangeSpec := { name := "planAsks", fn := fun _ => fun
  | [d1, d2] => { results := [.lit (.bool true)], args := [d1, d2] }
  | _ => none }
def planAsksRow : OpenClaim := { program := "ytlbfllaaabginaadoor", sum := "444b4691ed91daf540f873e9e59151ff4802229227073f2e13b630e29a0d7045", func := "bracken/brackenlaw17.PlanAsks", spec := "planAsks", unfollowed := true, recurses := true, named := ["bracken/root.generators", "math/bits.divideError", "math/bits.overflowError"], apart := false, laid := [("bracken/root.generators", laid_bracken_root_generators)] }
def PlanAsksSaid : Prop := planAsksRow.holds Tryd.pinned (OpenSpec.ofChange planAsksSpec)

/-- ITS FALSE NEIGHBOUR: 'it returns false'. Refute it at one input. -/
def planAsksWrong : ChangeSpec := { name := "planAsks", fn := fun _ => fun
  | [d1, d2] => { results := [.lit (.bool false)], args := [d1, d2] }
  | _ => none }
def PlanAsksWrongFalsely : Prop := planAsksRow.holds Tryd.pinned (OpenSpec.ofChange planAsksWrong)

/-- 'brackenlaw17.PlanWhole': WHATEVER THE INPUT: true; the input reads as it did. -/
def planWholeSpec : ChangeSpec := { name := "planWhole", fn := fun _ => fun
  | [d1, d2, d3, d4] => { results := [.lit (.bool true)], args := [d1, d2, d3, d4] }
  | _ => none }
def planWholeRow : OpenClaim := { program := "ytlbfllaaabginaadoor", sum := "444b4691ed91daf540f873e9e59151ff4802229227073f2e13b630e29a0d7045", func := "bracken/brackenlaw17.PlanWhole", spec := "planWhole", unfollowed := true, recurses := true, named := ["bracken/root.generators", "math/bits.divideError", "math/bits.overflowError"], apart := false, laid := [("bracken/root.generators", laid_bracken_root_generators)] }
def PlanWholeSaid : Prop := planWholeRow.holds Tryd.pinned (OpenSpec.ofChange planWholeSpec)

/-- ITS FALSE NEIGHBOUR: 'it returns false'. Refute it at one input. -/
def planWholeWrong : ChangeSpec := { name := "planWhole", fn := fun _ => fun
  | [d1, d2, d3, d4] => { results := [.lit (.bool false)], args := [d1, d2, d3, d4] }
  | _ => none }
def PlanWholeWrongFalsely : Prop := planWholeRow.holds Tryd.pinned (OpenSpec.ofChange planWholeWrong)

/-- 'brackenlaw17.PlanBack': WHATEVER THE INPUT: true; the input reads as it did. -/
def planBackSpec : ChangeSpec := { name := "planBack", fn := fun _ => fun
  | [d1, d2, d3, d4] => { results := [.lit (.bool true)], args := [d1, d2, d3, d4] }
  | _ => none }
def planBackRow : OpenClaim := { program := "ytlbfllaaabginaadoor", sum := "444b4691ed91daf540f873e9e59151ff4802229227073f2e13b630e29a0d7045", func := "bracken/brackenlaw17.PlanBack", spec := "planBack", unfollowed := true, recurses := true, named := ["bracken/root.generators", "math/bits.divideError", "math/bits.overflowError"], apart := false, laid := [("bracken/root.generators", laid_bracken_root_generators)] }
def PlanBackSaid : Prop := planBackRow.holds Tryd.pinned (OpenSpec.ofChange planBackSpec)

/-- ITS FALSE NEIGHBOUR: 'it returns false'. Refute it at one input. -/
def planBackWrong : ChangeSpec := { name := "planBack", fn := fun _ => fun
  | [d1, d2, d3, d4] => { results := [.lit (.bool false)], args := [d1, d2, d3, d4] }
  | _ => none }
def PlanBackWrongFalsely : Prop := planBackRow.holds Tryd.pinned (OpenSpec.ofChange planBackWrong)

/-- 'brackenlaw17.PlanFits': WHATEVER THE INPUT: true; the input reads as it did. -/
def planFitsSpec : ChangeSpec := { name := "planFits", fn := fun _ => fun
  | [d1, d2, d3] => { results := [.lit (.bool true)], args := [d1, d2, d3] }
  | _ => none }
def planFitsRow : OpenClaim := { program := "ytlbfllaaabginaadoor", sum := "444b4691ed91daf540f873e9e59151ff4802229227073f2e13b630e29a0d7045", func := "bracken/brackenlaw17.PlanFits", spec := "planFits", unfollowed := true, recurses := true, named := ["bracken/root.generators", "math/bits.divideError", "math/bits.overflowError"], apart := false, laid := [("bracken/root.generators", laid_bracken_root_generators)] }
def PlanFitsSaid : Prop := planFitsRow.holds Tryd.pinned (OpenSpec.ofChange planFitsSpec)

/-- ITS FALSE NEIGHBOUR: 'it returns false'. Refute it at one input. -/
def planFitsWrong : ChangeSpec := { name := "planFits", fn := fun _ => fun
  | [d1, d2, d3] => { results := [.lit (.bool false)], args := [d1, d2, d3] }
  | _ => none }
def PlanFitsWrongFalsely : Prop := planFitsRow.holds Tryd.pinned (OpenSpec.ofChange planFitsWrong)

/-- 'brackenlaw17.PlanSteps': WHATEVER THE INPUT: true; the input reads as it did. -/
def planStepsSpec : ChangeSpec := { name := "planSteps", fn := fun _ => fun
  | [d1, d2, d3] => { results := [.lit (.bool true)], args := [d1, d2, d3] }
  | _ => none }
def planStepsRow : OpenClaim := { program := "ytlbfllaaabginaadoor", sum := "444b4691ed91daf540f873e9e59151ff4802229227073f2e13b630e29a0d7045", func := "bracken/brackenlaw17.PlanSteps", spec := "planSteps", unfollowed := true, recurses := true, named := ["bracken/root.generators", "math/bits.divideError", "math/bits.overflowError"], apart := false, laid := [("bracken/root.generators", laid_bracken_root_generators)] }
def PlanStepsSaid : Prop := planStepsRow.holds Tryd.pinned (OpenSpec.ofChange planStepsSpec)

/-- ITS FALSE NEIGHBOUR: 'it returns false'. Refute it at one input. -/
def planStepsWrong : ChangeSpec := { name := "planSteps", fn := fun _ => fun
  | [d1, d2, d3] => { results := [.lit (.bool false)], args := [d1, d2, d3] }
  | _ => none }
def PlanStepsWrongFalsely : Prop := planStepsRow.holds Tryd.pinned (OpenSpec.ofChange planStepsWrong)

/-- 'brackenlaw17.PlanFirst': WHATEVER THE INPUT: true; the input reads as it did. -/
def planFirstSpec : ChangeSpec := { name := "planFirst", fn := fun _ => fun
  | [d1, d2, d3] => { results := [.lit (.bool true)], args := [d1, d2, d3] }
  | _ => none }
def planFirstRow : OpenClaim := { program := "ytlbfllaaabginaadoor", sum := "444b4691ed91daf540f873e9e59151ff4802229227073f2e13b630e29a0d7045", func := "bracken/brackenlaw17.PlanFirst", spec := "planFirst", unfollowed := true, recurses := true, named := ["bracken/root.generators", "math/bits.divideError", "math/bits.overflowError"], apart := false, laid := [("bracken/root.generators", laid_bracken_root_generators)] }
def PlanFirstSaid : Prop := planFirstRow.holds Tryd.pinned (OpenSpec.ofChange planFirstSpec)

/-- ITS FALSE NEIGHBOUR: 'it returns false'. Refute it at one input. -/
def planFirstWrong : ChangeSpec := { name := "planFirst", fn := fun _ => fun
  | [d1, d2, d3] => { results := [.lit (.bool false)], args := [d1, d2, d3] }
  | _ => none }
def PlanFirstWrongFalsely : Prop := planFirstRow.holds Tryd.pinned (OpenSpec.ofChange planFirstWrong)

/-- 'brackenlaw17.PlanItems': WHATEVER THE INPUT: true; the input reads as it did. -/
def planItemsSpec : ChangeSpec := { name := "planItems", fn := fun _ => fun
  | [d] => { results := [.lit (.bool true)], args := [d] }
  | _ => none }
def planItemsRow : OpenClaim := { program := "ytlbfllaaabginaadoor", sum := "444b4691ed91daf540f873e9e59151ff4802229227073f2e13b630e29a0d7045", func := "bracken/brackenlaw17.PlanItems", spec := "planItems", unfollowed := true, recurses := true, named := ["bracken/root.generators", "math/bits.divideError", "math/bits.overflowError"], apart := false, laid := [("bracken/root.generators", laid_bracken_root_generators)] }
def PlanItemsSaid : Prop := planItemsRow.holds Tryd.pinned (OpenSpec.ofChange planItemsSpec)

/-- ITS FALSE NEIGHBOUR: 'it returns false'. Refute it at one input. -/
def planItemsWrong : ChangeSpec := { name := "planItems", fn := fun _ => fun
  | [d] => { results := [.lit (.bool false)], args := [d] }
  | _ => none }
def PlanItemsWrongFalsely : Prop := planItemsRow.holds Tryd.pinned (OpenSpec.ofChange planItemsWrong)

/- THE SECOND FORM. 'bulk': how many values and letters a reading holds, each counted each time it is reached (what is shared counts as often as it is met; a slice's spare places count too). A statement '..UptoSaid' is the law's where the arguments, and the package variables that the reading takes, are together of bulk at most 1048576: NARROWER than '..Said'. Prove '..Said' where nothing that the law and all that it calls make is longer than what came in: it says more and counts as full. Else prove '..UptoSaid'. A law counts once. -/
mutual
def uptoBulk {H : Type} : DataW H → Nat
  | .lit (.string bytes) => bytes.length + 1
  | .lit _ => 1
  | .nil => 1
  | .ptr d => uptoBulk d + 1
  | .slice elems spare => uptoBulkAll elems + uptoBulkAll spare + 1
  | .agg parts => uptoBulkAll parts + 1
  | .iface _ d => uptoBulk d + 1
  | .map entries => uptoBulkEntries entries + 1
  | .held _ => 1
def uptoBulkAll {H : Type} : List (DataW H) → Nat
  | [] => 0
  | d :: r => uptoBulk d + uptoBulkAll r
def uptoBulkEntries {H : Type} : List (Lit × DataW H) → Nat
  | [] => 0
  | x :: r => uptoBulkEntry x + uptoBulkEntries r
def uptoBulkEntry {H : Type} : Lit × DataW H → Nat
  | (.string bytes, d) => bytes.length + uptoBulk d + 1
  | (_, d) => uptoBulk d + 1
 end
def uptoSmall : (H : Type) → List (DataW H) → Bool := fun _ ds => decide (uptoBulkAll ds ≤ 1048576)
def OpenSpec.upto (s : _root_.Go.ChangeSpec) : _root_.Go.OpenSpec := { _root_.Go.OpenSpec.ofChange s with cond := some uptoSmall }

/-- 'brackenlaw17.PlanDoes', WHERE WHAT IT READS IS OF BULK AT MOST 1048576: true; the input reads as it did. -/
def planDoesUptoRow : OpenClaim := { program := "ytlbfllaaabginaadoor", sum := "444b4691ed91daf540f873e9e59151ff4802229227073f2e13b630e29a0d7045", func := "bracken/brackenlaw17.PlanDoes", spec := "planDoes", unfollowed := true, recurses := true, named := ["bracken/root.generators", "math/bits.divideError", "math/bits.overflowError"], apart := false, laid := [("bracken/root.generators", laid_bracken_root_generators)], narrowed := true }
def PlanDoesUptoSaid : Prop := planDoesUptoRow.holds Tryd.pinned (OpenSpec.upto planDoesSpec)

/-- 'brackenlaw17.PlanAsks', WHERE WHAT IT READS IS OF BULK AT MOST 1048576: true; the input reads as it did. -/
def planAsksUptoRow : OpenClaim := { program := "ytlbfllaaabginaadoor", sum := "444b4691ed91daf540f873e9e59151ff4802229227073f2e13b630e29a0d7045", func := "bracken/brackenlaw17.PlanAsks", spec := "planAsks", unfollowed := true, recurses := true, named := ["bracken/root.generators", "math/bits.divideError", "math/bits.overflowError"], apart := false, laid := [("bracken/root.generators", laid_bracken_root_generators)], narrowed := true }
def PlanAsksUptoSaid : Prop := planAsksUptoRow.holds Tryd.pinned (OpenSpec.upto planAsksSpec)

/-- 'brackenlaw17.PlanWhole', WHERE WHAT IT READS IS OF BULK AT MOST 1048576: true; the input reads as it did. -/
def planWholeUptoRow : OpenClaim := { program := "ytlbfllaaabginaadoor", sum := "444b4691ed91daf540f873e9e59151ff4802229227073f2e13b630e29a0d7045", func := "bracken/brackenlaw17.PlanWhole", spec := "planWhole", unfollowed := true, recurses := true, named := ["bracken/root.generators", "math/bits.divideError", "math/bits.overflowError"], apart := false, laid := [("bracken/root.generators", laid_bracken_root_generators)], narrowed := true }
def PlanWholeUptoSaid : Prop := planWholeUptoRow.holds Tryd.pinned (OpenSpec.upto planWholeSpec)

/-- 'brackenlaw17.PlanBack', WHERE WHAT IT READS IS OF BULK AT MOST 1048576: true; the input reads as it did. -/
def planBackUptoRow : OpenClaim := { program := "ytlbfllaaabginaadoor", sum := "444b4691ed91daf540f873e9e59151ff4802229227073f2e13b630e29a0d7045", func := "bracken/brackenlaw17.PlanBack", spec := "planBack", unfollowed := true, recurses := true, named := ["bracken/root.generators", "math/bits.divideError", "math/bits.overflowError"], apart := false, laid := [("bracken/root.generators", laid_bracken_root_generators)], narrowed := true }
def PlanBackUptoSaid : Prop := planBackUptoRow.holds Tryd.pinned (OpenSpec.upto planBackSpec)

/-- 'brackenlaw17.PlanFits', WHERE WHAT IT READS IS OF BULK AT MOST 1048576: true; the input reads as it did. -/
def planFitsUptoRow : OpenClaim := { program := "ytlbfllaaabginaadoor", sum := "444b4691ed91daf540f873e9e59151ff4802229227073f2e13b630e29a0d7045", func := "bracken/brackenlaw17.PlanFits", spec := "planFits", unfollowed := true, recurses := true, named := ["bracken/root.generators", "math/bits.divideError", "math/bits.overflowError"], apart := false, laid := [("bracken/root.generators", laid_bracken_root_generators)], narrowed := true }
def PlanFitsUptoSaid : Prop := planFitsUptoRow.holds Tryd.pinned (OpenSpec.upto planFitsSpec)

/-- 'brackenlaw17.PlanSteps', WHERE WHAT IT READS IS OF BULK AT MOST 1048576: true; the input reads as it did. -/
def planStepsUptoRow : OpenClaim := { program := "ytlbfllaaabginaadoor", sum := "444b4691ed91daf540f873e9e59151ff4802229227073f2e13b630e29a0d7045", func := "bracken/brackenlaw17.PlanSteps", spec := "planSteps", unfollowed := true, recurses := true, named := ["bracken/root.generators", "math/bits.divideError", "math/bits.overflowError"], apart := false, laid := [("bracken/root.generators", laid_bracken_root_generators)], narrowed := true }
def PlanStepsUptoSaid : Prop := planStepsUptoRow.holds Tryd.pinned (OpenSpec.upto planStepsSpec)

/-- 'brackenlaw17.PlanFirst', WHERE WHAT IT READS IS OF BULK AT MOST 1048576: true; the input reads as it did. -/
def planFirstUptoRow : OpenClaim := { program := "ytlbfllaaabginaadoor", sum := "444b4691ed91daf540f873e9e59151ff4802229227073f2e13b630e29a0d7045", func := "bracken/brackenlaw17.PlanFirst", spec := "planFirst", unfollowed := true, recurses := true, named := ["bracken/root.generators", "math/bits.divideError", "math/bits.overflowError"], apart := false, laid := [("bracken/root.generators", laid_bracken_root_generators)], narrowed := true }
def PlanFirstUptoSaid : Prop := planFirstUptoRow.holds Tryd.pinned (OpenSpec.upto planFirstSpec)

/-- 'brackenlaw17.PlanItems', WHERE WHAT IT READS IS OF BULK AT MOST 1048576: true; the input reads as it did. -/
def planItemsUptoRow : OpenClaim := { program := "ytlbfllaaabginaadoor", sum := "444b4691ed91daf540f873e9e59151ff4802229227073f2e13b630e29a0d7045", func := "bracken/brackenlaw17.PlanItems", spec := "planItems", unfollowed := true, recurses := true, named := ["bracken/root.generators", "math/bits.divideError", "math/bits.overflowError"], apart := false, laid := [("bracken/root.generators", laid_bracken_root_generators)], narrowed := true }
def PlanItemsUptoSaid : Prop := planItemsUptoRow.holds Tryd.pinned (OpenSpec.upto planItemsSpec)

end Rows
end Go.Proofs.YtlbfllaaabginaaDoor
