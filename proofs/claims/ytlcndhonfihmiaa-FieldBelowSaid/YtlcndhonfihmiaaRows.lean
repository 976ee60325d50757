/-
  No cell of these rows narrows 'for every input' (looked for: loops, veiled, ifaces, maps, wideKeys, modest, calm, conditions, laid).
  DERIVED. THE GIVEN ROWS OF THIS SEAT. 4 by the template 'for every input the law returns true; each argument reads behind the call as it read before'; 0 by the template 'total and deterministic' (their statements: YtlcndhonfihmiaaTotals.lean).
  GIVEN WITH THE SEED: the statements are not yours to turn. If you find one false, say at which input.
  Laid BY PROGRAM, IN A SANDBOX (cutbox-rows.mjs): the forced cells as the released guide's own fill.sh prints them over the translation b6b2ff044b865b87… (all of the seat's roots in one cut). By AI agents, Wed Nov 11 2026. No macro, syntax, notation, axiom, sorry.
-/
import Derived.Test.YtlcndhonfihmiaaChecked
import GoSem.Claim
import GoSem.ClaimJoined
import GoSem.ClaimMapViews
import Derived.JoinedTies
import Derived.KernelRfl
namespace Go.Proofs.Ytlcndhonfihmiaa
/- THE CELL 'sum', in the pinned program and in every row, IS THE sha256 OF THE DUMP (.gsa) THAT YtlcndhonfihmiaaProg.lean LOADS. Nothing in Lean hashes anything: it is a label: what it is worth is what the hold of that sum in a sandbox is worth. -/
noncomputable def Try.pinned : Pinned := { name := "ytlcndhonfihmiaa", sum := "b6b2ff044b865b87186c2773babe3b87d2d10fe803198b678733c8b4b137a6cc", checked := Try.checked }
namespace Rows
def none {H : Type} : Left H := { results := [], args := [] }

/-- 'brackenlaw01.FieldDoes': WHATEVER THE INPUT: true; the input reads as it did. -/
def fieldDoesSpec : ChangeSpec := { name := "fieldDoes", fn := fun _ => fun
  | [d1, d2, d3, d4] => { results := [.lit (.bool true)], args := [d1, d2, d3, d4] }
  | _ => none }
def fieldDoesRow : OpenClaim := { program := "ytlcndhonfihmiaa", sum := "b6b2ff044b865b87186c2773babe3b87d2d10fe803198b678733c8b4b137a6cc", func := "bracken/brackenlaw01.FieldDoes", spec := "fieldDoes", named := ["math/bits.divideError", "math/bits.overflowError"], apart := false }
def FieldDoesSaid : Prop := fieldDoesRow.holds Try.pinned (OpenSpec.ofChange fieldDoesSpec)

/-- ITS FALSE NEIGHBOUR: 'it returns false'. Refute it at one input. -/
def fieldDoesWrong : ChangeSpec := { name := "fieldDoes", fn := fun _ => fun
  | [d1, d2, d3, d4] => { results := [.lit (.bool false)], args := [d1, d2, d3, d4] }
  | _ => none }
def FieldDoesWrongFalsely : Prop := fieldDoesRow.holds Try.pinned (OpenSpec.ofChange fieldDoesWrong)

/-- 'brackenlaw01.FieldRing': WHATEVER THE INPUT: true; the input reads as it did. -/
def fieldRingSpec : ChangeSpec := { name := "fieldRing", fn := fun _ => fun
  | [d1, d2, d3, d4] => { results := [.lit (.bool true)], args := [d1, d2, d3, d4] }
  | _ => none }
def fieldRingRow : OpenClaim := { program := "ytlcndhonfihmiaa", sum := "b6b2ff044b865b87186c2773babe3b87d2d10fe803198b678733c8b4b137a6cc", func := "bracken/brackenlaw01.FieldRing", spec := "fieldRing", named := ["math/bits.divideError", "math/bits.overflowError"], apart := false }
def FieldRingSaid : Prop := fieldRingRow.holds Try.pinned (OpenSpec.ofChange fieldRingSpec)

/-- ITS FALSE NEIGHBOUR: 'it returns false'. Refute it at one input. -/
def fieldRingWrong : ChangeSpec := { name := "fieldRing", fn := fun _ => fun
  | [d1, d2, d3, d4] => { results := [.lit (.bool false)], args := [d1, d2, d3, d4] }
  | _ => none }
def FieldRingWrongFalsely : Prop := fieldRingRow.holds Try.pinned (OpenSpec.ofChange fieldRingWrong)

/-- 'brackenlaw01.FieldBelow': WHATEVER THE INPUT: true; the input reads as it did. -/
def fieldBelowSpec : ChangeSpec := { name := "fieldBelow", fn := fun _ => fun
  | [d1, d2, d3] => { results := [.lit (.bool true)], args := [d1, d2, d3] }
  | _ => none }
def fieldBelowRow : OpenClaim := { program := "ytlcndhonfihmiaa", sum := "b6b2ff044b865b87186c2773babe3b87d2d10fe803198b678733c8b4b137a6cc", func := "bracken/brackenlaw01.FieldBelow", spec := "fieldBelow", named := ["math/bits.divideError", "math/bits.overflowError"], apart := false }
def FieldBelowSaid : Prop := fieldBelowRow.holds Try.pinned (OpenSpec.ofChange fieldBelowSpec)

/-- ITS FALSE NEIGHBOUR: 'it returns false'. Refute it at one input. -/
def fieldBelowWrong : ChangeSpec := { name := "fieldBelow", fn := fun _ => fun
  | [d1, d2, d3] => { results := [.lit (.bool false)], args := [d1, d2, d3] }
  | _ => none }
def FieldBelowWrongFalsely : Prop := fieldBelowRow.holds Try.pinned (OpenSpec.ofChange fieldBelowWrong)

/-- 'brackenlaw01.FieldZero': WHATEVER THE INPUT: true; the input reads as it did. -/
def fieldZeroSpec : ChangeSpec := { name := "fieldZero", fn := fun _ => fun
  | [d1, d2, d3, d4] => { results := [.lit (.bool true)], args := [d1, d2, d3, d4] }
  | _ => none }
def fieldZeroRow : OpenClaim := { program := "ytlcndhonfihmiaa", sum := "b6b2ff044b865b87186c2773babe3b87d2d10fe803198b678733c8b4b137a6cc", func := "bracken/brackenlaw01.FieldZero", spec := "fieldZero", named := ["math/bits.divideError", "math/bits.overflowError"], apart := false }
def FieldZeroSaid : Prop := fieldZeroRow.holds Try.pinned (OpenSpec.ofChange fieldZeroSpec)

/-- ITS FALSE NEIGHBOUR: 'it returns false'. Refute it at one input. -/
def fieldZeroWrong : ChangeSpec := { name := "fieldZero", fn := fun _ => fun
  | [d1, d2, d3, d4] => { results := [.lit (.bool false)], args := [d1, d2, d3, d4] }
  | _ => none }
def FieldZeroWrongFalsely : Prop := fieldZeroRow.holds Try.pinned (OpenSpec.ofChange fieldZeroWrong)

/- THE SECOND FORM. 'bulk': how many values and letters a reading holds, each counted each time it is reached (what is shared counts as often as it is met; a slice's spare places count too). A statement '..UptoSaid' is the law's where the arguments, and the package variables that the reading takes, are together of bulk at most 1048576: NARROWER than '..Said'. Prove '..Said' where nothing that the law and all that it calls make is longer than what came in: it says more and counts as full. Else prove '..UptoSaid'. A law counts once. -/
mutual
def uptoBulk {H : Type} : DataW H → Nat
  | .lit (.string bytes) => bytes.length + 1
  | .lit _ => 1
  | .nil => 1
  | .ptr d => uptoBulk d + 1
  | .slice elems spare => uptoBulkAll elems + uptoBulkAll spare + 1
  | .agg parts => uptoBulkAll parts + 1
  | .iface _ d => uptoBulk d + 1
  | .map entries => uptoBulkEntries entries + 1
  | .held _ => 1
def uptoBulkAll {H : Type} : List (DataW H) → Nat
  | [] => 0
  | d :: r => uptoBulk d + uptoBulkAll r
def uptoBulkEntries {H : Type} : List (Lit × DataW H) → Nat
  | [] => 0
  | x :: r => uptoBulkEntry x + uptoBulkEntries r
def uptoBulkEntry {H : Type} : Lit × DataW H → Nat
  | (.string bytes, d) => bytes.length + uptoBulk d + 1
  | (_, d) => uptoBulk d + 1
 end
def uptoSmall : (H : Type) → List (DataW H) → Bool := fun _ ds => decide (uptoBulkAll ds ≤ 1048576)
def OpenSpec.upto (s : _root_.Go.ChangeSpec) : _root_.Go.OpenSpec := { _root_.Go.OpenSpec.ofChange s with cond := some uptoSmall }

/-- 'brackenlaw01.FieldDoes', WHERE WHAT IT READS IS OF BULK AT MOST 1048576: true; the input reads as it did. -/
def fieldDoesUptoRow : OpenClaim := { program := "ytlcndhonfihmiaa", sum := "b6b2ff044b865b87186c2773babe3b87d2d10fe803198b678733c8b4b137a6cc", func := "bracken/brackenlaw01.FieldDoes", spec := "fieldDoes", named := ["math/bits.divideError", "math/bits.overflowError"], apart := false, narrowed := true }
def FieldDoesUptoSaid : Prop := fieldDoesUptoRow.holds Try.pinned (OpenSpec.upto fieldDoesSpec)

/-- 'brackenlaw01.FieldRing', WHERE WHAT IT READS IS OF BULK AT MOST 1048576: true; the input reads as it did. -/
def fieldRingUptoRow : OpenClaim := { program := "ytlcndhonfihmiaa", sum := "b6b2ff044b865b87186c2773babe3b87d2d10fe803198b678733c8b4b137a6cc", func := "bracken/brackenlaw01.FieldRing", spec := "fieldRing", named := ["math/bits.divideError", "math/bits.overflowError"], apart := false, narrowed := true }
def FieldRingUptoSaid : Prop := fieldRingUptoRow.holds Try.pinned (OpenSpec.upto fieldRingSpec)

/-- 'brackenlaw01.FieldBelow', WHERE WHAT IT READS IS OF BULK AT MOST 1048576: true; the input reads as it did. -/
def fieldBelowUptoRow : OpenClaim := { program := "ytlcndhonfihmiaa", sum := "b6b2ff044b865b87186c2773babe3b87d2d10fe803198b678733c8b4b137a6cc", func := "bracken/brackenlaw01.FieldBelow", spec := "fieldBelow", named := ["math/bits.divideError", "math/bits.overflowError"], apart := false, narrowed := true }
def FieldBelowUptoSaid : Prop := fieldBelowUptoRow.holds Try.pinned (OpenSpec.upto fieldBelowSpec)

/-- 'brackenlaw01.FieldZero', WHERE WHAT IT READS IS OF BULK AT MOST 1048576: true; the input reads as it did. -/
def fieldZeroUptoRow : OpenClaim := { program := "ytlcndhonfihmiaa", sum := "b6b2ff044b865b87186c2773babe3b87d2d10fe803198b678733c8b4b137a6cc", func := "bracken/brackenlaw01.FieldZero", spec := "fieldZero", named := ["math/bits.divideError", "math/bits.overflowError"], apart := false, narrowed := true }
def FieldZeroUptoSaid : Prop := fieldZeroUptoRow.holds Try.pinned (OpenSpec.upto fieldZeroSpec)

end Rows
end Go.Proofs.Ytlcndhonfihmiaa
