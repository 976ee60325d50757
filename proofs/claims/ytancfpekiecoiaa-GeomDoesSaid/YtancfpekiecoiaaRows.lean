/-
  No cell of these rows narrows 'for every input' (looked for: loops, veiled, ifaces, maps, wideKeys, modest, calm, conditions, laid).
  DERIVED. THE GIVEN ROWS OF THIS SEAT. 4 by the template 'for every input the law returns true; each argument reads behind the call as it read before'; 0 by the template 'total and deterministic' (their statements: YtancfpekiecoiaaTotals.lean).
  GIVEN WITH THE SEED: the statements are not yours to turn. If you find one false, say at which input.
  Laid BY PROGRAM, IN A SANDBOX (cutbox-rows.mjs): the forced cells as the released guide's own fill.sh prints them over the translation 4d869e5ae12fdb59… (all of the seat's roots in one cut). By AI agents, Wed Nov 11 2026. No macro, syntax, notation, axiom, sorry.
-/
import Derived.Test.YtancfpekiecoiaaChecked
import GoSem.Claim
import GoSem.ClaimJoined
import GoSem.ClaimMapViews
import Derived.JoinedTies
import Derived.KernelRfl
namespace Go.Proofs.Ytancfpekiecoiaa
/- THE CELL 'sum', in the pinned program and in every row, IS THE sha256 OF THE DUMP (.gsa) THAT YtancfpekiecoiaaProg.lean LOADS. Nothing in Lean hashes anything: it is a label: what it is worth is what the hold of that sum in a sandbox is worth. -/
noncomputable def Try.pinned : Pinned := { name := "ytancfpekiecoiaa", sum := "4d869e5ae12fdb5913415bf24ae54ba8aaf5f40b39dc894f6bfb89c261d35d10", checked := Try.checked }
namespace Rows
def none {H : Type} : Left H := { results := [], args := [] }

/-- 'brackenlaw08.GeomDoes': WHATEVER THE INPUT: true; the input reads as it did. -/
def geomDoesSpec : ChangeSpec := { name := "geomDoes", fn := fun _ => fun
  | [d1, d2, d3, d4, d5] => { results := [.lit (.bool true)], args := [d1, d2, d3, d4, d5] }
  | _ => none }
def geomDoesRow : OpenClaim := { program := "ytancfpekiecoiaa", sum := "4d869e5ae12fdb5913415bf24ae54ba8aaf5f40b39dc894f6bfb89c261d35d10", func := "bracken/brackenlaw08.GeomDoes", spec := "geomDoes", unfollowed := true, recurses := true, named := ["math/bits.divideError", "math/bits.overflowError"], apart := false }
def GeomDoesSaid : Prop := geomDoesRow.holds Try.pinned (OpenSpec.ofChange geomDoesSpec)

/-- ITS FALSE NEIGHBOUR: 'it returns false'. Refute it at one input. -/
def geomDoesWrong : ChangeSpec := { name := "geomDoes", fn := fun _ => fun
  | [d1, d2, d3, d4, d5] => { results := [.lit (.bool false)], args := [d1, d2, d3, d4, d5] }
  | _ => none }
def GeomDoesWrongFalsely : Prop := geomDoesRow.holds Try.pinned (OpenSpec.ofChange geomDoesWrong)

/-- 'brackenlaw08.GeomSteps': WHATEVER THE INPUT: true; the input reads as it did. -/
def geomStepsSpec : ChangeSpec := { name := "geomSteps", fn := fun _ => fun
  | [d1, d2, d3, d4] => { results := [.lit (.bool true)], args := [d1, d2, d3, d4] }
  | _ => none }
def geomStepsRow : OpenClaim := { program := "ytancfpekiecoiaa", sum := "4d869e5ae12fdb5913415bf24ae54ba8aaf5f40b39dc894f6bfb89c261d35d10", func := "bracken/brackenlaw08.GeomSteps", spec := "geomSteps", recurses := true, named := ["math/bits.divideError", "math/bits.overflowError"], apart := false }
def GeomStepsSaid : Prop := geomStepsRow.holds Try.pinned (OpenSpec.ofChange geomStepsSpec)

/-- ITS FALSE NEIGHBOUR: 'it returns false'. Refute it at one input. -/
def geomStepsWrong : ChangeSpec := { name := "geomSteps", fn := fun _ => fun
  | [d1, d2, d3, d4] => { results := [.lit (.bool false)], args := [d1, d2, d3, d4] }
  | _ => none }
def GeomStepsWrongFalsely : Prop := geomStepsRow.holds Try.pinned (OpenSpec.ofChange geomStepsWrong)

/-- 'brackenlaw08.GeomEval': WHATEVER THE INPUT: true; the input reads as it did. -/
def geomEvalSpec : ChangeSpec := { name := "geomEval", fn := fun _ => fun
  | [d1, d2, d3, d4, d5] => { results := [.lit (.bool true)], args := [d1, d2, d3, d4, d5] }
  | _ => none }
def geomEvalRow : OpenClaim := { program := "ytancfpekiecoiaa", sum := "4d869e5ae12fdb5913415bf24ae54ba8aaf5f40b39dc894f6bfb89c261d35d10", func := "bracken/brackenlaw08.GeomEval", spec := "geomEval", unfollowed := true, recurses := true, named := ["math/bits.divideError", "math/bits.overflowError"], apart := false }
def GeomEvalSaid : Prop := geomEvalRow.holds Try.pinned (OpenSpec.ofChange geomEvalSpec)

/-- ITS FALSE NEIGHBOUR: 'it returns false'. Refute it at one input. -/
def geomEvalWrong : ChangeSpec := { name := "geomEval", fn := fun _ => fun
  | [d1, d2, d3, d4, d5] => { results := [.lit (.bool false)], args := [d1, d2, d3, d4, d5] }
  | _ => none }
def GeomEvalWrongFalsely : Prop := geomEvalRow.holds Try.pinned (OpenSpec.ofChange geomEvalWrong)

/-- 'brackenlaw08.GeomRoots': WHATEVER THE INPUT: true; the input reads as it did. -/
def geomRootsSpec : ChangeSpec := { name := "geomRoots", fn := fun _ => fun
  | [d1, d2, d3] => { results := [.lit (.bool true)], args := [d1, d2, d3] }
  | _ => none }
def geomRootsRow : OpenClaim := { program := "ytancfpekiecoiaa", sum := "4d869e5ae12fdb5913415bf24ae54ba8aaf5f40b39dc894f6bfb89c261d35d10", func := "bracken/brackenlaw08.GeomRoots", spec := "geomRoots", unfollowed := true, recurses := true, named := ["math/bits.divideError", "math/bits.overflowError"], apart := false }
def GeomRootsSaid : Prop := geomRootsRow.holds Try.pinned (OpenSpec.ofChange geomRootsSpec)

/-- ITS FALSE NEIGHBOUR: 'it returns false'. Refute it at one input. -/
def geomRootsWrong : ChangeSpec := { name := "geomRoots", fn := fun _ => fun
  | [d1, d2, d3] => { results := [.lit (.bool false)], args := [d1, d2, d3] }
  | _ => none }
def GeomRootsWrongFalsely : Prop := geomRootsRow.holds Try.pinned (OpenSpec.ofChange geomRootsWrong)

/- THE SECOND FORM. 'bulk': how many values and letters a reading holds, each counted each time it is reached (what is shared counts as often as it is met; a slice's spare places count too). A statement '..UptoSaid' is the law's where the arguments, and the package variables that the reading takes, are together of bulk at most 1048576: NARROWER than '..Said'. Prove '..Said' where nothing that the law and all that it calls make is longer than what came in: it says more and counts as full. Else prove '..UptoSaid'. A law counts once. -/
mutual
def uptoBulk {H : Type} : DataW H → Nat
  | .lit (.string bytes) => bytes.length + 1
  | .lit _ => 1
  | .nil => 1
  | .ptr d => uptoBulk d + 1
  | .slice elems spare => uptoBulkAll elems + uptoBulkAll spare + 1
  | .agg parts => uptoBulkAll parts + 1
  | .iface _ d => uptoBulk d + 1
  | .map entries => uptoBulkEntries entries + 1
  | .held _ => 1
def uptoBulkAll {H : Type} : List (DataW H) → Nat
  | [] => 0
  | d :: r => uptoBulk d + uptoBulkAll r
def uptoBulkEntries {H : Type} : List (Lit × DataW H) → Nat
  | [] => 0
  | x :: r => uptoBulkEntry x + uptoBulkEntries r
def uptoBulkEntry {H : Type} : Lit × DataW H → Nat
  | (.string bytes, d) => bytes.length + uptoBulk d + 1
  | (_, d) => uptoBulk d + 1
 end
def uptoSmall : (H : Type) → List (DataW H) → Bool := fun _ ds => decide (uptoBulkAll ds ≤ 1048576)
def OpenSpec.upto (s : _root_.Go.ChangeSpec) : _root_.Go.OpenSpec := { _root_.Go.OpenSpec.ofChange s with cond := some uptoSmall }

/-- 'brackenlaw08.GeomDoes', WHERE WHAT IT READS IS OF BULK AT MOST 1048576: true; the input reads as it did. -/
def geomDoesUptoRow : OpenClaim := { program := "ytancfpekiecoiaa", sum := "4d869e5ae12fdb5913415bf24ae54ba8aaf5f40b39dc894f6bfb89c261d35d10", func := "bracken/brackenlaw08.GeomDoes", spec := "geomDoes", unfollowed := true, recurses := true, named := ["math/bits.divideError", "math/bits.overflowError"], apart := false, narrowed := true }
def GeomDoesUptoSaid : Prop := geomDoesUptoRow.holds Try.pinned (OpenSpec.upto geomDoesSpec)

/-- 'brackenlaw08.GeomSteps', WHERE WHAT IT READS IS OF BULK AT MOST 1048576: true; the input reads as it did. -/
def geomStepsUptoRow : OpenClaim := { program := "ytancfpekiecoiaa", sum := "4d869e5ae12fdb5913415bf24ae54ba8aaf5f40b39dc894f6bfb89c261d35d10", func := "bracken/brackenlaw08.GeomSteps", spec := "geomSteps", recurses := true, named := ["math/bits.divideError", "math/bits.overflowError"], apart := false, narrowed := true }
def GeomStepsUptoSaid : Prop := geomStepsUptoRow.holds Try.pinned (OpenSpec.upto geomStepsSpec)

/-- 'brackenlaw08.GeomEval', WHERE WHAT IT READS IS OF BULK AT MOST 1048576: true; the input reads as it did. -/
def geomEvalUptoRow : OpenClaim := { program := "ytancfpekiecoiaa", sum := "4d869e5ae12fdb5913415bf24ae54ba8aaf5f40b39dc894f6bfb89c261d35d10", func := "bracken/brackenlaw08.GeomEval", spec := "geomEval", unfollowed := true, recurses := true, named := ["math/bits.divideError", "math/bits.overflowError"], apart := false, narrowed := true }
def GeomEvalUptoSaid : Prop := geomEvalUptoRow.holds Try.pinned (OpenSpec.upto geomEvalSpec)

/-- 'brackenlaw08.GeomRoots', WHERE WHAT IT READS IS OF BULK AT MOST 1048576: true; the input reads as it did. -/
def geomRootsUptoRow : OpenClaim := { program := "ytancfpekiecoiaa", sum := "4d869e5ae12fdb5913415bf24ae54ba8aaf5f40b39dc894f6bfb89c261d35d10", func := "bracken/brackenlaw08.GeomRoots", spec := "geomRoots", unfollowed := true, recurses := true, named := ["math/bits.divideError", "math/bits.overflowError"], apart := false, narrowed := true }
def GeomRootsUptoSaid : Prop := geomRootsUptoRow.holds Try.pinned (OpenSpec.upto geomRootsSpec)

end Rows
end Go.Proofs.Ytancfpekiecoiaa
