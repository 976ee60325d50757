/-
  No cell of these rows narrows 'for every input' (looked for: loops, veiled, ifaces, maps, wideKeys, modest, calm, conditions, laid).
  DERIVED. THE GIVEN ROWS OF THIS SEAT. 4 by the template 'for every input the law returns true; each argument reads behind the call as it read before'; 0 by the template 'total and deterministic' (their statements: YtgiahljjdpbflaaTotals.lean).
  GIVEN WITH THE SEED: the statements are not yours to turn. If you find one false, say at which input.
  Laid BY PROGRAM, IN A SANDBOX (cutbox-rows.mjs): the forced cells as the released guide's own fill.sh prints them over the translation 12a64857edb9c29d… (all of the seat's roots in one cut). By AI agents, Wed Nov 11 2026. No macro, syntax, notation, axiom, sorry.
-/
import Derived.Test.YtgiahljjdpbflaaChecked
import GoSem.Claim
import GoSem.ClaimJoined
import GoSem.ClaimMapViews
import Derived.JoinedTies
import Derived.KernelRfl
namespace Go.Proofs.Ytgiahljjdpbflaa
/- THE CELL 'sum', in the pinned program and in every row, IS THE sha256 OF THE DUMP (.gsa) THAT YtgiahljjdpbflaaProg.lean LOADS. Nothing in Lean hashes anything: it is a label: what it is worth is what the hold of that sum in a sandbox is worth. -/
noncomputable def Try.pinned : Pinned := { name := "ytgiahljjdpbflaa", sum := "12a64857edb9c29d81069b7871016abe065f499e98a78efca816e7e756d434b1", checked := Try.checked }
namespace Rows
def none {H : Type} : Left H := { results := [], args := [] }

/-- 'brackenlaw04.FactorDoes': WHATEVER THE INPUT: true; the input reads as it did. -/
def factorDoesSpec : ChangeSpec := { name := "factorDoes", fn := fun _ => fun
  | [d1, d2] => { results := [.lit (.bool true)], args := [d1, d2] }
  | _ => none }
def factorDoesRow : OpenClaim := { program := "ytgiahljjdpbflaa", sum := "12a64857edb9c29d81069b7871016abe065f499e98a78efca816e7e756d434b1", func := "bracken/brackenlaw04.FactorDoes", spec := "factorDoes", unfollowed := true, recurses := true, apart := false }
def FactorDoesSaid : Prop := factorDoesRow.holds Try.pinned (OpenSpec.ofChange factorDoesSpec)

/-- ITS FALSE NEIGHBOUR: 'it returns false'. Refute it at one input. -/
def factorDoesWrong : ChangeSpec := { name := "factorDoes", fn := fun _ => fun
  | [d1, d2] => { results := [.lit (.bool false)], args := [d1, d2] }
  | _ => none }
def FactorDoesWrongFalsely : Prop := factorDoesRow.holds Try.pinned (OpenSpec.ofChange factorDoesWrong)

/-- 'brackenlaw04.FactorBack': WHATEVER THE INPUT: true; the input reads as it did. -/
def factorBackSpec : ChangeSpec := { name := "factorBack", fn := fun _ => fun
  | [d] => { results := [.lit (.bool true)], args := [d] }
  | _ => none }
def factorBackRow : OpenClaim := { program := "ytgiahljjdpbflaa", sum := "12a64857edb9c29d81069b7871016abe065f499e98a78efca816e7e756d434b1", func := "bracken/brackenlaw04.FactorBack", spec := "factorBack", unfollowed := true, recurses := true, apart := false }
def FactorBackSaid : Prop := factorBackRow.holds Try.pinned (OpenSpec.ofChange factorBackSpec)

/-- ITS FALSE NEIGHBOUR: 'it returns false'. Refute it at one input. -/
def factorBackWrong : ChangeSpec := { name := "factorBack", fn := fun _ => fun
  | [d] => { results := [.lit (.bool false)], args := [d] }
  | _ => none }
def FactorBackWrongFalsely : Prop := factorBackRow.holds Try.pinned (OpenSpec.ofChange factorBackWrong)

/-- 'brackenlaw04.FactorTimes': WHATEVER THE INPUT: true; the input reads as it did. -/
def factorTimesSpec : ChangeSpec := { name := "factorTimes", fn := fun _ => fun
  | [d1, d2] => { results := [.lit (.bool true)], args := [d1, d2] }
  | _ => none }
def factorTimesRow : OpenClaim := { program := "ytgiahljjdpbflaa", sum := "12a64857edb9c29d81069b7871016abe065f499e98a78efca816e7e756d434b1", func := "bracken/brackenlaw04.FactorTimes", spec := "factorTimes", unfollowed := true, recurses := true, apart := false }
def FactorTimesSaid : Prop := factorTimesRow.holds Try.pinned (OpenSpec.ofChange factorTimesSpec)

/-- ITS FALSE NEIGHBOUR: 'it returns false'. Refute it at one input. -/
def factorTimesWrong : ChangeSpec := { name := "factorTimes", fn := fun _ => fun
  | [d1, d2] => { results := [.lit (.bool false)], args := [d1, d2] }
  | _ => none }
def FactorTimesWrongFalsely : Prop := factorTimesRow.holds Try.pinned (OpenSpec.ofChange factorTimesWrong)

/-- 'brackenlaw04.FactorFew': WHATEVER THE INPUT: true; the input reads as it did. -/
def factorFewSpec : ChangeSpec := { name := "factorFew", fn := fun _ => fun
  | [d1, d2, d3] => { results := [.lit (.bool true)], args := [d1, d2, d3] }
  | _ => none }
def factorFewRow : OpenClaim := { program := "ytgiahljjdpbflaa", sum := "12a64857edb9c29d81069b7871016abe065f499e98a78efca816e7e756d434b1", func := "bracken/brackenlaw04.FactorFew", spec := "factorFew", unfollowed := true, recurses := true, apart := false }
def FactorFewSaid : Prop := factorFewRow.holds Try.pinned (OpenSpec.ofChange factorFewSpec)

/-- ITS FALSE NEIGHBOUR: 'it returns false'. Refute it at one input. -/
def factorFewWrong : ChangeSpec := { name := "factorFew", fn := fun _ => fun
  | [d1, d2, d3] => { results := [.lit (.bool false)], args := [d1, d2, d3] }
  | _ => none }
def FactorFewWrongFalsely : Prop := factorFewRow.holds Try.pinned (OpenSpec.ofChange factorFewWrong)

/- THE SECOND FORM. 'bulk': how many values and letters a reading holds, each counted each time it is reached (what is shared counts as often as it is met; a slice's spare places count too). A statement '..UptoSaid' is the law's where the arguments, and the package variables that the reading takes, are together of bulk at most 1048576: NARROWER than '..Said'. Prove '..Said' where nothing that the law and all that it calls make is longer than what came in: it says more and counts as full. Else prove '..UptoSaid'. A law counts once. -/
mutual
def uptoBulk {H : Type} : DataW H → Nat
  | .lit (.string bytes) => bytes.length + 1
  | .lit _ => 1
  | .nil => 1
  | .ptr d => uptoBulk d + 1
  | .slice elems spare => uptoBulkAll elems + uptoBulkAll spare + 1
  | .agg parts => uptoBulkAll parts + 1
  | .iface _ d => uptoBulk d + 1
  | .map entries => uptoBulkEntries entries + 1
  | .held _ => 1
def uptoBulkAll {H : Type} : List (DataW H) → Nat
  | [] => 0
  | d :: r => uptoBulk d + uptoBulkAll r
def uptoBulkEntries {H : Type} : List (Lit × DataW H) → Nat
  | [] => 0
  | x :: r => uptoBulkEntry x + uptoBulkEntries r
def uptoBulkEntry {H : Type} : Lit × DataW H → Nat
  | (.string bytes, d) => bytes.length + uptoBulk d + 1
  | (_, d) => uptoBulk d + 1
 end
def uptoSmall : (H : Type) → List (DataW H) → Bool := fun _ ds => decide (uptoBulkAll ds ≤ 1048576)
def OpenSpec.upto (s : _root_.Go.ChangeSpec) : _root_.Go.OpenSpec := { _root_.Go.OpenSpec.ofChange s with cond := some uptoSmall }

/-- 'brackenlaw04.FactorDoes', WHERE WHAT IT READS IS OF BULK AT MOST 1048576: true; the input reads as it did. -/
def factorDoesUptoRow : OpenClaim := { program := "ytgiahljjdpbflaa", sum := "12a64857edb9c29d81069b7871016abe065f499e98a78efca816e7e756d434b1", func := "bracken/brackenlaw04.FactorDoes", spec := "factorDoes", unfollowed := true, recurses := true, apart := false, narrowed := true }
def FactorDoesUptoSaid : Prop := factorDoesUptoRow.holds Try.pinned (OpenSpec.upto factorDoesSpec)

/-- 'brackenlaw04.FactorBack', WHERE WHAT IT READS IS OF BULK AT MOST 1048576: true; the input reads as it did. -/
def factorBackUptoRow : OpenClaim := { program := "ytgiahljjdpbflaa", sum := "12a64857edb9c29d81069b7871016abe065f499e98a78efca816e7e756d434b1", func := "bracken/brackenlaw04.FactorBack", spec := "factorBack", unfollowed := true, recurses := true, apart := false, narrowed := true }
def FactorBackUptoSaid : Prop := factorBackUptoRow.holds Try.pinned (OpenSpec.upto factorBackSpec)

/-- 'brackenlaw04.FactorTimes', WHERE WHAT IT READS IS OF BULK AT MOST 1048576: true; the input reads as it did. -/
def factorTimesUptoRow : OpenClaim := { program := "ytgiahljjdpbflaa", sum := "12a64857edb9c29d81069b7871016abe065f499e98a78efca816e7e756d434b1", func := "bracken/brackenlaw04.FactorTimes", spec := "factorTimes", unfollowed := true, recurses := true, apart := false, narrowed := true }
def FactorTimesUptoSaid : Prop := factorTimesUptoRow.holds Try.pinned (OpenSpec.upto factorTimesSpec)

/-- 'brackenlaw04.FactorFew', WHERE WHAT IT READS IS OF BULK AT MOST 1048576: true; the input reads as it did. -/
def factorFewUptoRow : OpenClaim := { program := "ytgiahljjdpbflaa", sum := "12a64857edb9c29d81069b7871016abe065f499e98a78efca816e7e756d434b1", func := "bracken/brackenlaw04.FactorFew", spec := "factorFew", unfollowed := true, recurses := true, apart := false, narrowed := true }
def FactorFewUptoSaid : Prop := factorFewUptoRow.holds Try.pinned (OpenSpec.upto factorFewSpec)

end Rows
end Go.Proofs.Ytgiahljjdpbflaa
