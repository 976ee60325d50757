/-
  NARROWER THAN 'FOR EVERY INPUT', by the rows' own cells (each row's printed sentence says how): FlyDoes: laid · FlyBack: laid · FlySums: laid · FlyTurns: laid · FlyDft: laid · FlyPoints: laid · FlyWeighs: laid.
  DERIVED. THE GIVEN ROWS OF THIS SEAT. 7 by the template 'for every input the law returns true; each argument reads behind the call as it read before'; 0 by the template 'total and deterministic' (their statements: YtmcnamlgbkbiaaaDoorTotals.lean).
  GIVEN WITH THE SEED: the statements are not yours to turn. If you find one false, say at which input.
  Laid BY PROGRAM, IN A SANDBOX (cutbox-rows.mjs): the forced cells as the released guide's own fill.sh prints them over the translation 0e9e19e68e919af8… (all of the seat's roots in one cut). By AI agents, Wed Nov 11 2026. No macro, syntax, notation, axiom, sorry.
-/
import Derived.Test.YtmcnamlgbkbiaaaDoorChecked
import GoSem.Claim
import GoSem.ClaimJoined
import GoSem.ClaimMapViews
import Derived.JoinedTies
import Derived.KernelRfl
namespace Go.Proofs.YtmcnamlgbkbiaaaDoor
/- THE CELL 'sum', in the pinned program and in every row, IS THE sha256 OF THE DUMP (.gsa) THAT YtmcnamlgbkbiaaaDoorProg.lean LOADS. Nothing in Lean hashes anything: it is a label: what it is worth is what the hold of that sum in a sandbox is worth. -/
noncomputable def Tryd.pinned : Pinned := { name := "ytmcnamlgbkbiaaadoor", sum := "0e9e19e68e919af8f70e11472c126886f45e0a1195d85a5c97782519683fc108", checked := Tryd.checked }
namespace Rows
def none {H : Type} : Left H := { results := [], args := [] }

/- WHAT THE LISTED PACKAGE-LEVEL VARIABLES READ AS WHEN THE CALL BEGINS. Each datum BY PROGRAM (the guide's laid-datum.mjs) off the statement by which the dump's own 'gosem.cut.vars' lays the variable. In a bare row this is a premise. The card (YtmcnamlgbkbiaaaDoorCards.lean) ties it to the program's text. -/
def laid_bracken_root_generators {H : Type} : DataW H := .agg [.agg [.lit (.int .u64 18446744069414584321), .lit (.int .u64 7)], .agg [.lit (.int .u64 998244353), .lit (.int .u64 3)], .agg [.lit (.int .u64 2013265921), .lit (.int .u64 31)]]

/-- 'brackenlaw15.FlyDoes': WHATEVER THE INPUT: true; the input reads as it did. -/
def flyDoesSpec : ChangeSpec := { name := "flyDoes", fn := fun _ => fun
  | [d1, d2, d3, d4, d5] => { results := [.lit (.bool true)], args := [d1, d2, d3, d4, d5] }
  | _ => none }
def flyDoesRow : OpenClaim := { program := "ytmcnamlgbkbiaaadoor", sum := "0e9e19e68e919af8f70e11472c126886f45e0a1195d85a5c97782519683fc108", func := "bracken/brackenlaw15.FlyDoes", spec := "flyDoes", unfollowed := true, recurses := true, named := ["bracken/root.generators", "math/bits.divideError", "math/bits.overflowError"], apart := false, laid := [("bracken/root.generators", laid_bracken_root_generators)] }
def FlyDoesSaid : Prop := flyDoesRow.holds Tryd.pinned (OpenSpec.ofChange flyDoesSpec)

/-- ITS FALSE NEIGHBOUR: 'it returns false'. Refute it at one input. -/
def flyDoesWrong : ChangeSpec := { name := "flyDoes", fn := fun _ => fun
  | [d1, d2, d3, d4, d5] => { results := [.lit (.bool false)], args := [d1, d2, d3, d4, d5] }
  | _ => none }
def FlyDoesWrongFalsely : Prop := flyDoesRow.holds Tryd.pinned (OpenSpec.ofChange flyDoesWrong)

/-- 'brackenlaw15.FlyBack': WHATEVER THE INPUT: true; the input reads as it did. -/
def flyBackSpec : ChangeSpec := { name := "flyBack", fn := fun _ => fun
  | [d1, d2, d3] => { results := [.lit (.bool true)], args := [d1, d2, d3] }
  | _ => none }
def flyBackRow : OpenClaim := { program := "ytmcnamlgbkbiaaadoor", sum := "0e9e19e68e919af8f70e11472c126886f45e0a1195d85a5c97782519683fc108", func := "bracken/brackenlaw15.FlyBack", spec := "flyBack", unfollowed := true, recurses := true, named := ["bracken/root.generators", "math/bits.divideError", "math/bits.overflowError"], apart := false, laid := [("bracken/root.generators", laid_bracken_root_generators)] }
def FlyBackSaid : Prop := flyBackRow.holds Tryd.pinned (OpenSpec.ofChange flyBackSpec)

/-- ITS FALSE NEIGHBOUR: 'it returns false'. Refute it at one input. -/
def flyBackWrong : ChangeSpec := { name := "flyBack", fn := fun _ => fun
  | [d1, d2, d3] => { results := [.lit (.bool false)], args := [d1, d2, d3] }
  | _ => none }
def FlyBackWrongFalsely : Prop := flyBackRow.holds Tryd.pinned (OpenSpec.ofChange flyBackWrong)

/-- 'brackenlaw15.FlySums': WHATEVER THE INPUT: true; the input reads as it did. -/
def flySumsSpec : ChangeSpec := { name := "flySums", fn := fun _ => fun
  | [d1, d2, d3, d4, d5] => { results := [.lit (.bool true)], args := [d1, d2, d3, d4, d5] }
  | _ => none }
def flySumsRow : OpenClaim := { program := "ytmcnamlgbkbiaaadoor", sum := "0e9e19e68e919af8f70e11472c126886f45e0a1195d85a5c97782519683fc108", func := "bracken/brackenlaw15.FlySums", spec := "flySums", unfollowed := true, recurses := true, named := ["bracken/root.generators", "math/bits.divideError", "math/bits.overflowError"], apart := false, laid := [("bracken/root.generators", laid_bracken_root_generators)] }
def FlySumsSaid : Prop := flySumsRow.holds Tryd.pinned (OpenSpec.ofChange flySumsSpec)

/-- ITS FALSE NEIGHBOUR: 'it returns false'. Refute it at one input. -/
def flySumsWrong : ChangeSpec := { name := "flySums", fn := fun _ => fun
  | [d1, d2, d3, d4, d5] => { results := [.lit (.bool false)], args := [d1, d2, d3, d4, d5] }
  | _ => none }
def FlySumsWrongFalsely : Prop := flySumsRow.holds Tryd.pinned (OpenSpec.ofChange flySumsWrong)

/-- 'brackenlaw15.FlyTurns': WHATEVER THE INPUT: true; the input reads as it did. -/
def flyTurnsSpec : ChangeSpec := { name := "flyTurns", fn := fun _ => fun
  | [d1, d2, d3] => { results := [.lit (.bool true)], args := [d1, d2, d3] }
  | _ => none }
def flyTurnsRow : OpenClaim := { program := "ytmcnamlgbkbiaaadoor", sum := "0e9e19e68e919af8f70e11472c126886f45e0a1195d85a5c97782519683fc108", func := "bracken/brackenlaw15.FlyTurns", spec := "flyTurns", unfollowed := true, recurses := true, named := ["bracken/root.generators", "math/bits.divideError", "math/bits.overflowError"], apart := false, laid := [("bracken/root.generators", laid_bracken_root_generators)] }
def FlyTurnsSaid : Prop := flyTurnsRow.holds Tryd.pinned (OpenSpec.ofChange flyTurnsSpec)

/-- ITS FALSE NEIGHBOUR: 'it returns false'. Refute it at one input. -/
def flyTurnsWrong : ChangeSpec := { name := "flyTurns", fn := fun _ => fun
  | [d1, d2, d3] => { results := [.lit (.bool false)], args := [d1, d2, d3] }
  | _ => none }
def FlyTurnsWrongFalsely : Prop := flyTurnsRow.holds Tryd.pinned (OpenSpec.ofChange flyTurnsWrong)

/-- 'brackenlaw15.FlyDft': WHATEVER THE INPUT: true; the input reads as it did. -/
def flyDftSpec : ChangeSpec := { name := "flyDft", fn := fun _ => fun
  | [d1, d2, d3] => { results := [.lit (.bool true)], args := [d1, d2, d3] }
  | _ => none }
def flyDftRow : OpenClaim := { program := "ytmcnamlgbkbiaaadoor", sum := "0e9e19e68e919af8f70e11472c126886f45e0a1195d85a5c97782519683fc108", func := "bracken/brackenlaw15.FlyDft", spec := "flyDft", unfollowed := true, recurses := true, named := ["bracken/root.generators", "math/bits.divideError", "math/bits.overflowError"], apart := false, laid := [("bracken/root.generators", laid_bracken_root_generators)] }
def FlyDftSaid : Prop := flyDftRow.holds Tryd.pinned (OpenSpec.ofChange flyDftSpec)

/-- ITS FALSE NEIGHBOUR: 'it returns false'. Refute it at one input. -/
def flyDftWrong : ChangeSpec := { name := "flyDft", fn := fun _ => fun
  | [d1, d2, d3] => { results := [.lit (.bool false)], args := [d1, d2, d3] }
  | _ => none }
def FlyDftWrongFalsely : Prop := flyDftRow.holds Tryd.pinned (OpenSpec.ofChange flyDftWrong)

/-- 'brackenlaw15.FlyPoints': WHATEVER THE INPUT: true; the input reads as it did. -/
def flyPointsSpec : ChangeSpec := { name := "flyPoints", fn := fun _ => fun
  | [d1, d2, d3, d4] => { results := [.lit (.bool true)], args := [d1, d2, d3, d4] }
  | _ => none }
def flyPointsRow : OpenClaim := { program := "ytmcnamlgbkbiaaadoor", sum := "0e9e19e68e919af8f70e11472c126886f45e0a1195d85a5c97782519683fc108", func := "bracken/brackenlaw15.FlyPoints", spec := "flyPoints", unfollowed := true, recurses := true, named := ["bracken/root.generators", "math/bits.divideError", "math/bits.overflowError"], apart := false, laid := [("bracken/root.generators", laid_bracken_root_generators)] }
def FlyPointsSaid : Prop := flyPointsRow.holds Tryd.pinned (OpenSpec.ofChange flyPointsSpec)

/-- ITS FALSE NEIGHBOUR: 'it returns false'. Refute it at one input. -/
def flyPointsWrong : ChangeSpec := { name := "flyPoints", fn := fun _ => fun
  | [d1, d2, d3, d4] => { results := [.lit (.bool false)], args := [d1, d2, d3, d4] }
  | _ => none }
def FlyPointsWrongFalsely : Prop := flyPointsRow.holds Tryd.pinned (OpenSpec.ofChange flyPointsWrong)

/-- 'brackenlaw15.FlyWeighs': WHATEVER THE INPUT: true; the input reads as it did. -/
def flyWeighsSpec : ChangeSpec := { name := "flyWeighs", fn := fun _ => fun
  | [d1, d2, d3, d4] => { results := [.lit (.bool true)], args := [d1, d2, d3, d4] }
  | _ => none }
def flyWeighsRow : OpenClaim := { program := "ytmcnamlgbkbiaaadoor", sum := "0e9e19e68e919af8f70e11472c126886f45e0a1195d85a5c97782519683fc108", func := "bracken/brackenlaw15.FlyWeighs", spec := "flyWeighs", unfollowed := true, recurses := true, named := ["bracken/root.generators", "math/bits.divideError", "math/bits.overflowError"], apart := false, laid := [("bracken/root.generators", laid_bracken_root_generators)] }
def FlyWeighsSaid : Prop := flyWeighsRow.holds Tryd.pinned (OpenSpec.ofChange flyWeighsSpec)

/-- ITS FALSE NEIGHBOUR: 'it returns false'. Refute it at one input. -/
def flyWeighsWrong : ChangeSpec := { name := "flyWeighs", fn := fun _ => fun
  | [d1, d2, d3, d4] => { results := [.lit (.bool false)], args := [d1, d2, d3, d4] }
  | _ => none }
def FlyWeighsWrongFalsely : Prop := flyWeighsRow.holds Tryd.pinned (OpenSpec.ofChange flyWeighsWrong)

/- THE SECOND FORM. 'bulk': how many values and letters a reading holds, each counted each time it is reached (what is shared counts as often as it is met; a slice's spare places count too). A statement '..UptoSaid' is the law's where the arguments, and the package variables that the reading takes, are together of bulk at most 1048576: NARROWER than '..Said'. Prove '..Said' where nothing that the law and all that it calls make is longer than what came in: it says more and counts as full. Else prove '..UptoSaid'. A law counts once. -/
mutual
def uptoBulk {H : Type} : DataW H → Nat
  | .lit (.string bytes) => bytes.length + 1
  | .lit _ => 1
  | .nil => 1
  | .ptr d => uptoBulk d + 1
  | .slice elems spare => uptoBulkAll elems + uptoBulkAll spare + 1
  | .agg parts => uptoBulkAll parts + 1
  | .iface _ d => uptoBulk d + 1
  | .map entries => uptoBulkEntries entries + 1
  | .held _ => 1
def uptoBulkAll {H : Type} : List (DataW H) → Nat
  | [] => 0
  | d :: r => uptoBulk d + uptoBulkAll r
def uptoBulkEntries {H : Type} : List (Lit × DataW H) → Nat
  | [] => 0
  | x :: r => uptoBulkEntry x + uptoBulkEntries r
def uptoBulkEntry {H : Type} : Lit × DataW H → Nat
  | (.string bytes, d) => bytes.length + uptoBulk d + 1
  | (_, d) => uptoBulk d + 1
 end
def uptoSmall : (H : Type) → List (DataW H) → Bool := fun _ ds => decide (uptoBulkAll ds ≤ 1048576)
def OpenSpec.upto (s : _root_.Go.ChangeSpec) : _root_.Go.OpenSpec := { _root_.Go.OpenSpec.ofChange s with cond := some uptoSmall }

/-- 'brackenlaw15.FlyDoes', WHERE WHAT IT READS IS OF BULK AT MOST 1048576: true; the input reads as it did. -/
def flyDoesUptoRow : OpenClaim := { program := "ytmcnamlgbkbiaaadoor", sum := "0e9e19e68e919af8f70e11472c126886f45e0a1195d85a5c97782519683fc108", func := "bracken/brackenlaw15.FlyDoes", spec := "flyDoes", unfollowed := true, recurses := true, named := ["bracken/root.generators", "math/bits.divideError", "math/bits.overflowError"], apart := false, laid := [("bracken/root.generators", laid_bracken_root_generators)], narrowed := true }
def FlyDoesUptoSaid : Prop := flyDoesUptoRow.holds Tryd.pinned (OpenSpec.upto flyDoesSpec)

/-- 'brackenlaw15.FlyBack', WHERE WHAT IT READS IS OF BULK AT MOST 1048576: true; the input reads as it did. -/
def flyBackUptoRow : OpenClaim := { program := "ytmcnamlgbkbiaaadoor", sum := "0e9e19e68e919af8f70e11472c126886f45e0a1195d85a5c97782519683fc108", func := "bracken/brackenlaw15.FlyBack", spec := "flyBack", unfollowed := true, recurses := true, named := ["bracken/root.generators", "math/bits.divideError", "math/bits.overflowError"], apart := false, laid := [("bracken/root.generators", laid_bracken_root_generators)], narrowed := true }
def FlyBackUptoSaid : Prop := flyBackUptoRow.holds Tryd.pinned (OpenSpec.upto flyBackSpec)

/-- 'brackenlaw15.FlySums', WHERE WHAT IT READS IS OF BULK AT MOST 1048576: true; the input reads as it did. -/
def flySumsUptoRow : OpenClaim := { program := "ytmcnamlgbkbiaaadoor", sum := "0e9e19e68e919af8f70e11472c126886f45e0a1195d85a5c97782519683fc108", func := "bracken/brackenlaw15.FlySums", spec := "flySums", unfollowed := true, recurses := true, named := ["bracken/root.generators", "math/bits.divideError", "math/bits.overflowError"], apart := false, laid := [("bracken/root.generators", laid_bracken_root_generators)], narrowed := true }
def FlySumsUptoSaid : Prop := flySumsUptoRow.holds Tryd.pinned (OpenSpec.upto flySumsSpec)

/-- 'brackenlaw15.FlyTurns', WHERE WHAT IT READS IS OF BULK AT MOST 1048576: true; the input reads as it did. -/
def flyTurnsUptoRow : OpenClaim := { program := "ytmcnamlgbkbiaaadoor", sum := "0e9e19e68e919af8f70e11472c126886f45e0a1195d85a5c97782519683fc108", func := "bracken/brackenlaw15.FlyTurns", spec := "flyTurns", unfollowed := true, recurses := true, named := ["bracken/root.generators", "math/bits.divideError", "math/bits.overflowError"], apart := false, laid := [("bracken/root.generators", laid_bracken_root_generators)], narrowed := true }
def FlyTurnsUptoSaid : Prop := flyTurnsUptoRow.holds Tryd.pinned (OpenSpec.upto flyTurnsSpec)

/-- 'brackenlaw15.FlyDft', WHERE WHAT IT READS IS OF BULK AT MOST 1048576: true; the input reads as it did. -/
def flyDftUptoRow : OpenClaim := { program := "ytmcnamlgbkbiaaadoor", sum := "0e9e19e68e919af8f70e11472c126886f45e0a1195d85a5c97782519683fc108", func := "bracken/brackenlaw15.FlyDft", spec := "flyDft", unfollowed := true, recurses := true, named := ["bracken/root.generators", "math/bits.divideError", "math/bits.overflowError"], apart := false, laid := [("bracken/root.generators", laid_bracken_root_generators)], narrowed := true }
def FlyDftUptoSaid : Prop := flyDftUptoRow.holds Tryd.pinned (OpenSpec.upto flyDftSpec)

/-- 'brackenlaw15.FlyPoints', WHERE WHAT IT READS IS OF BULK AT MOST 1048576: true; the input reads as it did. -/
def flyPointsUptoRow : OpenClaim := { program := "ytmcnamlgbkbiaaadoor", sum := "0e9e19e68e919af8f70e11472c126886f45e0a1195d85a5c97782519683fc108", func := "bracken/brackenlaw15.FlyPoints", spec := "flyPoints", unfollowed := true, recurses := true, named := ["bracken/root.generators", "math/bits.divideError", "math/bits.overflowError"], apart := false, laid := [("bracken/root.generators", laid_bracken_root_generators)], narrowed := true }
def FlyPointsUptoSaid : Prop := flyPointsUptoRow.holds Tryd.pinned (OpenSpec.upto flyPointsSpec)

/-- 'brackenlaw15.FlyWeighs', WHERE WHAT IT READS IS OF BULK AT MOST 1048576: true; the input reads as it did. -/
def flyWeighsUptoRow : OpenClaim := { program := "ytmcnamlgbkbiaaadoor", sum := "0e9e19e68e919af8f70e11472c126886f45e0a1195d85a5c97782519683fc108", func := "bracken/brackenlaw15.FlyWeighs", spec := "flyWeighs", unfollowed := true, recurses := true, named := ["bracken/root.generators", "math/bits.divideError", "math/bits.overflowError"], apart := false, laid := [("bracken/root.generators", laid_bracken_root_generators)], narrowed := true }
def FlyWeighsUptoSaid : Prop := flyWeighsUptoRow.holds Tryd.pinned (OpenSpec.upto flyWeighsSpec)

end Rows
end Go.Proofs.YtmcnamlgbkbiaaaDoor
