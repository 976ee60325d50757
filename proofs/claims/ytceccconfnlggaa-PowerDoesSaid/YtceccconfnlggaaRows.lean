/-
  No cell of these rows narrows 'for every input' (looked for: loops, veiled, ifaces, maps, wideKeys, modest, calm, conditions, laid).
  DERIVED. THE GIVEN ROWS OF THIS SEAT. 5 by the template 'for every input the law returns true; each argument reads behind the call as it read before'; 0 by the template 'total and deterministic' (their statements: YtceccconfnlggaaTotals.lean).
  GIVEN WITH THE SEED: the statements are not yours to turn. If you find one false, say at which input.
  Laid BY PROGRAM, IN A SANDBOX (cutbox-rows.mjs): the forced cells as the released guide's own fill.sh prints them over the translation 5ed961a2b8f57ef6… (all of the seat's roots in one cut). By AI agents, Wed Nov 11 2026. No macro, syntax, notation, axiom, sorry.
-/
import Derived.Test.YtceccconfnlggaaChecked
import GoSem.Claim
import GoSem.ClaimJoined
import GoSem.ClaimMapViews
import Derived.JoinedTies
import Derived.KernelRfl
namespace Go.Proofs.Ytceccconfnlggaa
/- THE CELL 'sum', in the pinned program and in every row, IS THE sha256 OF THE DUMP (.gsa) THAT YtceccconfnlggaaProg.lean LOADS. Nothing in Lean hashes anything: it is a label: what it is worth is what the hold of that sum in a sandbox is worth. -/
noncomputable def Try.pinned : Pinned := { name := "ytceccconfnlggaa", sum := "5ed961a2b8f57ef6a963d4ec420a1066ec1d7b5955a62f6d75d666b55df0b3d2", checked := Try.checked }
namespace Rows
def none {H : Type} : Left H := { results := [], args := [] }

/-- 'brackenlaw02.PowerDoes': WHATEVER THE INPUT: true; the input reads as it did. -/
def powerDoesSpec : ChangeSpec := { name := "powerDoes", fn := fun _ => fun
  | [d1, d2, d3, d4, d5] => { results := [.lit (.bool true)], args := [d1, d2, d3, d4, d5] }
  | _ => none }
def powerDoesRow : OpenClaim := { program := "ytceccconfnlggaa", sum := "5ed961a2b8f57ef6a963d4ec420a1066ec1d7b5955a62f6d75d666b55df0b3d2", func := "bracken/brackenlaw02.PowerDoes", spec := "powerDoes", unfollowed := true, recurses := true, named := ["math/bits.divideError", "math/bits.overflowError"], apart := false }
def PowerDoesSaid : Prop := powerDoesRow.holds Try.pinned (OpenSpec.ofChange powerDoesSpec)

/-- ITS FALSE NEIGHBOUR: 'it returns false'. Refute it at one input. -/
def powerDoesWrong : ChangeSpec := { name := "powerDoes", fn := fun _ => fun
  | [d1, d2, d3, d4, d5] => { results := [.lit (.bool false)], args := [d1, d2, d3, d4, d5] }
  | _ => none }
def PowerDoesWrongFalsely : Prop := powerDoesRow.holds Try.pinned (OpenSpec.ofChange powerDoesWrong)

/-- 'brackenlaw02.PowerSums': WHATEVER THE INPUT: true; the input reads as it did. -/
def powerSumsSpec : ChangeSpec := { name := "powerSums", fn := fun _ => fun
  | [d1, d2, d3, d4, d5] => { results := [.lit (.bool true)], args := [d1, d2, d3, d4, d5] }
  | _ => none }
def powerSumsRow : OpenClaim := { program := "ytceccconfnlggaa", sum := "5ed961a2b8f57ef6a963d4ec420a1066ec1d7b5955a62f6d75d666b55df0b3d2", func := "bracken/brackenlaw02.PowerSums", spec := "powerSums", named := ["math/bits.divideError", "math/bits.overflowError"], apart := false }
def PowerSumsSaid : Prop := powerSumsRow.holds Try.pinned (OpenSpec.ofChange powerSumsSpec)

/-- ITS FALSE NEIGHBOUR: 'it returns false'. Refute it at one input. -/
def powerSumsWrong : ChangeSpec := { name := "powerSums", fn := fun _ => fun
  | [d1, d2, d3, d4, d5] => { results := [.lit (.bool false)], args := [d1, d2, d3, d4, d5] }
  | _ => none }
def PowerSumsWrongFalsely : Prop := powerSumsRow.holds Try.pinned (OpenSpec.ofChange powerSumsWrong)

/-- 'brackenlaw02.PowerBack': WHATEVER THE INPUT: true; the input reads as it did. -/
def powerBackSpec : ChangeSpec := { name := "powerBack", fn := fun _ => fun
  | [d1, d2, d3] => { results := [.lit (.bool true)], args := [d1, d2, d3] }
  | _ => none }
def powerBackRow : OpenClaim := { program := "ytceccconfnlggaa", sum := "5ed961a2b8f57ef6a963d4ec420a1066ec1d7b5955a62f6d75d666b55df0b3d2", func := "bracken/brackenlaw02.PowerBack", spec := "powerBack", named := ["math/bits.divideError", "math/bits.overflowError"], apart := false }
def PowerBackSaid : Prop := powerBackRow.holds Try.pinned (OpenSpec.ofChange powerBackSpec)

/-- ITS FALSE NEIGHBOUR: 'it returns false'. Refute it at one input. -/
def powerBackWrong : ChangeSpec := { name := "powerBack", fn := fun _ => fun
  | [d1, d2, d3] => { results := [.lit (.bool false)], args := [d1, d2, d3] }
  | _ => none }
def PowerBackWrongFalsely : Prop := powerBackRow.holds Try.pinned (OpenSpec.ofChange powerBackWrong)

/-- 'brackenlaw02.PowerAll': WHATEVER THE INPUT: true; the input reads as it did. -/
def powerAllSpec : ChangeSpec := { name := "powerAll", fn := fun _ => fun
  | [d1, d2] => { results := [.lit (.bool true)], args := [d1, d2] }
  | _ => none }
def powerAllRow : OpenClaim := { program := "ytceccconfnlggaa", sum := "5ed961a2b8f57ef6a963d4ec420a1066ec1d7b5955a62f6d75d666b55df0b3d2", func := "bracken/brackenlaw02.PowerAll", spec := "powerAll", unfollowed := true, recurses := true, named := ["math/bits.divideError", "math/bits.overflowError"], apart := false }
def PowerAllSaid : Prop := powerAllRow.holds Try.pinned (OpenSpec.ofChange powerAllSpec)

/-- ITS FALSE NEIGHBOUR: 'it returns false'. Refute it at one input. -/
def powerAllWrong : ChangeSpec := { name := "powerAll", fn := fun _ => fun
  | [d1, d2] => { results := [.lit (.bool false)], args := [d1, d2] }
  | _ => none }
def PowerAllWrongFalsely : Prop := powerAllRow.holds Try.pinned (OpenSpec.ofChange powerAllWrong)

/-- 'brackenlaw02.PowerRow': WHATEVER THE INPUT: true; the input reads as it did. -/
def powerRowSpec : ChangeSpec := { name := "powerRow", fn := fun _ => fun
  | [d1, d2, d3] => { results := [.lit (.bool true)], args := [d1, d2, d3] }
  | _ => none }
def powerRowRow : OpenClaim := { program := "ytceccconfnlggaa", sum := "5ed961a2b8f57ef6a963d4ec420a1066ec1d7b5955a62f6d75d666b55df0b3d2", func := "bracken/brackenlaw02.PowerRow", spec := "powerRow", named := ["math/bits.divideError", "math/bits.overflowError"], apart := false }
def PowerRowSaid : Prop := powerRowRow.holds Try.pinned (OpenSpec.ofChange powerRowSpec)

/-- ITS FALSE NEIGHBOUR: 'it returns false'. Refute it at one input. -/
def powerRowWrong : ChangeSpec := { name := "powerRow", fn := fun _ => fun
  | [d1, d2, d3] => { results := [.lit (.bool false)], args := [d1, d2, d3] }
  | _ => none }
def PowerRowWrongFalsely : Prop := powerRowRow.holds Try.pinned (OpenSpec.ofChange powerRowWrong)

/- THE SECOND FORM. 'bulk': how many values and letters a reading holds, each counted each time it is reached (what is shared counts as often as it is met; a slice's spare places count too). A statement '..UptoSaid' is the law's where the arguments, and the package variables that the reading takes, are together of bulk at most 1048576: NARROWER than '..Said'. Prove '..Said' where nothing that the law and all that it calls make is longer than what came in: it says more and counts as full. Else prove '..UptoSaid'. A law counts once. -/
mutual
def uptoBulk {H : Type} : DataW H → Nat
  | .lit (.string bytes) => bytes.length + 1
  | .lit _ => 1
  | .nil => 1
  | .ptr d => uptoBulk d + 1
  | .slice elems spare => uptoBulkAll elems + uptoBulkAll spare + 1
  | .agg parts => uptoBulkAll parts + 1
  | .iface _ d => uptoBulk d + 1
  | .map entries => uptoBulkEntries entries + 1
  | .held _ => 1
def uptoBulkAll {H : Type} : List (DataW H) → Nat
  | [] => 0
  | d :: r => uptoBulk d + uptoBulkAll r
def uptoBulkEntries {H : Type} : List (Lit × DataW H) → Nat
  | [] => 0
  | x :: r => uptoBulkEntry x + uptoBulkEntries r
def uptoBulkEntry {H : Type} : Lit × DataW H → Nat
  | (.string bytes, d) => bytes.length + uptoBulk d + 1
  | (_, d) => uptoBulk d + 1
 end
def uptoSmall : (H : Type) → List (DataW H) → Bool := fun _ ds => decide (uptoBulkAll ds ≤ 1048576)
def OpenSpec.upto (s : _root_.Go.ChangeSpec) : _root_.Go.OpenSpec := { _root_.Go.OpenSpec.ofChange s with cond := some uptoSmall }

/-- 'brackenlaw02.PowerDoes', WHERE WHAT IT READS IS OF BULK AT MOST 1048576: true; the input reads as it did. -/
def powerDoesUptoRow : OpenClaim := { program := "ytceccconfnlggaa", sum := "5ed961a2b8f57ef6a963d4ec420a1066ec1d7b5955a62f6d75d666b55df0b3d2", func := "bracken/brackenlaw02.PowerDoes", spec := "powerDoes", unfollowed := true, recurses := true, named := ["math/bits.divideError", "math/bits.overflowError"], apart := false, narrowed := true }
def PowerDoesUptoSaid : Prop := powerDoesUptoRow.holds Try.pinned (OpenSpec.upto powerDoesSpec)

/-- 'brackenlaw02.PowerSums', WHERE WHAT IT READS IS OF BULK AT MOST 1048576: true; the input reads as it did. -/
def powerSumsUptoRow : OpenClaim := { program := "ytceccconfnlggaa", sum := "5ed961a2b8f57ef6a963d4ec420a1066ec1d7b5955a62f6d75d666b55df0b3d2", func := "bracken/brackenlaw02.PowerSums", spec := "powerSums", named := ["math/bits.divideError", "math/bits.overflowError"], apart := false, narrowed := true }
def PowerSumsUptoSaid : Prop := powerSumsUptoRow.holds Try.pinned (OpenSpec.upto powerSumsSpec)

/-- 'brackenlaw02.PowerBack', WHERE WHAT IT READS IS OF BULK AT MOST 1048576: true; the input reads as it did. -/
def powerBackUptoRow : OpenClaim := { program := "ytceccconfnlggaa", sum := "5ed961a2b8f57ef6a963d4ec420a1066ec1d7b5955a62f6d75d666b55df0b3d2", func := "bracken/brackenlaw02.PowerBack", spec := "powerBack", named := ["math/bits.divideError", "math/bits.overflowError"], apart := false, narrowed := true }
def PowerBackUptoSaid : Prop := powerBackUptoRow.holds Try.pinned (OpenSpec.upto powerBackSpec)

/-- 'brackenlaw02.PowerAll', WHERE WHAT IT READS IS OF BULK AT MOST 1048576: true; the input reads as it did. -/
def powerAllUptoRow : OpenClaim := { program := "ytceccconfnlggaa", sum := "5ed961a2b8f57ef6a963d4ec420a1066ec1d7b5955a62f6d75d666b55df0b3d2", func := "bracken/brackenlaw02.PowerAll", spec := "powerAll", unfollowed := true, recurses := true, named := ["math/bits.divideError", "math/bits.overflowError"], apart := false, narrowed := true }
def PowerAllUptoSaid : Prop := powerAllUptoRow.holds Try.pinned (OpenSpec.upto powerAllSpec)

/-- 'brackenlaw02.PowerRow', WHERE WHAT IT READS IS OF BULK AT MOST 1048576: true; the input reads as it did. -/
def powerRowUptoRow : OpenClaim := { program := "ytceccconfnlggaa", sum := "5ed961a2b8f57ef6a963d4ec420a1066ec1d7b5955a62f6d75d666b55df0b3d2", func := "bracken/brackenlaw02.PowerRow", spec := "powerRow", named := ["math/bits.divideError", "math/bits.overflowError"], apart := false, narrowed := true }
def PowerRowUptoSaid : Prop := powerRowUptoRow.holds Try.pinned (OpenSpec.upto powerRowSpec)

end Rows
end Go.Proofs.Ytceccconfnlggaa
