/-
  A region that draws its order, whose operations read no more than local slots and what was there, and whose callees may draw and make memory, but write nothing that was there: one walk in the text's order serves every order.
  No function of the program is named here.
-/
import Derived.Test.YtmcnamlgbkbiaaaDoorRow
import Derived.Test.YtmcnamlgbkbiaaaDoorField
namespace Go.Proofs.YtmcnamlgbkbiaaaDoor
open Go.RowKit

theorem below_al {w w' : World} (h : Below w.heap.size w w') (o : Obj) : Below w.heap.size w (w'.alloc o) := h.alloc h.size o
/-- It returns v, and nothing that was there is written. -/
def RetB (v : Value) (w : World) (e : Ending) (w' : World) : Prop := e = .returned v ∧ Below w.heap.size w w'
theorem RetQ.below {v : Value} {w w' : World} {e : Ending} (h : RetQ v w e w') : RetB v w e w' := ⟨h.1, by obtain ⟨n, rfl⟩ := h.2; exact draws_below _ _ _⟩

/-- A world that came of w with nothing written that was there. -/
structure Since (w : World) where
  out : World
  below : Below w.heap.size w out
instance (w : World) : Nonempty (Since w) := ⟨⟨w, Below.refl _ _⟩⟩
theorem Since.next {w w' : World} (s : Since w) (h : Below s.out.heap.size s.out w') : Below w.heap.size w w' := s.below.trans (h.mono s.below.size)

theorem wp_region_since {P : Program} {id : Nat} {Q : Exit → Act → World → Prop} {a : Act} {w : World} {l : List Oper} (hm : P.follows .mixedOrders = true) (hB : Region.lexB .any l.toArray = true)
    (h : wpQuiet P l.toArray (fun w' => ∃ s : Since w, w' = s.out) (fun a' => ∀ w', (∃ s : Since w, w' = s.out) → Q .normal a' w') l a) : (Code.region id l.toArray true).wp P Q a w :=
  wp_region_quiet (C := fun w' => ∃ s : Since w, w' = s.out) hm hB ⟨⟨w.drewN 1, draws_below _ _ _⟩, rfl⟩ (by simpa using h)

theorem since_call {P : Program} {f : FuncId} {args : Array Value} {w : World} {v : Value} (s : Since w) (h : Calls P f args s.out (RetB v s.out)) : Calls P f args s.out fun e w'' => e = .returned v ∧ ∃ s' : Since w, w'' = s'.out :=
  h.mono fun _ w'' ⟨he, hb⟩ => ⟨he, ⟨w'', s.next hb⟩, rfl⟩
theorem since_quiet {P : Program} {f : FuncId} {args : Array Value} {w : World} {v : Value} (s : Since w) (h : Calls P f args s.out (RetQ v s.out)) : Calls P f args s.out fun e w'' => e = .returned v ∧ ∃ s' : Since w, w'' = s'.out :=
  since_call s (h.mono fun _ _ hr => hr.below)
theorem since_same {P : Program} {f : FuncId} {args : Array Value} {w : World} {v : Value} (s : Since w) (h : Calls P f args s.out fun e w' => e = .returned v ∧ s.out = w') : Calls P f args s.out fun e w'' => e = .returned v ∧ ∃ s' : Since w, w'' = s'.out :=
  h.mono fun _ _ ⟨he, hw⟩ => ⟨he, s, hw.symm⟩

end Go.Proofs.YtmcnamlgbkbiaaaDoor
