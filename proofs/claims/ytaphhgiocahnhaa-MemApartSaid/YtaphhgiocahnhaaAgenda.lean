/-
  An agenda: what it keeps, in which blocks; what Left, Next and Put of package agenda come to.
-/
import Derived.Test.YtaphhgiocahnhaaHeapPop
namespace Go.Proofs.Ytaphhgiocahnhaa
open Go.RowKit Go.Sort

/-- New blocks. -/
def Nw (w w' : World) (k : Nat) : Prop := w.heap.size ≤ k ∧ k < w'.heap.size
def Or2 (F G : Nat → Prop) (k : Nat) : Prop := F k ∨ G k
/-- No block in common. -/
def Dis (F G : Nat → Prop) : Prop := ∀ k, F k → ¬ G k
theorem Dis.symm {F G : Nat → Prop} (h : Dis F G) : Dis G F := fun k h1 h2 => h k h2 h1

/-- The agenda at A keeps the events es, in their order; p were put so far; all its blocks are of F. -/
def AG (w : World) (F : Nat → Prop) (A : Nat) (es : List Ev) (p : Nat) : Prop :=
  ∃ v d, HQ w A v p d ∧ Kp d es p ∧ EvsOk es ∧ F A ∧ (∀ g, v.ownBlock = some g → F g) ∧ ∀ k, F k → k < w.heap.size

section
variable {w w' : World} {F G : Nat → Prop} {A p : Nat} {es : List Ev}
theorem AG.keep (h : AG w F A es p) (hs : w.heap.size ≤ w'.heap.size) (hk : ∀ k, F k → w'.heap[k]? = w.heap[k]?) : AG w' F A es p := by
  obtain ⟨v, d, h1, h2, h3, h4, h5, h6⟩ := h
  exact ⟨v, d, h1.keep (hk A h4) (fun g e => hk g (h5 g e)), h2, h3, h4, h5, fun k c => Nat.lt_of_lt_of_le (h6 k c) hs⟩
theorem AG.but (h : AG w F A es p) (hb : But G w w') (hd : Dis F G) : AG w' F A es p := h.keep hb.size fun k c => hb.block k (by obtain ⟨_, _, _, _, _, _, _, h6⟩ := h; exact h6 k c) (hd k c)
theorem AG.below (h : AG w F A es p) (hb : Below w.heap.size w w') : AG w' F A es p := h.but (But.of_below (F := fun _ => False) hb) (fun _ _ c => c)
theorem AG.lt (h : AG w F A es p) : ∀ k, F k → k < w.heap.size := by obtain ⟨_, _, _, _, _, _, _, h6⟩ := h; exact h6
theorem AG.srd (h : AG w F A es p) : Srd es := by obtain ⟨_, _, _, h2, _⟩ := h; exact h2.srd
theorem AG.ok (h : AG w F A es p) : EvsOk es := by obtain ⟨_, _, _, _, h3, _⟩ := h; exact h3
theorem AG.more (h : AG w F A es p) (hF : ∀ k, F k → G k) (hG : ∀ k, G k → k < w.heap.size) : AG w G A es p := by
  obtain ⟨v, d, h1, h2, h3, h4, h5, h6⟩ := h
  exact ⟨v, d, h1, h2, h3, hF _ h4, fun g e => hF _ (h5 g e), hG⟩
end

/-- What Next tells. -/
def nxT : List Ev → Int
  | [] => 0
  | x :: _ => x.tk
def nxE : List Ev → Int
  | [] => 9
  | _ :: _ => 0

end Go.Proofs.Ytaphhgiocahnhaa
