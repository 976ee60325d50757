/-
  Two agendas beside each other, and what was told, through each other's calls.
-/
import Derived.Test.YtaphhgiocahnhaaAgLive
namespace Go.Proofs.Ytaphhgiocahnhaa
open Go.RowKit

/-- Two agendas of the call's own, with no block in common. -/
structure Two (w0 w : World) (FA FB : Nat → Prop) (A B : Nat) (ea eb : List Ev) (pa pb : Nat) : Prop where
  below : Below w0.heap.size w0 w
  a : AG w FA A ea pa
  b : AG w FB B eb pb
  dis : Dis FA FB
  na : ∀ k, FA k → w0.heap.size ≤ k
  nb : ∀ k, FB k → w0.heap.size ≤ k

section
variable {w0 w w' : World} {FA FB : Nat → Prop} {A B pa pb : Nat} {ea eb : List Ev}
theorem Two.swap (h : Two w0 w FA FB A B ea eb pa pb) : Two w0 w FB FA B A eb ea pb pa := ⟨h.below, h.b, h.a, h.dis.symm, h.nb, h.na⟩
theorem Two.quiet (h : Two w0 w FA FB A B ea eb pa pb) (hb : Below w.heap.size w w') : Two w0 w' FA FB A B ea eb pa pb := ⟨below_on h.below hb, h.a.below hb, h.b.below hb, h.dis, h.na, h.nb⟩
theorem Two.but {G : Nat → Prop} (h : Two w0 w FA FB A B ea eb pa pb) (hb : But G w w') (h1 : Dis FA G) (h2 : Dis FB G) (h3 : ∀ k, G k → w0.heap.size ≤ k) : Two w0 w' FA FB A B ea eb pa pb := ⟨h.below.trans (hb.below h.below.size h3), h.a.but hb h1, h.b.but hb h2, h.dis, h.na, h.nb⟩
theorem Two.due (h : Two w0 w FA FB A B ea eb pa pb) {ts es : List Ev} {e : Ending} (hd : Dued w FA A ts es pa e w') :
    ∃ x cap, e = .returned (.slice x ts.length cap) ∧ OwnsE w' w.heap.size (.slice x ts.length cap) ts ∧ But FA w w' ∧ Two w0 w' FA FB A B es eb pa pb := by
  obtain ⟨x, cap, rfl, _, _, hO, hA, hB⟩ := hd.open
  exact ⟨x, cap, rfl, hO, hB, ⟨h.below.trans (hB.below h.below.size h.na), hA, h.b.but hB h.dis.symm, h.dis, h.na, h.nb⟩⟩
theorem Two.put (h : Two w0 w FA FB A B ea eb pa pb) {es : List Ev} {p : Nat} (hA : AG w' (Or2 FA (Nw w w')) A es p) (hB : But FA w w') : Two w0 w' (Or2 FA (Nw w w')) FB A B es eb p pb := by
  have hs := h.below.size
  refine ⟨h.below.trans (hB.below hs h.na), hA, h.b.but hB h.dis.symm, fun k c d => ?_, fun k c => ?_, h.nb⟩
  · rcases c with c | c
    · exact h.dis k c d
    · have := h.b.lt k d; have := c.1; omega
  · rcases c with c | c
    · exact h.na k c
    · have := c.1; omega
end

theorem OwnsE.told {w w' : World} {base : Nat} {v : Value} {ts : List Ev} {F : Nat → Prop} (h : OwnsE w base v ts) (hb : But F w w') (hF : ∀ k, F k → k < base) : OwnsE w' base v ts := h.keep fun g h1 h2 => hb.block g h2 fun c => by have := hF g c; omega
theorem OwnsE.reads {w : World} {base : Nat} {x : Option Addr} {n cap : Nat} {ts : List Ev} (h : OwnsE w base (.slice x n cap) ts) : ReadsE w w.heap.size x ts := by
  obtain ⟨x', cap', e, _, _, hR, _⟩ := h.form
  simp only [Value.slice.injEq] at e
  rw [e.1]
  exact hR

theorem due_len (t : Int) (es : List Ev) : (due t es).length ≤ es.length := List.length_filter_le _ _
theorem yet_len (t : Int) (es : List Ev) : (yet t es).length ≤ es.length := List.length_filter_le _ _
theorem due_yet (t : Int) (es : List Ev) : due t (yet t es) = [] := by
  unfold due yet
  rw [List.filter_filter]
  exact List.filter_eq_nil_iff.2 fun x _ => by simp

theorem yet_yet (t : Int) (es : List Ev) : yet t (yet t es) = yet t es := by
  unfold yet
  rw [List.filter_filter]
  exact List.filter_congr fun x _ => by simp

end Go.Proofs.Ytaphhgiocahnhaa
