/-
  Plain mathematics of what is due: in two goes as in one; put in two goes as in one.
-/
import Derived.Test.YtfkidghillnknaaAgTwo
namespace Go.Proofs.Ytfkidghillnknaa
open Go.RowKit

theorem due_app (t : Int) : ∀ {L : List Ev}, Srd L → due t L ++ yet t L = L
  | [], _ => rfl
  | x :: l, h => by
    have ih := due_app t (List.pairwise_cons.1 h).2
    by_cases c : x.tk ≤ t
    · have e1 : due t (x :: l) = x :: due t l := by simp [due, c]
      have e2 : yet t (x :: l) = yet t l := by unfold yet; rw [List.filter_cons, if_neg (by simp; omega)]
      rw [e1, e2, List.cons_append, ih]
    · obtain ⟨e1, e2⟩ := due_split (t := t) h (ts := []) (es' := x :: l) rfl (fun x hx => by cases hx) (fun y hy => by simp at hy; rw [← hy]; omega)
      rw [e1, e2]; rfl
theorem due_due {m M : Int} (h : m ≤ M) (L : List Ev) : due M (due m L) = due m L := by
  unfold due
  rw [List.filter_filter]
  exact List.filter_congr fun x _ => by
    by_cases c : x.tk ≤ m
    · rw [decide_eq_true c, decide_eq_true (by omega)]; rfl
    · rw [decide_eq_false c]; simp
theorem due_two {m M : Int} (h : m ≤ M) {L : List Ev} (hs : Srd L) : due m L ++ due M (yet m L) = due M L := by
  have e : due M L = due M (due m L ++ yet m L) := by rw [due_app m hs]
  have f : due M (due m L ++ yet m L) = due M (due m L) ++ due M (yet m L) := List.filter_append ..
  rw [e, f, due_due h]
theorem yet_two {m M : Int} (h : m ≤ M) (L : List Ev) : yet M (yet m L) = yet M L := by
  unfold yet
  rw [List.filter_filter]
  exact List.filter_congr fun x _ => by
    by_cases c : M < x.tk
    · rw [decide_eq_true c, decide_eq_true (by omega)]; rfl
    · rw [decide_eq_false c]; simp
theorem putAll_app (es xs ys : List Ev) : putAll (putAll es xs) ys = putAll es (xs ++ ys) := by unfold putAll; rw [List.foldl_append]

/-- A list that was told, its row in a block from lo on, below hi. -/
def Told (w : World) (lo hi : Nat) (v : Value) (ts : List Ev) : Prop := OwnsE w lo v ts ∧ ∀ g, v.ownBlock = some g → g < hi
theorem OwnsE.toldNow {w : World} {lo : Nat} {v : Value} {ts : List Ev} (h : OwnsE w lo v ts) : Told w lo w.heap.size v ts := ⟨h, fun g e => (World.ownsRow.lt h g e).2⟩
theorem Told.keep {w w' : World} {lo hi : Nat} {v : Value} {ts : List Ev} (h : Told w lo hi v ts) (hk : ∀ g, lo ≤ g → g < hi → w'.heap[g]? = w.heap[g]?) : Told w' lo hi v ts := by
  refine ⟨⟨h.1.1, ?_⟩, h.2⟩
  rcases h.1.2 with h2 | ⟨g, cap, cur, e1, e2, e3, e4⟩
  · exact .inl h2
  · have hg : v.ownBlock = some g := by rw [e1]; rfl
    exact .inr ⟨g, cap, cur, e1, e2, (hk g e2 (h.2 g hg)).trans e3, e4⟩
theorem Told.but {w w' : World} {lo hi : Nat} {v : Value} {ts : List Ev} {F : Nat → Prop} (h : Told w lo hi v ts) (hb : But F w w') (hF : ∀ k, F k → k < lo ∨ hi ≤ k) (hh : hi ≤ w.heap.size) : Told w' lo hi v ts :=
  h.keep fun g h1 h2 => hb.block g (by omega) fun c => by have := hF g c; omega
theorem Told.below {w w' : World} {lo hi : Nat} {v : Value} {ts : List Ev} (h : Told w lo hi v ts) (hb : Below w.heap.size w w') (hh : hi ≤ w.heap.size) : Told w' lo hi v ts := h.keep fun g _ h2 => hb.block g (by omega)
theorem Told.reads {w : World} {lo hi n cap : Nat} {x : Option Addr} {ts : List Ev} (h : Told w lo hi (.slice x n cap) ts) : ReadsE w w.heap.size x ts := h.1.reads
theorem OwnsE.nn {w : World} {b : Nat} {x : Option Addr} {n cap : Nat} {ts : List Ev} (h : OwnsE w b (.slice x n cap) ts) : ts.length = n := by
  obtain ⟨_, _, e, _⟩ := h.form
  simp only [Value.slice.injEq] at e
  exact e.2.1.symm
theorem OwnsE.src {w : World} {b : Nat} {x : Option Addr} {n cap : Nat} {ts : List Ev} (h : OwnsE w b (.slice x n cap) ts) : SrcE w x n cap ts := by
  refine h.reads.src h.nn fun e => ?_
  subst e
  rcases h.2 with ⟨e, _⟩ | ⟨g, c, cur, e, _⟩
  · simp only [Value.slice.injEq] at e
    exact ⟨e.2.1, e.2.2⟩
  · cases e

end Go.Proofs.Ytfkidghillnknaa
