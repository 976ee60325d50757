/-
  A range over the map of tries, each try's windows looked at: what has been seen so far.
-/
import Derived.Test.YtbdcpjpdonednaaApart
import Derived.Sort.OwnSorted
namespace Go.Proofs.Ytbdcpjpdonednaa
open Go.RowKit Go.Shelf Go.Maps

/-- Those still to come lie as they were put; those that have come are far. -/
def RngInv (w : World) (base : Nat) (D : DataW Value) (G : Int → Int → List Int) (left : Lit → Bool) (ws : World) : Prop :=
  (∀ a c, OkI a → OkI c → left (klit a c) = true → ∃ v, D.atKey (klit a c) (.held nilS) = .held v ∧ Owns .i64 3 ws base v (G a c)) ∧
  (∀ a c, OkI a → OkI c → left (klit a c) = false → Far (G a c)) ∧ Below w.heap.size w ws

theorem owns_nilS {w : World} {base : Nat} {zs : List Int} (h : Owns .i64 3 w base nilS zs) : zs = [] := by
  obtain ⟨x, cap, e, _⟩ := h.form
  unfold nilS at e
  simp only [Value.slice.injEq] at e
  exact List.length_eq_zero_iff.1 e.2.1.symm
theorem apart_none (v : Value) : v.ownBlock = none ∨ v.ownBlock ≠ none := by
  cases h : v.ownBlock
  · exact .inl rfl
  · exact .inr (by simp)

theorem RngInv.start {w wr w0 : World} {b n base : Nat} {D : DataW Value} {G : Int → Int → List Int} (h : Tries wr b n base D G) (hg : wr.grownBy w0 none) (hB : Below w.heap.size w wr) : RngInv w base D G (Maps.has D) w0 := by
  refine ⟨fun a c ha hc _ => ?_, fun a c ha hc hl => ?_, hB.grown hg hB.size (fun g e => by cases e)⟩
  · obtain ⟨v, hv, hO⟩ := h.row a c ha hc
    exact ⟨v, hv, World.ownsRow.kept hO hg (apart_none v)⟩
  · obtain ⟨v, hv, hO⟩ := h.row a c ha hc
    rw [atKey_of_not_has hl] at hv
    cases hv
    rw [owns_nilS hO]
    exact far_nil

theorem RngInv.step {w ws ws' ws2 : World} {b r n base : Nat} {D : DataW Value} {G : Int → Int → List Int} {left : Lit → Bool} {cnt : Nat} (hI : RngInv w base D G left ws)
    (hap : ∀ a c a' c', OkI a → OkI c → OkI a' → OkI c' → ¬ (a = a' ∧ c = c') → ∀ v v', D.atKey (klit a c) (.held nilS) = .held v → D.atKey (klit a' c') (.held nilS) = .held v' → v.ownBlock = none ∨ v.ownBlock ≠ v'.ownBlock)
    (hrg : ws.ranges Try.prog 45 opq b r n D left cnt) (hr : w.heap.size ≤ r) (hbase : w.heap.size ≤ base) (hg1 : ws.grownBy ws' (some r)) {a c : Int} (ha : OkI a) (hc : OkI c) {v : Value} (hv : D.atKey (klit a c) (.held nilS) = .held v)
    (hO : Owns .i64 3 ws' base v (G a c)) (hg2 : ws'.grownBy ws2 v.ownBlock) (hF : Far (G a c)) : RngInv w base D G (fun z => left z && !z.sameKey (klit a c)) ws2 := by
  have hB' : Below w.heap.size w ws' := hI.2.2.grown hg1 hI.2.2.size (fun g e => by cases e; exact hr)
  refine ⟨fun x y hx hy hl => ?_, fun x y hx hy hl => ?_, hB'.grown hg2 hB'.size (fun g e => Nat.le_trans hbase (hO.ownBlock g e))⟩
  · simp only [Bool.and_eq_true, Bool.not_eq_true'] at hl
    have hne : ¬ (x = a ∧ y = c) := fun e => by
      obtain ⟨rfl, rfl⟩ := e
      rw [WideAt.sameKey_self (law_try.key (key_ok hx hy))] at hl
      cases hl.2
    obtain ⟨u, hu, hOu⟩ := hI.1 x y hx hy hl.1
    have h1 : Owns .i64 3 ws' base u (G x y) := World.ownsRow.kept hOu hg1 (.inr (row_ne_iter hOu hrg).symm)
    exact ⟨u, hu, World.ownsRow.kept h1 hg2 (hap x y a c hx hy ha hc hne u v hu hv)⟩
  · by_cases hl' : left (klit x y) = true
    · dsimp only at hl
      rw [hl', Bool.true_and] at hl
      cases hs : (klit x y).sameKey (klit a c)
      · rw [hs] at hl; cases hl
      · obtain ⟨rfl, rfl⟩ := klit_inj hx hy ha hc (WideAt.sameKey_eq hs)
        exact hF
    · exact hI.2.1 x y hx hy (by simpa using hl')

theorem RngInv.done {w ws : World} {base : Nat} {D : DataW Value} {es : List Ev} {left : Lit → Bool} (h : RngInv w base D (wins es) left ws) (ho : EvsOk es) (hl : ∀ kl, left kl = false) : sparse es = true := by
  rw [sparse_iff, sparse_wins]
  intro a b
  by_cases ha : OkI a ∧ OkI b
  · exact h.2.1 a b ha.1 ha.2 (hl _)
  · have : wins es a b = [] := by
      unfold wins
      rw [List.map_eq_nil_iff, List.filter_eq_nil_iff]
      intro s hs
      simp only [Bool.and_eq_true, beq_iff_eq, not_and]
      intro e1 e2
      exact ha ⟨e1 ▸ (ho s hs).1, e2 ▸ (ho s hs).2.1⟩
    rw [this]
    exact far_nil
theorem not_far_sparse {es : List Ev} {a b : Int} (h : ¬ Far (wins es a b)) : sparse es = false := sparse_no fun hs => h ((sparse_wins es).1 hs a b)

end Go.Proofs.Ytbdcpjpdonednaa
