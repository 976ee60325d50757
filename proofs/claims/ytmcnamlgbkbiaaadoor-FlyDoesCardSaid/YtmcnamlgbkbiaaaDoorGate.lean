/-
  A region that draws its order, in three parts: a quiet head behind one gate (all that follows waits for the head's last operation, and that for all of the head); operations that look at local slots alone, wherever they come up; and the others, in one forced order. One walk serves every order.
  No program is named here.
-/
import Derived.Test.YtmcnamlgbkbiaaaDoorQuietTail
namespace Go.Proofs.YtmcnamlgbkbiaaaDoor
open Go

section
variable {P : Program} {md : Region.Mode} {ops : Array Oper} {C : World → Prop} {m : Nat}

/-- Each of the first m operations but the last is waited for by a later one of them; each other one waits for the last of them, or for one behind it. -/
def gateB (md : Region.Mode) (ops : Array Oper) (m : Nat) : Bool :=
  (List.range (m - 1)).all (fun i => (List.range m).any fun j => decide (i < j) && Region.waitsFor md ops j i) &&
  (List.range ops.size).all (fun t => decide (t < m) || (List.range t).any fun j => decide (m - 1 ≤ j) && Region.waitsFor md ops t j)

theorem waits_gate (h : gateB md ops m = true) : Waits md ops m 0 := by
  intro listed inv i _ him hun t ht hr
  simp only [gateB, Bool.and_eq_true] at h
  obtain ⟨h1, h2⟩ := h
  obtain ⟨_, ot, hot, hall⟩ := mem_ready.1 hr
  have hts : t < ops.size := (Array.getElem?_eq_some_iff.1 hot).1
  have h3 := List.all_eq_true.1 h2 t (List.mem_range.2 hts)
  rw [decide_eq_false (by omega : ¬ t < m), Bool.false_or, List.any_eq_true] at h3
  obtain ⟨j, hj, h4⟩ := h3
  rw [Bool.and_eq_true, decide_eq_true_eq] at h4
  have hjt := List.mem_range.1 hj
  obtain ⟨o', ho', e, he, hb, hon⟩ := Region.waitsFor_spec h4.2
  rw [hot] at ho'
  cases ho'
  have hjl := hall e he hb
  rw [hon] at hjl
  have hjm : j = m - 1 := by
    rcases Nat.lt_or_ge j m with h | h
    · omega
    · rw [getD_both (inv.tail j h (by omega))] at hjl; cases hjl
  subst hjm
  have all : ∀ d k, m - 1 - k = d → k < m → listed.getD k false = true := by
    intro d
    induction d using Nat.strongRecOn with
    | _ d ih =>
      intro k hd hk
      rcases Nat.lt_or_ge k (m - 1) with hk1 | hk1
      · have h5 := List.all_eq_true.1 h1 k (List.mem_range.2 hk1)
        rw [List.any_eq_true] at h5
        obtain ⟨n, hn, h6⟩ := h5
        rw [Bool.and_eq_true, decide_eq_true_eq] at h6
        have hnm := List.mem_range.1 hn
        obtain ⟨on, hon', e', he', hb', hk'⟩ := Region.waitsFor_spec h6.2
        have := inv.closed n on hon' (ih (m - 1 - n) (by omega) n rfl hnm) e' he' hb'
        rwa [hk'] at this
      · rw [show k = m - 1 by omega]; exact hjl
  have := all _ i rfl him
  rw [getD_both hun] at this
  cases this

/-- Taken one by one in the text's order, each free, they come to that list of what has come up. -/
def lexTo (md : Region.Mode) (ops : Array Oper) (target : Array Bool) : Nat → Nat → Array Bool → Bool
  | 0, _, listed => listed == target
  | f + 1, k, listed => (Region.ready md ops listed).contains k && Region.free md ops listed k && lexTo md ops target f (k + 1) (listed.setIfInBounds k true)

theorem headQ_to {target : Array Bool} {Lq : Act → Prop} (hsel : Region.noSelect ops = true) (hwt : Waits md ops m 0) (hdone : (Region.ready md ops target).all (fun j => decide (m ≤ j)) = true) :
    ∀ (l : List Oper) (k : Nat) (listed : Array Bool) (a : Act), (∀ j, j < l.length → l[j]? = ops[k + j]?) → k + l.length = m → HeadInv md ops m listed →
    lexTo md ops target l.length k listed = true → wpQuiet P ops C Lq l a → headQ P md ops C m (fun listed' a' => listed' = target ∧ Lq a') l.length listed a
  | [], k, listed, a, _, hk, _, hB, h => ⟨by simpa [lexTo] using hB, h⟩
  | o :: l, k, listed, a, hl, hk, inv, hB, h => by
    have h0 : ops[k]? = some o := by simpa using (hl 0 (by simp)).symm
    simp only [List.length_cons, lexTo, Bool.and_eq_true] at hB
    obtain ⟨⟨hr, hf⟩, hB'⟩ := hB
    have hkm : k < m := by simp only [List.length_cons] at hk; omega
    have hr' : k ∈ Region.ready md ops listed := by simpa using hr
    obtain ⟨v, hy, hK⟩ := yieldsIn_of_qOp (K := wpQuiet P ops C Lq l) h0 (by unfold qOp; simp only [h0]; exact h)
    refine headQ_first h0 (Region.noSelect_spec hsel) hwt (Nat.zero_le _) hkm (fun listed' a' hL j hj => ?_) l.length listed a inv (Region.free_spec h0 hf) hr' hy
      (headQ_to hsel hwt hdone l (k + 1) _ _ (fun j hj => by have := hl (j + 1) (by simp; omega); simpa [Nat.add_assoc, Nat.add_comm 1 j] using this) (by simp only [List.length_cons] at hk; omega) (inv.set hr' hkm) hB' hK)
    rw [hL.1] at hj
    exact of_decide_eq_true (List.all_eq_true.1 hdone j hj)

/-- Operations that look at local slots alone, one behind the other. -/
def Pures (P : Program) (ops : Array Oper) (L : Act → Prop) : List Oper → Act → Prop
  | [], a => L a
  | o :: os, a => ∃ v, Yields P ops o v a ∧ Pures P ops L os (a.put o.dst v)
def takeTo (md : Region.Mode) (ops : Array Oper) (target : Array Bool) : List Nat → Array Bool → Bool
  | [], listed => listed == target
  | j :: js, listed => (Region.ready md ops listed).contains j && Region.free md ops listed j && takeTo md ops target js (listed.setIfInBounds j true)

theorem any_pures {Q : Exit → Act → World → Prop} {target : Array Bool} {g : Nat} {w : World} (hsel : Region.noSelect ops = true) (hQ : ∀ c d v a w, Q (.panic c) (a.put d v) w → Q (.panic c) a w) :
    ∀ (js : List Nat) (os : List Oper) (listed : Array Bool) (a : Act), js.map (fun j => ops[j]?) = os.map some → takeTo md ops target js listed = true →
      Pures P ops (fun a' => wpAny P md ops Q g target a' w) os a → wpAny P md ops Q (js.length + g) listed a w
  | [], [], listed, a, _, hB, h => by
    have : listed = target := by simpa [takeTo] using hB
    subst this
    simpa [Pures] using h
  | [], _ :: _, _, _, he, _, _ => by simp at he
  | _ :: _, [], _, _, he, _, _ => by simp at he
  | j :: js, o :: os, listed, a, he, hB, ⟨v, hy, h⟩ => by
    simp only [List.map_cons, List.cons.injEq] at he
    simp only [takeTo, Bool.and_eq_true] at hB
    rw [List.length_cons, Nat.add_right_comm]
    exact wpAny_take he.1 hsel hB.1.2 hB.1.1 (fun c a w => hQ c _ _ a w) hy (any_pures hsel hQ js os _ _ he.2 hB.2 h)

/-- One alone is ready at each step. -/
def oneByOne (md : Region.Mode) (ops : Array Oper) : List Nat → Array Bool → Bool
  | [], listed => (Region.ready md ops listed).isEmpty
  | t :: ts, listed => (Region.ready md ops listed == [t]) && oneByOne md ops ts (listed.setIfInBounds t true)

theorem any_one {Q : Exit → Act → World → Prop} : ∀ (ts : List Nat) (os : List Oper) (listed : Array Bool) (a : Act) (w : World), ts.map (fun j => ops[j]?) = os.map some → oneByOne md ops ts listed = true →
      wpList P ops Q os a w → wpAny P md ops Q ts.length listed a w
  | [], [], listed, a, w, _, hB, h => ⟨by simpa [oneByOne] using hB, h⟩
  | [], _ :: _, _, _, _, he, _, _ => by simp at he
  | _ :: _, [], _, _, _, he, _, _ => by simp at he
  | t :: ts, o :: os, listed, a, w, he, hB, h => by
    simp only [List.map_cons, List.cons.injEq] at he
    simp only [oneByOne, Bool.and_eq_true, beq_iff_eq] at hB
    refine ⟨fun h0 => (by rw [hB.1] at h0; cases h0), fun i hi => ?_⟩
    rw [hB.1] at hi
    obtain rfl := List.mem_singleton.1 hi
    refine wpOp_mono (K := wpList P ops Q os) (fun a' w' h' => any_one ts os _ a' w' he.2 hB.2 h') ?_
    unfold wpOp
    simp only [he.1]
    exact h
end

/-- So much has come up. -/
def marks (n : Nat) (js : List Nat) : Array Bool := js.foldl (fun l j => l.setIfInBounds j true) (Array.replicate n false)
/-- All that the parts must keep to: m operations of the head; js: those that look at local slots alone; ts: the others, in order. -/
def partsB (ops : Array Oper) (m : Nat) (js ts : List Nat) : Bool :=
  Region.noSelect ops && (decide (m + (js.length + ts.length) = ops.size) && (gateB .any ops m && (lexTo .any ops (marks ops.size (List.range m)) m 0 (Array.replicate ops.size false) &&
    ((Region.ready .any ops (marks ops.size (List.range m))).all (fun j => decide (m ≤ j)) && (takeTo .any ops (marks ops.size (List.range m ++ js)) js (marks ops.size (List.range m)) && oneByOne .any ops ts (marks ops.size (List.range m ++ js)))))))

theorem region_parts {P : Program} {id : Nat} {Q : Exit → Act → World → Prop} {a : Act} {w : World} {l os rs : List Oper} (m : Nat) (js ts : List Nat) (hmx : P.follows .mixedOrders = true) (hB : partsB l.toArray m js ts = true)
    (hj : js.map (fun j => l.toArray[j]?) = os.map some) (ht : ts.map (fun j => l.toArray[j]?) = rs.map some) (hQ : ∀ c d v a w, Q (.panic c) (a.put d v) w → Q (.panic c) a w)
    (h : wpQuiet P l.toArray (fun w' => ∃ n, w' = w.drewN n) (fun a' => ∀ w', (∃ n, w' = w.drewN n) → Pures P l.toArray (fun b => wpList P l.toArray Q rs b w') os a') (l.take m) a) : (Code.region id l.toArray true).wp P Q a w := by
  simp only [partsB, Bool.and_eq_true, decide_eq_true_eq] at hB
  obtain ⟨hsel, hsz, hg, hlex, hdone, htake, hone⟩ := hB
  have hm' : m ≤ l.length := by have : l.toArray.size = l.length := by simp
                                omega
  have htl : (l.take m).length = m := by simp; omega
  have inv0 : HeadInv .any l.toArray m (Array.replicate l.toArray.size false) :=
    ⟨by simp, fun j oj _ hl => (by rw [getD_replicate_false] at hl; cases hl), fun t _ ht => getD_in (by simpa using ht) (getD_replicate_false _ _)⟩
  have H := headQ_to (C := fun w' => ∃ n, w' = w.drewN n) hsel (waits_gate hg) hdone (l.take m) 0 _ a (fun j hj => by
    have hj' : j < m := by rw [htl] at hj; exact hj
    simp [hj']) (by simpa using htl) inv0 (by rw [htl]; exact hlex) h
  refine wp_region_any hmx ?_
  have := any_of_headQ (Q := Q) (g := js.length + ts.length) (fun listed b w' hw' hL => by
    obtain ⟨rfl, hL2⟩ := hL
    refine any_pures hsel hQ js os _ b hj htake ?_
    have := hL2 w' hw'
    have mono : ∀ (os : List Oper) (b : Act), Pures P l.toArray (fun b => wpList P l.toArray Q rs b w') os b → Pures P l.toArray (fun b => wpAny P .any l.toArray Q ts.length (marks l.toArray.size (List.range m ++ js)) b w') os b := by
      intro os
      induction os with
      | nil => intro b hb; exact any_one ts rs _ b w' ht hone hb
      | cons o os ih => rintro b ⟨v, hy, hb⟩; exact ⟨v, hy, ih _ hb⟩
    exact mono os b this) _ _ _ w.drew ⟨1, rfl⟩ H
  rw [htl, hsz] at this
  exact this

end Go.Proofs.YtmcnamlgbkbiaaaDoor
