/-
  A region that draws its order, with a quiet head, all of which one operation waits for (a call): behind it step by step, whatever comes up. No program is named here.
-/
import Derived.Test.YtmcnamlgbkbiaaaDoorGate
namespace Go.Proofs.YtmcnamlgbkbiaaaDoor
open Go

/-- A step by itself, as a walk of one operation. -/
def onlyK (K : Act → World → Prop) (e : Exit) (a : Act) (w : World) : Prop := e = .normal ∧ K a w
theorem wpOp_of_list {P : Program} {ops : Array Oper} {Q : Exit → Act → World → Prop} {i : Nat} {o : Oper} {a : Act} {w : World} {K : Act → World → Prop} (hi : ops[i]? = some o) (h : wpList P ops (onlyK K) [o] a w) : wpOp P ops Q i K a w := by
  unfold wpOp
  simp only [hi]
  unfold wpList at h
  by_cases hw : Region.wanted o (yielded ops a.tmps) = true
  · rw [if_pos hw] at h ⊢
    have h' := h.resolve_right (fun x => by obtain ⟨_, _, _, h, _⟩ := x; cases h)
    refine .inl ?_
    unfold Oper.wp at h' ⊢
    revert h'
    generalize (execOp a.eval o).run P w = r
    intro h'
    match r, h' with
    | .ok (.value u) w', h' => exact h'.2
    | .ok .skip w', h' => exact h'.2
    | .ok (.defer d) w', h' => exact h'.2
    | .ok (.enter f args) w', h' =>
      refine Calls.mono h' fun e w'' he => ?_
      cases e with
      | returned u => exact he.2
      | panicked c => cases he.1
      | outgrown =>
        obtain ⟨_, _, h, _⟩ := he
        cases h
    | .ok (.row nm args) w', h' => exact Rows.mono h' fun u w'' he => he.2
    | .halt (.panic u) w', h' => cases h'.1
  · rw [if_neg hw] at h ⊢
    exact h.2

/-- Each of the first m operations is waited for by a later one up to m; each one behind m waits for m or for one behind it. -/
def callB (md : Region.Mode) (ops : Array Oper) (m : Nat) : Bool :=
  (List.range m).all (fun i => (List.range (m + 1)).any fun j => decide (i < j) && Region.waitsFor md ops j i) &&
  (List.range ops.size).all (fun t => decide (t ≤ m) || (List.range t).any fun j => decide (m ≤ j) && Region.waitsFor md ops t j)

theorem waits_call {md : Region.Mode} {ops : Array Oper} {m : Nat} (h : callB md ops m = true) : Waits md ops m 0 := by
  intro listed inv i _ him hun t ht hr
  simp only [callB, Bool.and_eq_true] at h
  obtain ⟨h1, h2⟩ := h
  obtain ⟨_, ot, hot, hall⟩ := mem_ready.1 hr
  have hts : t < ops.size := (Array.getElem?_eq_some_iff.1 hot).1
  by_cases htm : t = m
  · subst htm
    have all : ∀ d k, t - k = d → k < t → listed.getD k false = true := by
      intro d
      induction d using Nat.strongRecOn with
      | _ d ih =>
        intro k hd hk
        have h5 := List.all_eq_true.1 h1 k (List.mem_range.2 hk)
        rw [List.any_eq_true] at h5
        obtain ⟨n, hn, h6⟩ := h5
        rw [Bool.and_eq_true, decide_eq_true_eq] at h6
        have hnm := List.mem_range.1 hn
        obtain ⟨on, hon', e', he', hb', hk'⟩ := Region.waitsFor_spec h6.2
        by_cases hnt : n = t
        · subst hnt
          rw [hot] at hon'
          cases hon'
          have := hall e' he' hb'
          rwa [hk'] at this
        · have := inv.closed n on hon' (ih (t - n) (by omega) n rfl (by omega)) e' he' hb'
          rwa [hk'] at this
    have := all _ i rfl him
    rw [getD_both hun] at this
    cases this
  · have h3 := List.all_eq_true.1 h2 t (List.mem_range.2 hts)
    rw [decide_eq_false (by omega : ¬ t ≤ m), Bool.false_or, List.any_eq_true] at h3
    obtain ⟨j, hj, h4⟩ := h3
    rw [Bool.and_eq_true, decide_eq_true_eq] at h4
    have hjt := List.mem_range.1 hj
    obtain ⟨o', ho', e, he, hb, hon⟩ := Region.waitsFor_spec h4.2
    rw [hot] at ho'
    cases ho'
    have hjl := hall e he hb
    rw [hon] at hjl
    rw [getD_both (inv.tail j h4.1 (by omega))] at hjl
    cases hjl

/-- All that such a region must keep to. -/
def headB (ops : Array Oper) (m : Nat) : Bool :=
  Region.noSelect ops && (decide (m ≤ ops.size) && (callB .any ops m && (lexTo .any ops (marks ops.size (List.range m)) m 0 (Array.replicate ops.size false) && (Region.ready .any ops (marks ops.size (List.range m))).all (fun j => decide (m ≤ j)))))

theorem region_call {P : Program} {id : Nat} {Q : Exit → Act → World → Prop} {a : Act} {w : World} {l : List Oper} (m : Nat) (hmx : P.follows .mixedOrders = true) (hB : headB l.toArray m = true)
    (h : wpQuiet P l.toArray (fun w' => ∃ n, w' = w.drewN n) (fun a' => ∀ w', (∃ n, w' = w.drewN n) → wpAny P .any l.toArray Q (l.length - m) (marks l.toArray.size (List.range m)) a' w') (l.take m) a) : (Code.region id l.toArray true).wp P Q a w := by
  simp only [headB, Bool.and_eq_true, decide_eq_true_eq] at hB
  obtain ⟨hsel, hsz, hg, hlex, hdone⟩ := hB
  have hm' : m ≤ l.length := by simpa using hsz
  have htl : (l.take m).length = m := by simp; omega
  have inv0 : HeadInv .any l.toArray m (Array.replicate l.toArray.size false) :=
    ⟨by simp, fun j oj _ hl => (by rw [getD_replicate_false] at hl; cases hl), fun t _ ht => getD_in (by simpa using ht) (getD_replicate_false _ _)⟩
  have H := headQ_to (C := fun w' => ∃ n, w' = w.drewN n) hsel (waits_call hg) hdone (l.take m) 0 _ a (fun j hj => by
    have hj' : j < m := by rw [htl] at hj; exact hj
    simp [hj']) (by simpa using htl) inv0 (by rw [htl]; exact hlex) h
  refine wp_region_any hmx ?_
  have := any_of_headQ (Q := Q) (g := l.length - m) (fun listed b w' hw' hL => by
    obtain ⟨rfl, hL2⟩ := hL
    exact hL2 w' hw') _ _ _ w.drew ⟨1, rfl⟩ H
  rw [htl, show m + (l.length - m) = l.length by omega] at this
  have e : l.toArray.size = l.length := by simp
  rw [← e] at this
  exact this

section
variable {P : Program} {md : Region.Mode} {ops : Array Oper} {Q : Exit → Act → World → Prop} {f i j : Nat} {listed : Array Bool} {a : Act} {w : World}
theorem any_one1 (hr : Region.ready md ops listed = [i]) (h : wpOp P ops Q i (wpAny P md ops Q f (listed.setIfInBounds i true)) a w) : wpAny P md ops Q (f + 1) listed a w :=
  ⟨fun h0 => (by rw [hr] at h0; cases h0), fun k hk => by
    rw [hr] at hk
    obtain rfl := List.mem_singleton.1 hk
    exact h⟩
theorem any_two (hr : Region.ready md ops listed = [i, j]) (h : wpOp P ops Q i (wpAny P md ops Q f (listed.setIfInBounds i true)) a w) (h' : wpOp P ops Q j (wpAny P md ops Q f (listed.setIfInBounds j true)) a w) : wpAny P md ops Q (f + 1) listed a w :=
  ⟨fun h0 => (by rw [hr] at h0; cases h0), fun k hk => by
    rw [hr] at hk
    rcases List.mem_cons.1 hk with rfl | hk
    · exact h
    · obtain rfl := List.mem_singleton.1 hk
      exact h'⟩
theorem any_end (hr : Region.ready md ops listed = []) (h : Q .normal a w) : wpAny P md ops Q 0 listed a w := ⟨hr, h⟩
end

end Go.Proofs.YtmcnamlgbkbiaaaDoor
