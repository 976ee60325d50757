/-
  A region that draws its order: reads that come to the same in every world of a class, wherever they stand in the text, are taken first; what is left is gone through step by step, in whatever order it may come up. Plain. No program is named here.
-/
import Derived.Test.YtmcnamlgbkbiaaaDoorReads
namespace Go.Proofs.YtmcnamlgbkbiaaaDoor
open Go

section
variable {P : Program} {md : Region.Mode} {ops : Array Oper} {C : World → Prop} {Q : Exit → Act → World → Prop} {t : Nat}

def readsToL (md : Region.Mode) (ops : Array Oper) (t : Nat) (target : Array Bool) : List Nat → Array Bool → Bool
  | [], listed => listed == target
  | k :: ks, listed => (Region.ready md ops listed).contains k && (Region.free md ops listed k && (Region.waitsFor md ops t k && readsToL md ops t target ks (listed.setIfInBounds k true)))

theorem anyC_readsL {target : Array Bool} {L : Act → Prop} {g : Nat} {w : World} (hsel : Region.noSelect ops = true) (hP : ∀ c a w, ¬ Q (.panic c) a w) (hO : ¬ LetsOut Q) (hC : C w) (hL : ∀ a', L a' → anyC P md ops C Q t g target a' w) :
    ∀ (is : List Nat) (l : List Oper) (listed : Array Bool) (a : Act), is.map (fun i => ops[i]?) = l.map some → l.all readOp = true → readsToL md ops t target is listed = true → wpQuiet P ops C L l a → anyC P md ops C Q t (g + is.length) listed a w
  | [], l, listed, a, hl, _, hB, h => by
    have : listed = target := by simpa [readsToL] using hB
    subst this
    have : l = [] := by cases l with | nil => rfl | cons _ _ => simp at hl
    subst this
    exact hL a h
  | k :: ks, [], listed, a, hl, _, _, _ => by simp at hl
  | k :: ks, o :: l, listed, a, hl, hr, hB, h => by
    simp only [List.map_cons, List.cons.injEq] at hl
    obtain ⟨h0, hl'⟩ := hl
    simp only [readsToL, Bool.and_eq_true] at hB
    obtain ⟨hr1, hf, hwt, hB'⟩ := hB
    simp only [List.all_cons, Bool.and_eq_true] at hr
    have hg : o.guard = none := by
      have := hr.1
      simp only [readOp, Bool.and_eq_true, Option.isNone_iff_eq_none] at this
      exact this.1
    simp only [wpQuiet, wanted_none hg, if_true] at h
    obtain ⟨v, hv, hK⟩ := h
    exact anyC_first h0 (Region.noSelect_spec hsel) hwt hP hO (g + ks.length) listed a w (Region.free_spec h0 hf) (by simpa using hr1) ⟨wanted_none hg, fun w' hw' => read_value hr.1 (hv w' hw')⟩ hC
      (anyC_readsL hsel hP hO hC hL ks l _ _ hl' hr.2 hB' hK)

theorem anyC_one {f i : Nat} {listed : Array Bool} {a : Act} {w : World} (hr : Region.ready md ops listed = [i]) (h : wpOp P ops Q i (fun a' w' => (i ≠ t → C w') ∧ anyC P md ops C Q t f (listed.setIfInBounds i true) a' w') a w) : anyC P md ops C Q t (f + 1) listed a w :=
  ⟨fun h0 => (by rw [hr] at h0; cases h0), fun j hj => by
    rw [hr] at hj
    obtain rfl := List.mem_singleton.1 hj
    exact h⟩
theorem anyC_two {f i j : Nat} {listed : Array Bool} {a : Act} {w : World} (hr : Region.ready md ops listed = [i, j]) (h : wpOp P ops Q i (fun a' w' => (i ≠ t → C w') ∧ anyC P md ops C Q t f (listed.setIfInBounds i true) a' w') a w)
    (h' : wpOp P ops Q j (fun a' w' => (j ≠ t → C w') ∧ anyC P md ops C Q t f (listed.setIfInBounds j true) a' w') a w) : anyC P md ops C Q t (f + 1) listed a w :=
  ⟨fun h0 => (by rw [hr] at h0; cases h0), fun m hm => by
    rw [hr] at hm
    rcases List.mem_cons.1 hm with rfl | hm
    · exact h
    · obtain rfl := List.mem_singleton.1 hm
      exact h'⟩
theorem anyC_end {listed : Array Bool} {a : Act} {w : World} (hr : Region.ready md ops listed = []) (h : Q .normal a w) : anyC P md ops C Q t 0 listed a w := ⟨hr, h⟩

theorem wpOp_call {i : Nat} {o : Oper} {a : Act} {w : World} {f : FuncId} {args : Array Value} {K : Act → World → Prop} (hi : ops[i]? = some o) (hg : o.guard = none) (hx : (execOp a.eval o).run P w = .ok (.enter f args) w)
    (hc : Calls P f args w fun e w' => ∃ v, e = .returned v ∧ K (a.put o.dst v) w') : wpOp P ops Q i K a w := by
  unfold wpOp
  simp only [hi, wanted_none hg, if_true]
  refine .inl ?_
  unfold Oper.wp
  rw [hx]
  refine Calls.mono hc fun e w' he => ?_
  obtain ⟨v, rfl, h⟩ := he
  exact h
theorem wpOp_value {i : Nat} {o : Oper} {a : Act} {w w' : World} {v : Value} {K : Act → World → Prop} (hi : ops[i]? = some o) (hg : o.guard = none) (hx : (execOp a.eval o).run P w = .ok (.value v) w') (h : K (a.put o.dst v) w') : wpOp P ops Q i K a w := by
  unfold wpOp
  simp only [hi, wanted_none hg, if_true]
  refine .inl ?_
  unfold Oper.wp
  rw [hx]
  exact h
theorem wpOp_skip {i : Nat} {o : Oper} {a : Act} {w w' : World} {K : Act → World → Prop} (hi : ops[i]? = some o) (hg : o.guard = none) (hx : (execOp a.eval o).run P w = .ok .skip w') (h : K (a.put o.dst undef) w') : wpOp P ops Q i K a w := by
  unfold wpOp
  simp only [hi, wanted_none hg, if_true]
  refine .inl ?_
  unfold Oper.wp
  rw [hx]
  exact h
end

/-- All that such a region must keep to. -/
def readsLB (l : List Oper) (is : List Nat) : Bool :=
  Region.noSelect l.toArray && (decide (is.length ≤ l.length) && readsToL .any l.toArray (l.length - 1) (is.foldl (fun x j => x.setIfInBounds j true) (Array.replicate l.toArray.size false)) is (Array.replicate l.toArray.size false))

def idleOp : Oper := { dst := none, op := .move (.const undef), type := 0, pos := "none", after := #[], guard := none }
theorem region_readsL {P : Program} {C : World → Prop} {id : Nat} {Q : Exit → Act → World → Prop} {a : Act} {w : World} {l : List Oper} (is : List Nat) (hm : P.follows .mixedOrders = true) (hB : readsLB l is = true) (hl : is.map (fun i => l.toArray[i]?) = (is.map fun i => l.getD i idleOp).map some) (hr : (is.map fun i => l.getD i idleOp).all readOp = true) (hC : C w.drew)
    (h : wpQuiet P l.toArray C (fun a' => anyC P .any l.toArray C (onlyOn Q) (l.length - 1) (l.length - is.length) (is.foldl (fun x j => x.setIfInBounds j true) (Array.replicate l.toArray.size false)) a' w.drew) (is.map fun i => l.getD i idleOp) a) : (Code.region id l.toArray true).wp P Q a w := by
  simp only [readsLB, Bool.and_eq_true, decide_eq_true_eq] at hB
  obtain ⟨hsel, hml, hto⟩ := hB
  have hO : ¬ LetsOut (onlyOn Q) := by rintro ⟨_, _, h, _⟩; cases h
  refine Code.wp_mono (Q := onlyOn Q) (fun e a' w' h => by obtain ⟨rfl, h⟩ := h; exact h) ?_
  refine wp_region_any hm (any_of_anyC (C := C) (t := l.length - 1) _ _ _ _ ?_)
  have H := anyC_readsL (P := P) (md := .any) (Q := onlyOn Q) (t := l.length - 1) hsel (fun c a w h => by cases h.1) hO hC (fun a' ha' => ha') is _ _ a hl hr hto h
  have e : l.length - is.length + is.length = l.toArray.size := by simp; omega
  rw [e] at H
  exact H

end Go.Proofs.YtmcnamlgbkbiaaaDoor
