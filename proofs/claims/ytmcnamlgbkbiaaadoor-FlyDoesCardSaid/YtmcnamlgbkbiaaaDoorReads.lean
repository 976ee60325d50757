/-
  A region that draws its order: first reads that come to the same in every world of a class, whenever they come up; then calls and a store, in one forced order, of which all but the last stay in the class. One walk in the text's order serves every order.
  Inside a round of a range over a function. No program is named here.
-/
import Derived.Test.YtmcnamlgbkbiaaaDoorQuietTail
namespace Go.Proofs.YtmcnamlgbkbiaaaDoor
open Go

/-- Operations that only read. -/
def readOp (o : Oper) : Bool := o.guard.isNone && match o.op with
  | .move _ => true
  | .load _ _ => true
  | .convert _ _ _ => true
  | .fieldAddr _ _ _ => true
  | .indexAddr _ _ _ => true
  | .build _ _ => true
  | .binOp _ _ _ _ _ => true
  | .slice _ _ _ _ _ => true
  | .call c => (match c.callee with
    | .builtin .len => true
    | _ => false)
  | _ => false

theorem value_of_quiet {P : Program} {C : World → Prop} {w : World} {v : Value} (s : Sem Value) (h : Oper.quietUpon P C w v ((do let x ← s; pure (Next.value x) : Sem Next).run P w)) : (do let x ← s; pure (Next.value x) : Sem Next).run P w = .ok (.value v) w := by
  rw [Sem.run_bind] at h ⊢
  generalize s.run P w = r at h ⊢
  cases r with
  | ok x w' =>
    simp only [Result.andThen_ok, Sem.run_pure] at h ⊢
    obtain ⟨rfl, rfl⟩ := h
    rfl
  | halt x w' => exact h.elim
theorem len_next {P : Program} (ρ : Operand → Value) (c : Call) (t : TypeId) (w : World) (hc : c.callee = .builtin .len) : ∃ s : Sem Value, (do let d ← resolve ρ c t; invoke d.target d.args : Sem Next).run P w = (do let x ← s; pure (Next.value x) : Sem Next).run P w := by
  unfold resolve
  rw [hc]
  exact ⟨_, rfl⟩
theorem read_value {P : Program} {o : Oper} {a : Act} {C : World → Prop} {w : World} {v : Value} (hr : readOp o = true) (hq : o.quietAt P a C w v) : (execOp a.eval o).run P w = .ok (.value v) w := by
  simp only [readOp, Bool.and_eq_true] at hr
  obtain ⟨-, hr⟩ := hr
  unfold Oper.quietAt at hq
  cases ho : o.op <;> rw [ho] at hr <;> first | (cases hr; done) | skip
  case call c =>
    have hc : c.callee = .builtin .len := by
      dsimp only at hr
      split at hr
      · assumption
      · cases hr
    unfold execOp at hq ⊢
    rw [ho] at hq ⊢
    dsimp only at hq ⊢
    obtain ⟨s, hs⟩ := len_next (P := P) a.eval c o.type w hc
    rw [hs] at hq ⊢
    exact value_of_quiet _ hq
  all_goals
    unfold execOp at hq ⊢
    rw [ho] at hq ⊢
    dsimp only at hq ⊢
  · rw [Sem.run_pure] at hq ⊢
    obtain ⟨-, rfl⟩ := hq
    rfl
  all_goals exact value_of_quiet _ hq

section
variable {P : Program} {md : Region.Mode} {ops : Array Oper} {C : World → Prop} {Q : Exit → Act → World → Prop} {t : Nat}

/-- Whatever comes up, till nothing is left; behind each but t the world is of the class. -/
def anyC (P : Program) (md : Region.Mode) (ops : Array Oper) (C : World → Prop) (Q : Exit → Act → World → Prop) (t : Nat) : Nat → Array Bool → Act → World → Prop
  | 0, listed, a, w => Region.ready md ops listed = [] ∧ Q .normal a w
  | f + 1, listed, a, w => Region.ready md ops listed ≠ [] ∧ ∀ i ∈ Region.ready md ops listed, wpOp P ops Q i (fun a' w' => (i ≠ t → C w') ∧ anyC P md ops C Q t f (listed.setIfInBounds i true) a' w') a w

theorem any_of_anyC : ∀ (f : Nat) (listed : Array Bool) (a : Act) (w : World), anyC P md ops C Q t f listed a w → wpAny P md ops Q f listed a w
  | 0, _, _, _, h => h
  | f + 1, _, _, _, h => ⟨fun h0 => absurd h0 h.1, fun i hi => wpOp_mono (fun a' w' h' => any_of_anyC f _ a' w' h'.2) (h.2 i hi)⟩

/-- It reads v in every world of the class. -/
def ReadIn (P : Program) (ops : Array Oper) (C : World → Prop) (o : Oper) (v : Value) (a : Act) : Prop := Region.wanted o (yielded ops a.tmps) = true ∧ ∀ w, C w → (execOp a.eval o).run P w = .ok (.value v) w
theorem ReadIn.wpOp {i : Nat} {oi : Oper} {v : Value} {a : Act} {w : World} {K : Act → World → Prop} (hi : ops[i]? = some oi) (hy : ReadIn P ops C oi v a) (hC : C w) (h : K (a.put oi.dst v) w) : wpOp P ops Q i K a w := by
  unfold Go.wpOp
  simp only [hi, hy.1, if_true]
  refine .inl ?_
  unfold Oper.wp
  rw [hy.2 w hC]
  exact h
theorem ReadIn.put {oi : Oper} {v : Value} {a : Act} (hsel : ∀ cs b, oi.op ≠ .select cs b) {d : Option Tmp} (h3 : ∀ e, d = some e → e ∉ oi.looksAt ops) (hy : ReadIn P ops C oi v a) (u : Value) : ReadIn P ops C oi v (a.put d u) :=
  ⟨by rw [wanted_put oi a d u h3]; exact hy.1, fun w hC => by rw [execOp_put oi hsel a d u h3]; exact hy.2 w hC⟩

/-- What is read may be read behind another operation as well. -/
theorem read_later {j : Nat} {oi oj : Oper} {v : Value} (hj : ops[j]? = some oj) (hap : oi.apart ops oj = true) (hsi : ∀ cs b, oi.op ≠ .select cs b) (hsj : ∀ cs b, oj.op ≠ .select cs b)
    (hP : ∀ c a w, ¬ Q (.panic c) a w) (hL : ¬ LetsOut Q) {K : Act → World → Prop} {a : Act} {w : World} (hy : ReadIn P ops C oi v a) (h : wpOp P ops Q j K (a.put oi.dst v) w) :
    wpOp P ops Q j (fun a' w' => ReadIn P ops C oi v a' ∧ K (a'.put oi.dst v) w') a w := by
  obtain ⟨h1, h2, h3⟩ := Oper.apart_spec hap
  have go : ∀ u w', K ((a.put oi.dst v).put oj.dst u) w' → ReadIn P ops C oi v (a.put oj.dst u) ∧ K ((a.put oj.dst u).put oi.dst v) w' := fun u w' hk => ⟨hy.put hsi h3 u, by rw [← Act.put_comm a v u h2]; exact hk⟩
  unfold wpOp at h ⊢
  simp only [hj] at h ⊢
  rw [wanted_put oj a oi.dst v h1] at h
  by_cases hw : Region.wanted oj (yielded ops a.tmps) = true
  · rw [if_pos hw] at h ⊢
    have h' := h.resolve_right (fun x => hL x.2)
    refine .inl ?_
    unfold Oper.wp at h' ⊢
    rw [execOp_put oj hsj a oi.dst v h1] at h'
    revert h'
    generalize (execOp a.eval oj).run P w = r
    intro h'
    match r, h' with
    | .ok (.value u) w', h' => exact go u w' h'
    | .ok .skip w', h' => exact go undef w' h'
    | .ok (.defer d) w', h' =>
      refine ⟨ReadIn.put hsi h3 (show ReadIn P ops C oi v { a with defers := d :: a.defers } from ⟨hy.1, hy.2⟩) undef, ?_⟩
      rw [← Act.put_comm _ v undef h2, ← Act.put_defers]
      exact h'
    | .ok (.enter f args) w', h' =>
      refine Calls.mono h' fun e w'' he => ?_
      cases e with
      | returned u => exact go u w'' he
      | panicked c => exact absurd he (hP _ _ _)
      | outgrown => exact he
    | .ok (.row nm args) w', h' => exact Rows.mono h' fun u w'' he => go u w'' he
    | .halt (.panic u) w', h' => exact absurd h' (hP _ _ _)
  · rw [if_neg hw] at h ⊢
    exact go undef w h

theorem anyC_first {i : Nat} {oi : Oper} {v : Value} (hi : ops[i]? = some oi) (hsel : ∀ (j : Nat) (o : Oper) cs b, ops[j]? = some o → o.op ≠ .select cs b) (hwt : Region.waitsFor md ops t i = true)
    (hP : ∀ c a w, ¬ Q (.panic c) a w) (hL : ¬ LetsOut Q) :
    ∀ (f : Nat) (listed : Array Bool) (a : Act) (w : World),
      (∀ j oj, ops[j]? = some oj → j ≠ i → listed.getD j true = false → (∀ e ∈ oj.after, Region.binds md e = true → e.on ≠ i) → oi.apart ops oj = true) →
      i ∈ Region.ready md ops listed → ReadIn P ops C oi v a → C w → anyC P md ops C Q t f (listed.setIfInBounds i true) (a.put oi.dst v) w → anyC P md ops C Q t (f + 1) listed a w := by
  intro f
  induction f with
  | zero =>
    intro listed a w _ hr hy hC H
    refine ⟨fun h => (by rw [h] at hr; cases hr), fun j hj => ?_⟩
    by_cases hji : j = i
    · subst hji; exact hy.wpOp hi hC ⟨fun _ => hC, H⟩
    · have := ready_mono hj hji
      rw [H.1] at this
      cases this
  | succ f ih =>
    intro listed a w hfree hr hy hC H
    have hun := (mem_ready.1 hr).1
    refine ⟨fun h => (by rw [h] at hr; cases hr), fun j hj => ?_⟩
    by_cases hji : j = i
    · subst hji; exact hy.wpOp hi hC ⟨fun _ => hC, H⟩
    · obtain ⟨hjun, oj, hoj, hall⟩ := mem_ready.1 hj
      have hnot : ∀ e ∈ oj.after, Region.binds md e = true → e.on ≠ i := fun e he hb heq => by
        have h1 := hall e he hb
        rw [heq, getD_both hun] at h1
        cases h1
      have hjt : j ≠ t := fun e => by
        obtain ⟨ot, hot, e', he', hb', hon⟩ := Region.waitsFor_spec hwt
        rw [← e, hoj] at hot
        cases hot
        exact hnot e' he' hb' hon
      refine wpOp_mono (fun a' w' h3 => ⟨fun _ => h3.2.1 hjt, ?_⟩) (read_later hoj (hfree j oj hoj hji hjun hnot) (fun cs b => hsel i oi cs b hi) (fun cs b => hsel j oj cs b hoj) hP hL hy (H.2 j (ready_mono hj hji)))
      refine ih (listed.setIfInBounds j true) a' w' (fun k ok hk hki hunk hno => hfree k ok hk hki ?_ hno) (ready_mono hr (Ne.symm hji)) h3.1 (h3.2.1 hjt) ?_
      · by_cases hjk : j = k
        · subst hjk; exact hjun
        · rw [getD_set_ne true hjk] at hunk; exact hunk
      · rw [Array.setIfInBounds_comm _ _ hji]; exact h3.2.2

/-- Taken one by one in the text's order, each a read, free, and waited for by t. -/
def readsTo (md : Region.Mode) (ops : Array Oper) (t : Nat) (target : Array Bool) : Nat → Nat → Array Bool → Bool
  | 0, _, listed => listed == target
  | f + 1, k, listed => (Region.ready md ops listed).contains k && (Region.free md ops listed k && (Region.waitsFor md ops t k && readsTo md ops t target f (k + 1) (listed.setIfInBounds k true)))

theorem wanted_none {o : Oper} {y : Nat → Option Bool} (h : o.guard = none) : Region.wanted o y = true := by unfold Region.wanted; rw [h]

theorem anyC_reads {target : Array Bool} {L : Act → Prop} {g : Nat} {w : World} (hsel : Region.noSelect ops = true) (hP : ∀ c a w, ¬ Q (.panic c) a w) (hO : ¬ LetsOut Q) (hC : C w) (hL : ∀ a', L a' → anyC P md ops C Q t g target a' w) :
    ∀ (l : List Oper) (k : Nat) (listed : Array Bool) (a : Act), (∀ j, j < l.length → l[j]? = ops[k + j]?) → l.all readOp = true → readsTo md ops t target l.length k listed = true → wpQuiet P ops C L l a → anyC P md ops C Q t (g + l.length) listed a w
  | [], k, listed, a, _, _, hB, h => by
    have : listed = target := by simpa [readsTo] using hB
    subst this
    exact hL a h
  | o :: l, k, listed, a, hl, hr, hB, h => by
    have h0 : ops[k]? = some o := by simpa using (hl 0 (by simp)).symm
    simp only [List.length_cons, readsTo, Bool.and_eq_true] at hB
    obtain ⟨hr1, hf, hwt, hB'⟩ := hB
    simp only [List.all_cons, Bool.and_eq_true] at hr
    have hg : o.guard = none := by
      have := hr.1
      simp only [readOp, Bool.and_eq_true, Option.isNone_iff_eq_none] at this
      exact this.1
    simp only [wpQuiet, wanted_none hg, if_true] at h
    obtain ⟨v, hv, hK⟩ := h
    exact anyC_first h0 (Region.noSelect_spec hsel) hwt hP hO (g + l.length) listed a w (Region.free_spec h0 hf) (by simpa using hr1) ⟨wanted_none hg, fun w' hw' => read_value hr.1 (hv w' hw')⟩ hC
      (anyC_reads hsel hP hO hC hL l (k + 1) _ _ (fun j hj => by have := hl (j + 1) (by simp; omega); simpa [Nat.add_assoc, Nat.add_comm 1 j] using this) hr.2 hB' hK)

/-- The others, in order. -/
def tailC (P : Program) (ops : Array Oper) (C : World → Prop) (Q : Exit → Act → World → Prop) (t : Nat) : List Nat → Act → World → Prop
  | [], a, w => Q .normal a w
  | i :: is, a, w => wpOp P ops Q i (fun a' w' => (i ≠ t → C w') ∧ tailC P ops C Q t is a' w') a w
def oneAtATime (md : Region.Mode) (ops : Array Oper) : List Nat → Array Bool → Bool
  | [], listed => (Region.ready md ops listed).isEmpty
  | i :: is, listed => (Region.ready md ops listed == [i]) && oneAtATime md ops is (listed.setIfInBounds i true)
theorem anyC_tail : ∀ (is : List Nat) (listed : Array Bool) (a : Act) (w : World), oneAtATime md ops is listed = true → tailC P ops C Q t is a w → anyC P md ops C Q t is.length listed a w
  | [], listed, a, w, hB, h => ⟨by simpa [oneAtATime] using hB, h⟩
  | i :: is, listed, a, w, hB, h => by
    simp only [oneAtATime, Bool.and_eq_true, beq_iff_eq] at hB
    refine ⟨fun h0 => (by rw [hB.1] at h0; cases h0), fun j hj => ?_⟩
    rw [hB.1] at hj
    obtain rfl := List.mem_singleton.1 hj
    exact wpOp_mono (fun a' w' h' => ⟨h'.1, anyC_tail is _ a' w' hB.2 h'.2⟩) h
theorem tail_call {i : Nat} {is : List Nat} {o : Oper} {a : Act} {w : World} {f : FuncId} {args : Array Value} (hi : ops[i]? = some o) (hg : o.guard = none) (hx : (execOp a.eval o).run P w = .ok (.enter f args) w)
    (hc : Calls P f args w fun e w' => ∃ v, e = .returned v ∧ (i ≠ t → C w') ∧ tailC P ops C Q t is (a.put o.dst v) w') : tailC P ops C Q t (i :: is) a w := by
  unfold tailC wpOp
  simp only [hi, wanted_none hg, if_true]
  refine .inl ?_
  unfold Oper.wp
  rw [hx]
  refine Calls.mono hc fun e w' he => ?_
  obtain ⟨v, rfl, h⟩ := he
  exact h
theorem tail_last {o : Oper} {a : Act} {w : World} (hi : ops[t]? = some o) (hg : o.guard = none) (h : o.wp P a w (fun a' w' => Q .normal a' w') Q) : tailC P ops C Q t [t] a w := by
  unfold tailC wpOp
  simp only [hi, wanted_none hg, if_true]
  refine .inl (Oper.wp_mono (fun a' w' h' => ⟨fun h => absurd rfl h, h'⟩) h)
end

/-- All that such a region must keep to: m reads ahead; then one at a time. -/
def readsB (l : List Oper) (m : Nat) : Bool :=
  Region.noSelect l.toArray && (decide (m ≤ l.length) && ((l.take m).all readOp && (readsTo .any l.toArray (l.length - 1) ((List.range m).foldl (fun x j => x.setIfInBounds j true) (Array.replicate l.toArray.size false)) m 0 (Array.replicate l.toArray.size false) &&
    oneAtATime .any l.toArray ((List.range (l.length - m)).map (m + ·)) ((List.range m).foldl (fun x j => x.setIfInBounds j true) (Array.replicate l.toArray.size false)))))

/-- What goes on alone. -/
def onlyOn (Q : Exit → Act → World → Prop) (e : Exit) (a : Act) (w : World) : Prop := e = .normal ∧ Q .normal a w

theorem regionIn_reads {P : Program} {C : World → Prop} {id n r : Nat} {Q : Exit → Act → World → Prop} {a : Act} {w : World} {l : List Oper} (m : Nat) (hm : P.follows .mixedOrders = true) (hB : readsB l m = true) (hd : noDefer l = true) (hC : C w.drew)
    (h : wpQuiet P l.toArray C (fun a' => tailC P l.toArray C (onlyOn Q) (l.length - 1) ((List.range (l.length - m)).map (m + ·)) a' w.drew) (l.take m) a) : (Code.region id l.toArray true).wpIn (Fence.wide.inRound r) n P Q a w := by
  simp only [readsB, Bool.and_eq_true, decide_eq_true_eq] at hB
  obtain ⟨hsel, hml, hr, hto, hone⟩ := hB
  have hO : ¬ LetsOut (onlyOn Q) := by rintro ⟨_, _, h, _⟩; cases h
  refine Code.wpIn_mono (Q := onlyOn Q) (fun e a' w' h => by obtain ⟨rfl, h⟩ := h; exact h) ?_
  refine wpIn_region_any hm (anyIn_of_any (noDefer_spec hd) hO _ _ _ _ (any_of_anyC (C := C) (t := l.length - 1) _ _ _ _ ?_))
  have htl : (l.take m).length = m := by simp; omega
  have H := anyC_reads (P := P) (md := .any) (Q := onlyOn Q) (t := l.length - 1) hsel (fun c a w h => by cases h.1) hO hC (fun a' ha' => anyC_tail _ _ a' _ hone ha') (l.take m) 0 _ a (fun j hj => by
    have hj' : j < m := by rw [htl] at hj; exact hj
    simp [hj']) hr (by rw [htl]; exact hto) h
  rw [htl] at H
  have e : ((List.range (l.length - m)).map (m + ·)).length + m = l.toArray.size := by simp; omega
  rw [e] at H
  exact H

end Go.Proofs.YtmcnamlgbkbiaaaDoor
