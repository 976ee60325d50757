/-
  Several texts in one: Reads, ReadsL, ReadsAll, AnyMore, Gate, CallHead, But.
-/
import Derived.Test.YtlbfllaaabginaaDoorRows2

/-!   A region that draws its order: first reads that come to the same in every world of a class, whenever they come up; then calls and a store, in one forced order, of which all but the last stay in the class. One walk in the text's order serves every order.
  Inside a round of a range over a function. No program is named here.
-/

namespace Go.Proofs.YtlbfllaaabginaaDoor
open Go

/-- Operations that only read. -/
def readOp (o : Oper) : Bool := o.guard.isNone && match o.op with
  | .move _ => true
  | .load _ _ => true
  | .convert _ _ _ => true
  | .fieldAddr _ _ _ => true
  | .indexAddr _ _ _ => true
  | .build _ _ => true
  | .binOp _ _ _ _ _ => true
  | .slice _ _ _ _ _ => true
  | .call c => (match c.callee with
    | .builtin .len => true
    | _ => false)
  | _ => false

theorem value_of_quiet {P : Program} {C : World → Prop} {w : World} {v : Value} (s : Sem Value) (h : Oper.quietUpon P C w v ((do let x ← s; pure (Next.value x) : Sem Next).run P w)) : (do let x ← s; pure (Next.value x) : Sem Next).run P w = .ok (.value v) w := by
  rw [Sem.run_bind] at h ⊢
  generalize s.run P w = r at h ⊢
  cases r with
  | ok x w' =>
    simp only [Result.andThen_ok, Sem.run_pure] at h ⊢
    obtain ⟨rfl, rfl⟩ := h
    rfl
  | halt x w' => exact h.elim
theorem len_next {P : Program} (ρ : Operand → Value) (c : Call) (t : TypeId) (w : World) (hc : c.callee = .builtin .len) : ∃ s : Sem Value, (do let d ← resolve ρ c t; invoke d.target d.args : Sem Next).run P w = (do let x ← s; pure (Next.value x) : Sem Next).run P w := by
  unfold resolve
  rw [hc]
  exact ⟨_, rfl⟩
theorem read_value {P : Program} {o : Oper} {a : Act} {C : World → Prop} {w : World} {v : Value} (hr : readOp o = true) (hq : o.quietAt P a C w v) : (execOp a.eval o).run P w = .ok (.value v) w := by
  simp only [readOp, Bool.and_eq_true] at hr
  obtain ⟨-, hr⟩ := hr
  unfold Oper.quietAt at hq
  cases ho : o.op <;> rw [ho] at hr <;> first | (cases hr; done) | skip
  case call c =>
    have hc : c.callee = .builtin .len := by
      dsimp only at hr
      split at hr
      · assumption
      · cases hr
    unfold execOp at hq ⊢
    rw [ho] at hq ⊢
    dsimp only at hq ⊢
    obtain ⟨s, hs⟩ := len_next (P := P) a.eval c o.type w hc
    rw [hs] at hq ⊢
    exact value_of_quiet _ hq
  all_goals
    unfold execOp at hq ⊢
    rw [ho] at hq ⊢
    dsimp only at hq ⊢
  · rw [Sem.run_pure] at hq ⊢
    obtain ⟨-, rfl⟩ := hq
    rfl
  all_goals exact value_of_quiet _ hq

section
variable {P : Program} {md : Region.Mode} {ops : Array Oper} {C : World → Prop} {Q : Exit → Act → World → Prop} {t : Nat}

/-- Whatever comes up, till nothing is left; behind each but t the world is of the class. -/
def anyC (P : Program) (md : Region.Mode) (ops : Array Oper) (C : World → Prop) (Q : Exit → Act → World → Prop) (t : Nat) : Nat → Array Bool → Act → World → Prop
  | 0, listed, a, w => Region.ready md ops listed = [] ∧ Q .normal a w
  | f + 1, listed, a, w => Region.ready md ops listed ≠ [] ∧ ∀ i ∈ Region.ready md ops listed, wpOp P ops Q i (fun a' w' => (i ≠ t → C w') ∧ anyC P md ops C Q t f (listed.setIfInBounds i true) a' w') a w

theorem any_of_anyC : ∀ (f : Nat) (listed : Array Bool) (a : Act) (w : World), anyC P md ops C Q t f listed a w → wpAny P md ops Q f listed a w
  | 0, _, _, _, h => h
  | f + 1, _, _, _, h => ⟨fun h0 => absurd h0 h.1, fun i hi => wpOp_mono (fun a' w' h' => any_of_anyC f _ a' w' h'.2) (h.2 i hi)⟩

/-- It reads v in every world of the class. -/
def ReadIn (P : Program) (ops : Array Oper) (C : World → Prop) (o : Oper) (v : Value) (a : Act) : Prop := Region.wanted o (yielded ops a.tmps) = true ∧ ∀ w, C w → (execOp a.eval o).run P w = .ok (.value v) w
theorem ReadIn.wpOp {i : Nat} {oi : Oper} {v : Value} {a : Act} {w : World} {K : Act → World → Prop} (hi : ops[i]? = some oi) (hy : ReadIn P ops C oi v a) (hC : C w) (h : K (a.put oi.dst v) w) : wpOp P ops Q i K a w := by
  unfold Go.wpOp
  simp only [hi, hy.1, if_true]
  refine .inl ?_
  unfold Oper.wp
  rw [hy.2 w hC]
  exact h
theorem ReadIn.put {oi : Oper} {v : Value} {a : Act} (hsel : ∀ cs b, oi.op ≠ .select cs b) {d : Option Tmp} (h3 : ∀ e, d = some e → e ∉ oi.looksAt ops) (hy : ReadIn P ops C oi v a) (u : Value) : ReadIn P ops C oi v (a.put d u) :=
  ⟨by rw [wanted_put oi a d u h3]; exact hy.1, fun w hC => by rw [execOp_put oi hsel a d u h3]; exact hy.2 w hC⟩

/-- What is read may be read behind another operation as well. -/
theorem read_later {j : Nat} {oi oj : Oper} {v : Value} (hj : ops[j]? = some oj) (hap : oi.apart ops oj = true) (hsi : ∀ cs b, oi.op ≠ .select cs b) (hsj : ∀ cs b, oj.op ≠ .select cs b)
    (hP : ∀ c a w, ¬ Q (.panic c) a w) (hL : ¬ LetsOut Q) {K : Act → World → Prop} {a : Act} {w : World} (hy : ReadIn P ops C oi v a) (h : wpOp P ops Q j K (a.put oi.dst v) w) :
    wpOp P ops Q j (fun a' w' => ReadIn P ops C oi v a' ∧ K (a'.put oi.dst v) w') a w := by
  obtain ⟨h1, h2, h3⟩ := Oper.apart_spec hap
  have go : ∀ u w', K ((a.put oi.dst v).put oj.dst u) w' → ReadIn P ops C oi v (a.put oj.dst u) ∧ K ((a.put oj.dst u).put oi.dst v) w' := fun u w' hk => ⟨hy.put hsi h3 u, by rw [← Act.put_comm a v u h2]; exact hk⟩
  unfold wpOp at h ⊢
  simp only [hj] at h ⊢
  rw [wanted_put oj a oi.dst v h1] at h
  by_cases hw : Region.wanted oj (yielded ops a.tmps) = true
  · rw [if_pos hw] at h ⊢
    have h' := h.resolve_right (fun x => hL x.2)
    refine .inl ?_
    unfold Oper.wp at h' ⊢
    rw [execOp_put oj hsj a oi.dst v h1] at h'
    revert h'
    generalize (execOp a.eval oj).run P w = r
    intro h'
    match r, h' with
    | .ok (.value u) w', h' => exact go u w' h'
    | .ok .skip w', h' => exact go undef w' h'
    | .ok (.defer d) w', h' =>
      refine ⟨ReadIn.put hsi h3 (show ReadIn P ops C oi v { a with defers := d :: a.defers } from ⟨hy.1, hy.2⟩) undef, ?_⟩
      rw [← Act.put_comm _ v undef h2, ← Act.put_defers]
      exact h'
    | .ok (.enter f args) w', h' =>
      refine Calls.mono h' fun e w'' he => ?_
      cases e with
      | returned u => exact go u w'' he
      | panicked c => exact absurd he (hP _ _ _)
      | outgrown => exact he
    | .ok (.row nm args) w', h' => exact Rows.mono h' fun u w'' he => go u w'' he
    | .halt (.panic u) w', h' => exact absurd h' (hP _ _ _)
  · rw [if_neg hw] at h ⊢
    exact go undef w h

theorem anyC_first {i : Nat} {oi : Oper} {v : Value} (hi : ops[i]? = some oi) (hsel : ∀ (j : Nat) (o : Oper) cs b, ops[j]? = some o → o.op ≠ .select cs b) (hwt : Region.waitsFor md ops t i = true)
    (hP : ∀ c a w, ¬ Q (.panic c) a w) (hL : ¬ LetsOut Q) :
    ∀ (f : Nat) (listed : Array Bool) (a : Act) (w : World),
      (∀ j oj, ops[j]? = some oj → j ≠ i → listed.getD j true = false → (∀ e ∈ oj.after, Region.binds md e = true → e.on ≠ i) → oi.apart ops oj = true) →
      i ∈ Region.ready md ops listed → ReadIn P ops C oi v a → C w → anyC P md ops C Q t f (listed.setIfInBounds i true) (a.put oi.dst v) w → anyC P md ops C Q t (f + 1) listed a w := by
  intro f
  induction f with
  | zero =>
    intro listed a w _ hr hy hC H
    refine ⟨fun h => (by rw [h] at hr; cases hr), fun j hj => ?_⟩
    by_cases hji : j = i
    · subst hji; exact hy.wpOp hi hC ⟨fun _ => hC, H⟩
    · have := ready_mono hj hji
      rw [H.1] at this
      cases this
  | succ f ih =>
    intro listed a w hfree hr hy hC H
    have hun := (mem_ready.1 hr).1
    refine ⟨fun h => (by rw [h] at hr; cases hr), fun j hj => ?_⟩
    by_cases hji : j = i
    · subst hji; exact hy.wpOp hi hC ⟨fun _ => hC, H⟩
    · obtain ⟨hjun, oj, hoj, hall⟩ := mem_ready.1 hj
      have hnot : ∀ e ∈ oj.after, Region.binds md e = true → e.on ≠ i := fun e he hb heq => by
        have h1 := hall e he hb
        rw [heq, getD_both hun] at h1
        cases h1
      have hjt : j ≠ t := fun e => by
        obtain ⟨ot, hot, e', he', hb', hon⟩ := Region.waitsFor_spec hwt
        rw [← e, hoj] at hot
        cases hot
        exact hnot e' he' hb' hon
      refine wpOp_mono (fun a' w' h3 => ⟨fun _ => h3.2.1 hjt, ?_⟩) (read_later hoj (hfree j oj hoj hji hjun hnot) (fun cs b => hsel i oi cs b hi) (fun cs b => hsel j oj cs b hoj) hP hL hy (H.2 j (ready_mono hj hji)))
      refine ih (listed.setIfInBounds j true) a' w' (fun k ok hk hki hunk hno => hfree k ok hk hki ?_ hno) (ready_mono hr (Ne.symm hji)) h3.1 (h3.2.1 hjt) ?_
      · by_cases hjk : j = k
        · subst hjk; exact hjun
        · rw [getD_set_ne true hjk] at hunk; exact hunk
      · rw [Array.setIfInBounds_comm _ _ hji]; exact h3.2.2

/-- Taken one by one in the text's order, each a read, free, and waited for by t. -/
def readsTo (md : Region.Mode) (ops : Array Oper) (t : Nat) (target : Array Bool) : Nat → Nat → Array Bool → Bool
  | 0, _, listed => listed == target
  | f + 1, k, listed => (Region.ready md ops listed).contains k && (Region.free md ops listed k && (Region.waitsFor md ops t k && readsTo md ops t target f (k + 1) (listed.setIfInBounds k true)))

theorem wanted_none {o : Oper} {y : Nat → Option Bool} (h : o.guard = none) : Region.wanted o y = true := by unfold Region.wanted; rw [h]

theorem anyC_reads {target : Array Bool} {L : Act → Prop} {g : Nat} {w : World} (hsel : Region.noSelect ops = true) (hP : ∀ c a w, ¬ Q (.panic c) a w) (hO : ¬ LetsOut Q) (hC : C w) (hL : ∀ a', L a' → anyC P md ops C Q t g target a' w) :
    ∀ (l : List Oper) (k : Nat) (listed : Array Bool) (a : Act), (∀ j, j < l.length → l[j]? = ops[k + j]?) → l.all readOp = true → readsTo md ops t target l.length k listed = true → wpQuiet P ops C L l a → anyC P md ops C Q t (g + l.length) listed a w
  | [], k, listed, a, _, _, hB, h => by
    have : listed = target := by simpa [readsTo] using hB
    subst this
    exact hL a h
  | o :: l, k, listed, a, hl, hr, hB, h => by
    have h0 : ops[k]? = some o := by simpa using (hl 0 (by simp)).symm
    simp only [List.length_cons, readsTo, Bool.and_eq_true] at hB
    obtain ⟨hr1, hf, hwt, hB'⟩ := hB
    simp only [List.all_cons, Bool.and_eq_true] at hr
    have hg : o.guard = none := by
      have := hr.1
      simp only [readOp, Bool.and_eq_true, Option.isNone_iff_eq_none] at this
      exact this.1
    simp only [wpQuiet, wanted_none hg, if_true] at h
    obtain ⟨v, hv, hK⟩ := h
    exact anyC_first h0 (Region.noSelect_spec hsel) hwt hP hO (g + l.length) listed a w (Region.free_spec h0 hf) (by simpa using hr1) ⟨wanted_none hg, fun w' hw' => read_value hr.1 (hv w' hw')⟩ hC
      (anyC_reads hsel hP hO hC hL l (k + 1) _ _ (fun j hj => by have := hl (j + 1) (by simp; omega); simpa [Nat.add_assoc, Nat.add_comm 1 j] using this) hr.2 hB' hK)

/-- The others, in order. -/
def tailC (P : Program) (ops : Array Oper) (C : World → Prop) (Q : Exit → Act → World → Prop) (t : Nat) : List Nat → Act → World → Prop
  | [], a, w => Q .normal a w
  | i :: is, a, w => wpOp P ops Q i (fun a' w' => (i ≠ t → C w') ∧ tailC P ops C Q t is a' w') a w
def oneAtATime (md : Region.Mode) (ops : Array Oper) : List Nat → Array Bool → Bool
  | [], listed => (Region.ready md ops listed).isEmpty
  | i :: is, listed => (Region.ready md ops listed == [i]) && oneAtATime md ops is (listed.setIfInBounds i true)
theorem anyC_tail : ∀ (is : List Nat) (listed : Array Bool) (a : Act) (w : World), oneAtATime md ops is listed = true → tailC P ops C Q t is a w → anyC P md ops C Q t is.length listed a w
  | [], listed, a, w, hB, h => ⟨by simpa [oneAtATime] using hB, h⟩
  | i :: is, listed, a, w, hB, h => by
    simp only [oneAtATime, Bool.and_eq_true, beq_iff_eq] at hB
    refine ⟨fun h0 => (by rw [hB.1] at h0; cases h0), fun j hj => ?_⟩
    rw [hB.1] at hj
    obtain rfl := List.mem_singleton.1 hj
    exact wpOp_mono (fun a' w' h' => ⟨h'.1, anyC_tail is _ a' w' hB.2 h'.2⟩) h
theorem tail_call {i : Nat} {is : List Nat} {o : Oper} {a : Act} {w : World} {f : FuncId} {args : Array Value} (hi : ops[i]? = some o) (hg : o.guard = none) (hx : (execOp a.eval o).run P w = .ok (.enter f args) w)
    (hc : Calls P f args w fun e w' => ∃ v, e = .returned v ∧ (i ≠ t → C w') ∧ tailC P ops C Q t is (a.put o.dst v) w') : tailC P ops C Q t (i :: is) a w := by
  unfold tailC wpOp
  simp only [hi, wanted_none hg, if_true]
  refine .inl ?_
  unfold Oper.wp
  rw [hx]
  refine Calls.mono hc fun e w' he => ?_
  obtain ⟨v, rfl, h⟩ := he
  exact h
theorem tail_last {o : Oper} {a : Act} {w : World} (hi : ops[t]? = some o) (hg : o.guard = none) (h : o.wp P a w (fun a' w' => Q .normal a' w') Q) : tailC P ops C Q t [t] a w := by
  unfold tailC wpOp
  simp only [hi, wanted_none hg, if_true]
  refine .inl (Oper.wp_mono (fun a' w' h' => ⟨fun h => absurd rfl h, h'⟩) h)
end

/-- All that such a region must keep to: m reads ahead; then one at a time. -/
def readsB (l : List Oper) (m : Nat) : Bool :=
  Region.noSelect l.toArray && (decide (m ≤ l.length) && ((l.take m).all readOp && (readsTo .any l.toArray (l.length - 1) ((List.range m).foldl (fun x j => x.setIfInBounds j true) (Array.replicate l.toArray.size false)) m 0 (Array.replicate l.toArray.size false) &&
    oneAtATime .any l.toArray ((List.range (l.length - m)).map (m + ·)) ((List.range m).foldl (fun x j => x.setIfInBounds j true) (Array.replicate l.toArray.size false)))))

/-- What goes on alone. -/
def onlyOn (Q : Exit → Act → World → Prop) (e : Exit) (a : Act) (w : World) : Prop := e = .normal ∧ Q .normal a w

theorem regionIn_reads {P : Program} {C : World → Prop} {id n r : Nat} {Q : Exit → Act → World → Prop} {a : Act} {w : World} {l : List Oper} (m : Nat) (hm : P.follows .mixedOrders = true) (hB : readsB l m = true) (hd : noDefer l = true) (hC : C w.drew)
    (h : wpQuiet P l.toArray C (fun a' => tailC P l.toArray C (onlyOn Q) (l.length - 1) ((List.range (l.length - m)).map (m + ·)) a' w.drew) (l.take m) a) : (Code.region id l.toArray true).wpIn (Fence.wide.inRound r) n P Q a w := by
  simp only [readsB, Bool.and_eq_true, decide_eq_true_eq] at hB
  obtain ⟨hsel, hml, hr, hto, hone⟩ := hB
  have hO : ¬ LetsOut (onlyOn Q) := by rintro ⟨_, _, h, _⟩; cases h
  refine Code.wpIn_mono (Q := onlyOn Q) (fun e a' w' h => by obtain ⟨rfl, h⟩ := h; exact h) ?_
  refine wpIn_region_any hm (anyIn_of_any (noDefer_spec hd) hO _ _ _ _ (any_of_anyC (C := C) (t := l.length - 1) _ _ _ _ ?_))
  have htl : (l.take m).length = m := by simp; omega
  have H := anyC_reads (P := P) (md := .any) (Q := onlyOn Q) (t := l.length - 1) hsel (fun c a w h => by cases h.1) hO hC (fun a' ha' => anyC_tail _ _ a' _ hone ha') (l.take m) 0 _ a (fun j hj => by
    have hj' : j < m := by rw [htl] at hj; exact hj
    simp [hj']) hr (by rw [htl]; exact hto) h
  rw [htl] at H
  have e : ((List.range (l.length - m)).map (m + ·)).length + m = l.toArray.size := by simp; omega
  rw [e] at H
  exact H

end Go.Proofs.YtlbfllaaabginaaDoor

/-!   A region that draws its order: reads that come to the same in every world of a class, wherever they stand in the text, are taken first; what is left is gone through step by step, in whatever order it may come up. Plain. No program is named here.
-/

namespace Go.Proofs.YtlbfllaaabginaaDoor
open Go

section
variable {P : Program} {md : Region.Mode} {ops : Array Oper} {C : World → Prop} {Q : Exit → Act → World → Prop} {t : Nat}

def readsToL (md : Region.Mode) (ops : Array Oper) (t : Nat) (target : Array Bool) : List Nat → Array Bool → Bool
  | [], listed => listed == target
  | k :: ks, listed => (Region.ready md ops listed).contains k && (Region.free md ops listed k && (Region.waitsFor md ops t k && readsToL md ops t target ks (listed.setIfInBounds k true)))

theorem anyC_readsL {target : Array Bool} {L : Act → Prop} {g : Nat} {w : World} (hsel : Region.noSelect ops = true) (hP : ∀ c a w, ¬ Q (.panic c) a w) (hO : ¬ LetsOut Q) (hC : C w) (hL : ∀ a', L a' → anyC P md ops C Q t g target a' w) :
    ∀ (is : List Nat) (l : List Oper) (listed : Array Bool) (a : Act), is.map (fun i => ops[i]?) = l.map some → l.all readOp = true → readsToL md ops t target is listed = true → wpQuiet P ops C L l a → anyC P md ops C Q t (g + is.length) listed a w
  | [], l, listed, a, hl, _, hB, h => by
    have : listed = target := by simpa [readsToL] using hB
    subst this
    have : l = [] := by cases l with | nil => rfl | cons _ _ => simp at hl
    subst this
    exact hL a h
  | k :: ks, [], listed, a, hl, _, _, _ => by simp at hl
  | k :: ks, o :: l, listed, a, hl, hr, hB, h => by
    simp only [List.map_cons, List.cons.injEq] at hl
    obtain ⟨h0, hl'⟩ := hl
    simp only [readsToL, Bool.and_eq_true] at hB
    obtain ⟨hr1, hf, hwt, hB'⟩ := hB
    simp only [List.all_cons, Bool.and_eq_true] at hr
    have hg : o.guard = none := by
      have := hr.1
      simp only [readOp, Bool.and_eq_true, Option.isNone_iff_eq_none] at this
      exact this.1
    simp only [wpQuiet, wanted_none hg, if_true] at h
    obtain ⟨v, hv, hK⟩ := h
    exact anyC_first h0 (Region.noSelect_spec hsel) hwt hP hO (g + ks.length) listed a w (Region.free_spec h0 hf) (by simpa using hr1) ⟨wanted_none hg, fun w' hw' => read_value hr.1 (hv w' hw')⟩ hC
      (anyC_readsL hsel hP hO hC hL ks l _ _ hl' hr.2 hB' hK)

theorem anyC_one {f i : Nat} {listed : Array Bool} {a : Act} {w : World} (hr : Region.ready md ops listed = [i]) (h : wpOp P ops Q i (fun a' w' => (i ≠ t → C w') ∧ anyC P md ops C Q t f (listed.setIfInBounds i true) a' w') a w) : anyC P md ops C Q t (f + 1) listed a w :=
  ⟨fun h0 => (by rw [hr] at h0; cases h0), fun j hj => by
    rw [hr] at hj
    obtain rfl := List.mem_singleton.1 hj
    exact h⟩
theorem anyC_two {f i j : Nat} {listed : Array Bool} {a : Act} {w : World} (hr : Region.ready md ops listed = [i, j]) (h : wpOp P ops Q i (fun a' w' => (i ≠ t → C w') ∧ anyC P md ops C Q t f (listed.setIfInBounds i true) a' w') a w)
    (h' : wpOp P ops Q j (fun a' w' => (j ≠ t → C w') ∧ anyC P md ops C Q t f (listed.setIfInBounds j true) a' w') a w) : anyC P md ops C Q t (f + 1) listed a w :=
  ⟨fun h0 => (by rw [hr] at h0; cases h0), fun m hm => by
    rw [hr] at hm
    rcases List.mem_cons.1 hm with rfl | hm
    · exact h
    · obtain rfl := List.mem_singleton.1 hm
      exact h'⟩
theorem anyC_end {listed : Array Bool} {a : Act} {w : World} (hr : Region.ready md ops listed = []) (h : Q .normal a w) : anyC P md ops C Q t 0 listed a w := ⟨hr, h⟩

theorem wpOp_call {i : Nat} {o : Oper} {a : Act} {w : World} {f : FuncId} {args : Array Value} {K : Act → World → Prop} (hi : ops[i]? = some o) (hg : o.guard = none) (hx : (execOp a.eval o).run P w = .ok (.enter f args) w)
    (hc : Calls P f args w fun e w' => ∃ v, e = .returned v ∧ K (a.put o.dst v) w') : wpOp P ops Q i K a w := by
  unfold wpOp
  simp only [hi, wanted_none hg, if_true]
  refine .inl ?_
  unfold Oper.wp
  rw [hx]
  refine Calls.mono hc fun e w' he => ?_
  obtain ⟨v, rfl, h⟩ := he
  exact h
theorem wpOp_value {i : Nat} {o : Oper} {a : Act} {w w' : World} {v : Value} {K : Act → World → Prop} (hi : ops[i]? = some o) (hg : o.guard = none) (hx : (execOp a.eval o).run P w = .ok (.value v) w') (h : K (a.put o.dst v) w') : wpOp P ops Q i K a w := by
  unfold wpOp
  simp only [hi, wanted_none hg, if_true]
  refine .inl ?_
  unfold Oper.wp
  rw [hx]
  exact h
theorem wpOp_skip {i : Nat} {o : Oper} {a : Act} {w w' : World} {K : Act → World → Prop} (hi : ops[i]? = some o) (hg : o.guard = none) (hx : (execOp a.eval o).run P w = .ok .skip w') (h : K (a.put o.dst undef) w') : wpOp P ops Q i K a w := by
  unfold wpOp
  simp only [hi, wanted_none hg, if_true]
  refine .inl ?_
  unfold Oper.wp
  rw [hx]
  exact h
end

/-- All that such a region must keep to. -/
def readsLB (l : List Oper) (is : List Nat) : Bool :=
  Region.noSelect l.toArray && (decide (is.length ≤ l.length) && readsToL .any l.toArray (l.length - 1) (is.foldl (fun x j => x.setIfInBounds j true) (Array.replicate l.toArray.size false)) is (Array.replicate l.toArray.size false))

def idleOp : Oper := { dst := none, op := .move (.const undef), type := 0, pos := "none", after := #[], guard := none }
theorem region_readsL {P : Program} {C : World → Prop} {id : Nat} {Q : Exit → Act → World → Prop} {a : Act} {w : World} {l : List Oper} (is : List Nat) (hm : P.follows .mixedOrders = true) (hB : readsLB l is = true) (hl : is.map (fun i => l.toArray[i]?) = (is.map fun i => l.getD i idleOp).map some) (hr : (is.map fun i => l.getD i idleOp).all readOp = true) (hC : C w.drew)
    (h : wpQuiet P l.toArray C (fun a' => anyC P .any l.toArray C (onlyOn Q) (l.length - 1) (l.length - is.length) (is.foldl (fun x j => x.setIfInBounds j true) (Array.replicate l.toArray.size false)) a' w.drew) (is.map fun i => l.getD i idleOp) a) : (Code.region id l.toArray true).wp P Q a w := by
  simp only [readsLB, Bool.and_eq_true, decide_eq_true_eq] at hB
  obtain ⟨hsel, hml, hto⟩ := hB
  have hO : ¬ LetsOut (onlyOn Q) := by rintro ⟨_, _, h, _⟩; cases h
  refine Code.wp_mono (Q := onlyOn Q) (fun e a' w' h => by obtain ⟨rfl, h⟩ := h; exact h) ?_
  refine wp_region_any hm (any_of_anyC (C := C) (t := l.length - 1) _ _ _ _ ?_)
  have H := anyC_readsL (P := P) (md := .any) (Q := onlyOn Q) (t := l.length - 1) hsel (fun c a w h => by cases h.1) hO hC (fun a' ha' => ha') is _ _ a hl hr hto h
  have e : l.length - is.length + is.length = l.toArray.size := by simp; omega
  rw [e] at H
  exact H

end Go.Proofs.YtlbfllaaabginaaDoor

/-!   A region that draws its order: reads that come to the same in every world of a class, wherever they stand in the text, are taken first, where all its operations keep the class (no last one need wait for them); what is left is gone through step by step. Plain. No program is named here.
-/

namespace Go.Proofs.YtlbfllaaabginaaDoor
open Go

section
variable {P : Program} {md : Region.Mode} {ops : Array Oper} {C : World → Prop} {Q : Exit → Act → World → Prop} {t : Nat}

theorem anyC_firstA {i : Nat} {oi : Oper} {v : Value} (hi : ops[i]? = some oi) (hsel : ∀ (j : Nat) (o : Oper) cs b, ops[j]? = some o → o.op ≠ .select cs b) (ht : ops.size ≤ t)
    (hP : ∀ c a w, ¬ Q (.panic c) a w) (hL : ¬ LetsOut Q) :
    ∀ (f : Nat) (listed : Array Bool) (a : Act) (w : World),
      (∀ j oj, ops[j]? = some oj → j ≠ i → listed.getD j true = false → (∀ e ∈ oj.after, Region.binds md e = true → e.on ≠ i) → oi.apart ops oj = true) →
      i ∈ Region.ready md ops listed → ReadIn P ops C oi v a → C w → anyC P md ops C Q t f (listed.setIfInBounds i true) (a.put oi.dst v) w → anyC P md ops C Q t (f + 1) listed a w := by
  intro f
  induction f with
  | zero =>
    intro listed a w _ hr hy hC H
    refine ⟨fun h => (by rw [h] at hr; cases hr), fun j hj => ?_⟩
    by_cases hji : j = i
    · subst hji; exact hy.wpOp hi hC ⟨fun _ => hC, H⟩
    · have := ready_mono hj hji
      rw [H.1] at this
      cases this
  | succ f ih =>
    intro listed a w hfree hr hy hC H
    have hun := (mem_ready.1 hr).1
    refine ⟨fun h => (by rw [h] at hr; cases hr), fun j hj => ?_⟩
    by_cases hji : j = i
    · subst hji; exact hy.wpOp hi hC ⟨fun _ => hC, H⟩
    · obtain ⟨hjun, oj, hoj, hall⟩ := mem_ready.1 hj
      have hnot : ∀ e ∈ oj.after, Region.binds md e = true → e.on ≠ i := fun e he hb heq => by
        have h1 := hall e he hb
        rw [heq, getD_both hun] at h1
        cases h1
      have hjt : j ≠ t := fun e => by
        have := (Array.getElem?_eq_some_iff.1 hoj).1
        omega
      refine wpOp_mono (fun a' w' h3 => ⟨fun _ => h3.2.1 hjt, ?_⟩) (read_later hoj (hfree j oj hoj hji hjun hnot) (fun cs b => hsel i oi cs b hi) (fun cs b => hsel j oj cs b hoj) hP hL hy (H.2 j (ready_mono hj hji)))
      refine ih (listed.setIfInBounds j true) a' w' (fun k ok hk hki hunk hno => hfree k ok hk hki ?_ hno) (ready_mono hr (Ne.symm hji)) h3.1 (h3.2.1 hjt) ?_
      · by_cases hjk : j = k
        · subst hjk; exact hjun
        · rw [getD_set_ne true hjk] at hunk; exact hunk
      · rw [Array.setIfInBounds_comm _ _ hji]; exact h3.2.2

def readsToA (md : Region.Mode) (ops : Array Oper) (target : Array Bool) : List Nat → Array Bool → Bool
  | [], listed => listed == target
  | k :: ks, listed => (Region.ready md ops listed).contains k && (Region.free md ops listed k && readsToA md ops target ks (listed.setIfInBounds k true))

theorem anyC_readsA {target : Array Bool} {L : Act → Prop} {g : Nat} {w : World} (hsel : Region.noSelect ops = true) (ht : ops.size ≤ t) (hP : ∀ c a w, ¬ Q (.panic c) a w) (hO : ¬ LetsOut Q) (hC : C w) (hL : ∀ a', L a' → anyC P md ops C Q t g target a' w) :
    ∀ (is : List Nat) (l : List Oper) (listed : Array Bool) (a : Act), is.map (fun i => ops[i]?) = l.map some → l.all readOp = true → readsToA md ops target is listed = true → wpQuiet P ops C L l a → anyC P md ops C Q t (g + is.length) listed a w
  | [], l, listed, a, hl, _, hB, h => by
    have : listed = target := by simpa [readsToA] using hB
    subst this
    have : l = [] := by cases l with | nil => rfl | cons _ _ => simp at hl
    subst this
    exact hL a h
  | k :: ks, [], listed, a, hl, _, _, _ => by simp at hl
  | k :: ks, o :: l, listed, a, hl, hr, hB, h => by
    simp only [List.map_cons, List.cons.injEq] at hl
    obtain ⟨h0, hl'⟩ := hl
    simp only [readsToA, Bool.and_eq_true] at hB
    obtain ⟨hr1, hf, hB'⟩ := hB
    simp only [List.all_cons, Bool.and_eq_true] at hr
    have hg : o.guard = none := by
      have := hr.1
      simp only [readOp, Bool.and_eq_true, Option.isNone_iff_eq_none] at this
      exact this.1
    simp only [wpQuiet, wanted_none hg, if_true] at h
    obtain ⟨v, hv, hK⟩ := h
    exact anyC_firstA h0 (Region.noSelect_spec hsel) ht hP hO (g + ks.length) listed a w (Region.free_spec h0 hf) (by simpa using hr1) ⟨wanted_none hg, fun w' hw' => read_value hr.1 (hv w' hw')⟩ hC
      (anyC_readsA hsel ht hP hO hC hL ks l _ _ hl' hr.2 hB' hK)

/-- All that such a region must keep to. -/
def readsAB (l : List Oper) (is : List Nat) : Bool :=
  Region.noSelect l.toArray && (decide (is.length ≤ l.length) && readsToA .any l.toArray (is.foldl (fun x j => x.setIfInBounds j true) (Array.replicate l.toArray.size false)) is (Array.replicate l.toArray.size false))

theorem region_readsA {C : World → Prop} {id : Nat} {Q : Exit → Act → World → Prop} {a : Act} {w : World} {l : List Oper} (is : List Nat) (hm : P.follows .mixedOrders = true) (hB : readsAB l is = true) (hl : is.map (fun i => l.toArray[i]?) = (is.map fun i => l.getD i idleOp).map some) (hr : (is.map fun i => l.getD i idleOp).all readOp = true) (hC : C w.drew)
    (h : wpQuiet P l.toArray C (fun a' => anyC P .any l.toArray C (onlyOn Q) l.length (l.length - is.length) (is.foldl (fun x j => x.setIfInBounds j true) (Array.replicate l.toArray.size false)) a' w.drew) (is.map fun i => l.getD i idleOp) a) : (Code.region id l.toArray true).wp P Q a w := by
  simp only [readsAB, Bool.and_eq_true, decide_eq_true_eq] at hB
  obtain ⟨hsel, hml, hto⟩ := hB
  have hO : ¬ LetsOut (onlyOn Q) := by rintro ⟨_, _, h, _⟩; cases h
  refine Code.wp_mono (Q := onlyOn Q) (fun e a' w' h => by obtain ⟨rfl, h⟩ := h; exact h) ?_
  refine wp_region_any hm (any_of_anyC (C := C) (t := l.length) _ _ _ _ ?_)
  have H := anyC_readsA (P := P) (md := .any) (Q := onlyOn Q) (t := l.length) hsel (by simp) (fun c a w h => by cases h.1) hO hC (fun a' ha' => ha') is _ _ a hl hr hto h
  have e : l.length - is.length + is.length = l.toArray.size := by simp; omega
  rw [e] at H
  exact H
end

end Go.Proofs.YtlbfllaaabginaaDoor

/-!   A drawn region, step by step, where three or four operations may come up. Plain. No program is named here.
-/

namespace Go.Proofs.YtlbfllaaabginaaDoor
open Go

section
variable {P : Program} {md : Region.Mode} {ops : Array Oper} {C : World → Prop} {Q : Exit → Act → World → Prop} {t : Nat}
theorem anyC_three {f i j k : Nat} {listed : Array Bool} {a : Act} {w : World} (hr : Region.ready md ops listed = [i, j, k]) (h : wpOp P ops Q i (fun a' w' => (i ≠ t → C w') ∧ anyC P md ops C Q t f (listed.setIfInBounds i true) a' w') a w)
    (h' : wpOp P ops Q j (fun a' w' => (j ≠ t → C w') ∧ anyC P md ops C Q t f (listed.setIfInBounds j true) a' w') a w)
    (h'' : wpOp P ops Q k (fun a' w' => (k ≠ t → C w') ∧ anyC P md ops C Q t f (listed.setIfInBounds k true) a' w') a w) : anyC P md ops C Q t (f + 1) listed a w :=
  ⟨fun h0 => (by rw [hr] at h0; cases h0), fun m hm => by
    rw [hr] at hm
    rcases List.mem_cons.1 hm with rfl | hm
    · exact h
    · rcases List.mem_cons.1 hm with rfl | hm
      · exact h'
      · obtain rfl := List.mem_singleton.1 hm
        exact h''⟩
theorem anyC_four {f i j k l : Nat} {listed : Array Bool} {a : Act} {w : World} (hr : Region.ready md ops listed = [i, j, k, l]) (h : wpOp P ops Q i (fun a' w' => (i ≠ t → C w') ∧ anyC P md ops C Q t f (listed.setIfInBounds i true) a' w') a w)
    (h' : wpOp P ops Q j (fun a' w' => (j ≠ t → C w') ∧ anyC P md ops C Q t f (listed.setIfInBounds j true) a' w') a w)
    (h'' : wpOp P ops Q k (fun a' w' => (k ≠ t → C w') ∧ anyC P md ops C Q t f (listed.setIfInBounds k true) a' w') a w)
    (h3 : wpOp P ops Q l (fun a' w' => (l ≠ t → C w') ∧ anyC P md ops C Q t f (listed.setIfInBounds l true) a' w') a w) : anyC P md ops C Q t (f + 1) listed a w :=
  ⟨fun h0 => (by rw [hr] at h0; cases h0), fun m hm => by
    rw [hr] at hm
    rcases List.mem_cons.1 hm with rfl | hm
    · exact h
    · rcases List.mem_cons.1 hm with rfl | hm
      · exact h'
      · rcases List.mem_cons.1 hm with rfl | hm
        · exact h''
        · obtain rfl := List.mem_singleton.1 hm
          exact h3⟩
end

end Go.Proofs.YtlbfllaaabginaaDoor

/-!   A region that draws its order, in three parts: a quiet head behind one gate (all that follows waits for the head's last operation, and that for all of the head); operations that look at local slots alone, wherever they come up; and the others, in one forced order. One walk serves every order.
  No program is named here.
-/

namespace Go.Proofs.YtlbfllaaabginaaDoor
open Go

section
variable {P : Program} {md : Region.Mode} {ops : Array Oper} {C : World → Prop} {m : Nat}

/-- Each of the first m operations but the last is waited for by a later one of them; each other one waits for the last of them, or for one behind it. -/
def gateB (md : Region.Mode) (ops : Array Oper) (m : Nat) : Bool :=
  (List.range (m - 1)).all (fun i => (List.range m).any fun j => decide (i < j) && Region.waitsFor md ops j i) &&
  (List.range ops.size).all (fun t => decide (t < m) || (List.range t).any fun j => decide (m - 1 ≤ j) && Region.waitsFor md ops t j)

theorem waits_gate (h : gateB md ops m = true) : Waits md ops m 0 := by
  intro listed inv i _ him hun t ht hr
  simp only [gateB, Bool.and_eq_true] at h
  obtain ⟨h1, h2⟩ := h
  obtain ⟨_, ot, hot, hall⟩ := mem_ready.1 hr
  have hts : t < ops.size := (Array.getElem?_eq_some_iff.1 hot).1
  have h3 := List.all_eq_true.1 h2 t (List.mem_range.2 hts)
  rw [decide_eq_false (by omega : ¬ t < m), Bool.false_or, List.any_eq_true] at h3
  obtain ⟨j, hj, h4⟩ := h3
  rw [Bool.and_eq_true, decide_eq_true_eq] at h4
  have hjt := List.mem_range.1 hj
  obtain ⟨o', ho', e, he, hb, hon⟩ := Region.waitsFor_spec h4.2
  rw [hot] at ho'
  cases ho'
  have hjl := hall e he hb
  rw [hon] at hjl
  have hjm : j = m - 1 := by
    rcases Nat.lt_or_ge j m with h | h
    · omega
    · rw [getD_both (inv.tail j h (by omega))] at hjl; cases hjl
  subst hjm
  have all : ∀ d k, m - 1 - k = d → k < m → listed.getD k false = true := by
    intro d
    induction d using Nat.strongRecOn with
    | _ d ih =>
      intro k hd hk
      rcases Nat.lt_or_ge k (m - 1) with hk1 | hk1
      · have h5 := List.all_eq_true.1 h1 k (List.mem_range.2 hk1)
        rw [List.any_eq_true] at h5
        obtain ⟨n, hn, h6⟩ := h5
        rw [Bool.and_eq_true, decide_eq_true_eq] at h6
        have hnm := List.mem_range.1 hn
        obtain ⟨on, hon', e', he', hb', hk'⟩ := Region.waitsFor_spec h6.2
        have := inv.closed n on hon' (ih (m - 1 - n) (by omega) n rfl hnm) e' he' hb'
        rwa [hk'] at this
      · rw [show k = m - 1 by omega]; exact hjl
  have := all _ i rfl him
  rw [getD_both hun] at this
  cases this

/-- Taken one by one in the text's order, each free, they come to that list of what has come up. -/
def lexTo (md : Region.Mode) (ops : Array Oper) (target : Array Bool) : Nat → Nat → Array Bool → Bool
  | 0, _, listed => listed == target
  | f + 1, k, listed => (Region.ready md ops listed).contains k && Region.free md ops listed k && lexTo md ops target f (k + 1) (listed.setIfInBounds k true)

theorem headQ_to {target : Array Bool} {Lq : Act → Prop} (hsel : Region.noSelect ops = true) (hwt : Waits md ops m 0) (hdone : (Region.ready md ops target).all (fun j => decide (m ≤ j)) = true) :
    ∀ (l : List Oper) (k : Nat) (listed : Array Bool) (a : Act), (∀ j, j < l.length → l[j]? = ops[k + j]?) → k + l.length = m → HeadInv md ops m listed →
    lexTo md ops target l.length k listed = true → wpQuiet P ops C Lq l a → headQ P md ops C m (fun listed' a' => listed' = target ∧ Lq a') l.length listed a
  | [], k, listed, a, _, hk, _, hB, h => ⟨by simpa [lexTo] using hB, h⟩
  | o :: l, k, listed, a, hl, hk, inv, hB, h => by
    have h0 : ops[k]? = some o := by simpa using (hl 0 (by simp)).symm
    simp only [List.length_cons, lexTo, Bool.and_eq_true] at hB
    obtain ⟨⟨hr, hf⟩, hB'⟩ := hB
    have hkm : k < m := by simp only [List.length_cons] at hk; omega
    have hr' : k ∈ Region.ready md ops listed := by simpa using hr
    obtain ⟨v, hy, hK⟩ := yieldsIn_of_qOp (K := wpQuiet P ops C Lq l) h0 (by unfold qOp; simp only [h0]; exact h)
    refine headQ_first h0 (Region.noSelect_spec hsel) hwt (Nat.zero_le _) hkm (fun listed' a' hL j hj => ?_) l.length listed a inv (Region.free_spec h0 hf) hr' hy
      (headQ_to hsel hwt hdone l (k + 1) _ _ (fun j hj => by have := hl (j + 1) (by simp; omega); simpa [Nat.add_assoc, Nat.add_comm 1 j] using this) (by simp only [List.length_cons] at hk; omega) (inv.set hr' hkm) hB' hK)
    rw [hL.1] at hj
    exact of_decide_eq_true (List.all_eq_true.1 hdone j hj)

/-- Operations that look at local slots alone, one behind the other. -/
def Pures (P : Program) (ops : Array Oper) (L : Act → Prop) : List Oper → Act → Prop
  | [], a => L a
  | o :: os, a => ∃ v, Yields P ops o v a ∧ Pures P ops L os (a.put o.dst v)
def takeTo (md : Region.Mode) (ops : Array Oper) (target : Array Bool) : List Nat → Array Bool → Bool
  | [], listed => listed == target
  | j :: js, listed => (Region.ready md ops listed).contains j && Region.free md ops listed j && takeTo md ops target js (listed.setIfInBounds j true)

theorem any_pures {Q : Exit → Act → World → Prop} {target : Array Bool} {g : Nat} {w : World} (hsel : Region.noSelect ops = true) (hQ : ∀ c d v a w, Q (.panic c) (a.put d v) w → Q (.panic c) a w) :
    ∀ (js : List Nat) (os : List Oper) (listed : Array Bool) (a : Act), js.map (fun j => ops[j]?) = os.map some → takeTo md ops target js listed = true →
      Pures P ops (fun a' => wpAny P md ops Q g target a' w) os a → wpAny P md ops Q (js.length + g) listed a w
  | [], [], listed, a, _, hB, h => by
    have : listed = target := by simpa [takeTo] using hB
    subst this
    simpa [Pures] using h
  | [], _ :: _, _, _, he, _, _ => by simp at he
  | _ :: _, [], _, _, he, _, _ => by simp at he
  | j :: js, o :: os, listed, a, he, hB, ⟨v, hy, h⟩ => by
    simp only [List.map_cons, List.cons.injEq] at he
    simp only [takeTo, Bool.and_eq_true] at hB
    rw [List.length_cons, Nat.add_right_comm]
    exact wpAny_take he.1 hsel hB.1.2 hB.1.1 (fun c a w => hQ c _ _ a w) hy (any_pures hsel hQ js os _ _ he.2 hB.2 h)

/-- One alone is ready at each step. -/
def oneByOne (md : Region.Mode) (ops : Array Oper) : List Nat → Array Bool → Bool
  | [], listed => (Region.ready md ops listed).isEmpty
  | t :: ts, listed => (Region.ready md ops listed == [t]) && oneByOne md ops ts (listed.setIfInBounds t true)

theorem any_one {Q : Exit → Act → World → Prop} : ∀ (ts : List Nat) (os : List Oper) (listed : Array Bool) (a : Act) (w : World), ts.map (fun j => ops[j]?) = os.map some → oneByOne md ops ts listed = true →
      wpList P ops Q os a w → wpAny P md ops Q ts.length listed a w
  | [], [], listed, a, w, _, hB, h => ⟨by simpa [oneByOne] using hB, h⟩
  | [], _ :: _, _, _, _, he, _, _ => by simp at he
  | _ :: _, [], _, _, _, he, _, _ => by simp at he
  | t :: ts, o :: os, listed, a, w, he, hB, h => by
    simp only [List.map_cons, List.cons.injEq] at he
    simp only [oneByOne, Bool.and_eq_true, beq_iff_eq] at hB
    refine ⟨fun h0 => (by rw [hB.1] at h0; cases h0), fun i hi => ?_⟩
    rw [hB.1] at hi
    obtain rfl := List.mem_singleton.1 hi
    refine wpOp_mono (K := wpList P ops Q os) (fun a' w' h' => any_one ts os _ a' w' he.2 hB.2 h') ?_
    unfold wpOp
    simp only [he.1]
    exact h
end

/-- So much has come up. -/
def marks (n : Nat) (js : List Nat) : Array Bool := js.foldl (fun l j => l.setIfInBounds j true) (Array.replicate n false)
/-- All that the parts must keep to: m operations of the head; js: those that look at local slots alone; ts: the others, in order. -/
def partsB (ops : Array Oper) (m : Nat) (js ts : List Nat) : Bool :=
  Region.noSelect ops && (decide (m + (js.length + ts.length) = ops.size) && (gateB .any ops m && (lexTo .any ops (marks ops.size (List.range m)) m 0 (Array.replicate ops.size false) &&
    ((Region.ready .any ops (marks ops.size (List.range m))).all (fun j => decide (m ≤ j)) && (takeTo .any ops (marks ops.size (List.range m ++ js)) js (marks ops.size (List.range m)) && oneByOne .any ops ts (marks ops.size (List.range m ++ js)))))))

theorem region_parts {P : Program} {id : Nat} {Q : Exit → Act → World → Prop} {a : Act} {w : World} {l os rs : List Oper} (m : Nat) (js ts : List Nat) (hmx : P.follows .mixedOrders = true) (hB : partsB l.toArray m js ts = true)
    (hj : js.map (fun j => l.toArray[j]?) = os.map some) (ht : ts.map (fun j => l.toArray[j]?) = rs.map some) (hQ : ∀ c d v a w, Q (.panic c) (a.put d v) w → Q (.panic c) a w)
    (h : wpQuiet P l.toArray (fun w' => ∃ n, w' = w.drewN n) (fun a' => ∀ w', (∃ n, w' = w.drewN n) → Pures P l.toArray (fun b => wpList P l.toArray Q rs b w') os a') (l.take m) a) : (Code.region id l.toArray true).wp P Q a w := by
  simp only [partsB, Bool.and_eq_true, decide_eq_true_eq] at hB
  obtain ⟨hsel, hsz, hg, hlex, hdone, htake, hone⟩ := hB
  have hm' : m ≤ l.length := by have : l.toArray.size = l.length := by simp
                                omega
  have htl : (l.take m).length = m := by simp; omega
  have inv0 : HeadInv .any l.toArray m (Array.replicate l.toArray.size false) :=
    ⟨by simp, fun j oj _ hl => (by rw [getD_replicate_false] at hl; cases hl), fun t _ ht => getD_in (by simpa using ht) (getD_replicate_false _ _)⟩
  have H := headQ_to (C := fun w' => ∃ n, w' = w.drewN n) hsel (waits_gate hg) hdone (l.take m) 0 _ a (fun j hj => by
    have hj' : j < m := by rw [htl] at hj; exact hj
    simp [hj']) (by simpa using htl) inv0 (by rw [htl]; exact hlex) h
  refine wp_region_any hmx ?_
  have := any_of_headQ (Q := Q) (g := js.length + ts.length) (fun listed b w' hw' hL => by
    obtain ⟨rfl, hL2⟩ := hL
    refine any_pures hsel hQ js os _ b hj htake ?_
    have := hL2 w' hw'
    have mono : ∀ (os : List Oper) (b : Act), Pures P l.toArray (fun b => wpList P l.toArray Q rs b w') os b → Pures P l.toArray (fun b => wpAny P .any l.toArray Q ts.length (marks l.toArray.size (List.range m ++ js)) b w') os b := by
      intro os
      induction os with
      | nil => intro b hb; exact any_one ts rs _ b w' ht hone hb
      | cons o os ih => rintro b ⟨v, hy, hb⟩; exact ⟨v, hy, ih _ hb⟩
    exact mono os b this) _ _ _ w.drew ⟨1, rfl⟩ H
  rw [htl, hsz] at this
  exact this

end Go.Proofs.YtlbfllaaabginaaDoor

/-!   A region that draws its order, with a quiet head, all of which one operation waits for (a call): behind it step by step, whatever comes up. No program is named here.
-/

namespace Go.Proofs.YtlbfllaaabginaaDoor
open Go

/-- A step by itself, as a walk of one operation. -/
def onlyK (K : Act → World → Prop) (e : Exit) (a : Act) (w : World) : Prop := e = .normal ∧ K a w
theorem wpOp_of_list {P : Program} {ops : Array Oper} {Q : Exit → Act → World → Prop} {i : Nat} {o : Oper} {a : Act} {w : World} {K : Act → World → Prop} (hi : ops[i]? = some o) (h : wpList P ops (onlyK K) [o] a w) : wpOp P ops Q i K a w := by
  unfold wpOp
  simp only [hi]
  unfold wpList at h
  by_cases hw : Region.wanted o (yielded ops a.tmps) = true
  · rw [if_pos hw] at h ⊢
    have h' := h.resolve_right (fun x => by obtain ⟨_, _, _, h, _⟩ := x; cases h)
    refine .inl ?_
    unfold Oper.wp at h' ⊢
    revert h'
    generalize (execOp a.eval o).run P w = r
    intro h'
    match r, h' with
    | .ok (.value u) w', h' => exact h'.2
    | .ok .skip w', h' => exact h'.2
    | .ok (.defer d) w', h' => exact h'.2
    | .ok (.enter f args) w', h' =>
      refine Calls.mono h' fun e w'' he => ?_
      cases e with
      | returned u => exact he.2
      | panicked c => cases he.1
      | outgrown =>
        obtain ⟨_, _, h, _⟩ := he
        cases h
    | .ok (.row nm args) w', h' => exact Rows.mono h' fun u w'' he => he.2
    | .halt (.panic u) w', h' => cases h'.1
  · rw [if_neg hw] at h ⊢
    exact h.2

/-- Each of the first m operations is waited for by a later one up to m; each one behind m waits for m or for one behind it. -/
def callB (md : Region.Mode) (ops : Array Oper) (m : Nat) : Bool :=
  (List.range m).all (fun i => (List.range (m + 1)).any fun j => decide (i < j) && Region.waitsFor md ops j i) &&
  (List.range ops.size).all (fun t => decide (t ≤ m) || (List.range t).any fun j => decide (m ≤ j) && Region.waitsFor md ops t j)

theorem waits_call {md : Region.Mode} {ops : Array Oper} {m : Nat} (h : callB md ops m = true) : Waits md ops m 0 := by
  intro listed inv i _ him hun t ht hr
  simp only [callB, Bool.and_eq_true] at h
  obtain ⟨h1, h2⟩ := h
  obtain ⟨_, ot, hot, hall⟩ := mem_ready.1 hr
  have hts : t < ops.size := (Array.getElem?_eq_some_iff.1 hot).1
  by_cases htm : t = m
  · subst htm
    have all : ∀ d k, t - k = d → k < t → listed.getD k false = true := by
      intro d
      induction d using Nat.strongRecOn with
      | _ d ih =>
        intro k hd hk
        have h5 := List.all_eq_true.1 h1 k (List.mem_range.2 hk)
        rw [List.any_eq_true] at h5
        obtain ⟨n, hn, h6⟩ := h5
        rw [Bool.and_eq_true, decide_eq_true_eq] at h6
        have hnm := List.mem_range.1 hn
        obtain ⟨on, hon', e', he', hb', hk'⟩ := Region.waitsFor_spec h6.2
        by_cases hnt : n = t
        · subst hnt
          rw [hot] at hon'
          cases hon'
          have := hall e' he' hb'
          rwa [hk'] at this
        · have := inv.closed n on hon' (ih (t - n) (by omega) n rfl (by omega)) e' he' hb'
          rwa [hk'] at this
    have := all _ i rfl him
    rw [getD_both hun] at this
    cases this
  · have h3 := List.all_eq_true.1 h2 t (List.mem_range.2 hts)
    rw [decide_eq_false (by omega : ¬ t ≤ m), Bool.false_or, List.any_eq_true] at h3
    obtain ⟨j, hj, h4⟩ := h3
    rw [Bool.and_eq_true, decide_eq_true_eq] at h4
    have hjt := List.mem_range.1 hj
    obtain ⟨o', ho', e, he, hb, hon⟩ := Region.waitsFor_spec h4.2
    rw [hot] at ho'
    cases ho'
    have hjl := hall e he hb
    rw [hon] at hjl
    rw [getD_both (inv.tail j h4.1 (by omega))] at hjl
    cases hjl

/-- All that such a region must keep to. -/
def headB (ops : Array Oper) (m : Nat) : Bool :=
  Region.noSelect ops && (decide (m ≤ ops.size) && (callB .any ops m && (lexTo .any ops (marks ops.size (List.range m)) m 0 (Array.replicate ops.size false) && (Region.ready .any ops (marks ops.size (List.range m))).all (fun j => decide (m ≤ j)))))

theorem region_call {P : Program} {id : Nat} {Q : Exit → Act → World → Prop} {a : Act} {w : World} {l : List Oper} (m : Nat) (hmx : P.follows .mixedOrders = true) (hB : headB l.toArray m = true)
    (h : wpQuiet P l.toArray (fun w' => ∃ n, w' = w.drewN n) (fun a' => ∀ w', (∃ n, w' = w.drewN n) → wpAny P .any l.toArray Q (l.length - m) (marks l.toArray.size (List.range m)) a' w') (l.take m) a) : (Code.region id l.toArray true).wp P Q a w := by
  simp only [headB, Bool.and_eq_true, decide_eq_true_eq] at hB
  obtain ⟨hsel, hsz, hg, hlex, hdone⟩ := hB
  have hm' : m ≤ l.length := by simpa using hsz
  have htl : (l.take m).length = m := by simp; omega
  have inv0 : HeadInv .any l.toArray m (Array.replicate l.toArray.size false) :=
    ⟨by simp, fun j oj _ hl => (by rw [getD_replicate_false] at hl; cases hl), fun t _ ht => getD_in (by simpa using ht) (getD_replicate_false _ _)⟩
  have H := headQ_to (C := fun w' => ∃ n, w' = w.drewN n) hsel (waits_call hg) hdone (l.take m) 0 _ a (fun j hj => by
    have hj' : j < m := by rw [htl] at hj; exact hj
    simp [hj']) (by simpa using htl) inv0 (by rw [htl]; exact hlex) h
  refine wp_region_any hmx ?_
  have := any_of_headQ (Q := Q) (g := l.length - m) (fun listed b w' hw' hL => by
    obtain ⟨rfl, hL2⟩ := hL
    exact hL2 w' hw') _ _ _ w.drew ⟨1, rfl⟩ H
  rw [htl, show m + (l.length - m) = l.length by omega] at this
  have e : l.toArray.size = l.length := by simp
  rw [← e] at this
  exact this

section
variable {P : Program} {md : Region.Mode} {ops : Array Oper} {Q : Exit → Act → World → Prop} {f i j : Nat} {listed : Array Bool} {a : Act} {w : World}
theorem any_one1 (hr : Region.ready md ops listed = [i]) (h : wpOp P ops Q i (wpAny P md ops Q f (listed.setIfInBounds i true)) a w) : wpAny P md ops Q (f + 1) listed a w :=
  ⟨fun h0 => (by rw [hr] at h0; cases h0), fun k hk => by
    rw [hr] at hk
    obtain rfl := List.mem_singleton.1 hk
    exact h⟩
theorem any_two (hr : Region.ready md ops listed = [i, j]) (h : wpOp P ops Q i (wpAny P md ops Q f (listed.setIfInBounds i true)) a w) (h' : wpOp P ops Q j (wpAny P md ops Q f (listed.setIfInBounds j true)) a w) : wpAny P md ops Q (f + 1) listed a w :=
  ⟨fun h0 => (by rw [hr] at h0; cases h0), fun k hk => by
    rw [hr] at hk
    rcases List.mem_cons.1 hk with rfl | hk
    · exact h
    · obtain rfl := List.mem_singleton.1 hk
      exact h'⟩
theorem any_end (hr : Region.ready md ops listed = []) (h : Q .normal a w) : wpAny P md ops Q 0 listed a w := ⟨hr, h⟩
end

end Go.Proofs.YtlbfllaaabginaaDoor

/-!   Nothing has changed but, maybe, in some blocks. No function of the program is named here.
-/

namespace Go.Proofs.YtlbfllaaabginaaDoor
open Go.RowKit

/-- Nothing has changed but, maybe, in the blocks of F. -/
structure But (F : Nat → Prop) (w w' : World) : Prop where
  os : w'.os = w.os
  tape : w'.tape = w.tape
  output : w'.output = w.output
  size : w.heap.size ≤ w'.heap.size
  block : ∀ k, k < w.heap.size → ¬ F k → w'.heap[k]? = w.heap[k]?

theorem But.refl (F : Nat → Prop) (w : World) : But F w w := ⟨rfl, rfl, rfl, Nat.le_refl _, fun _ _ _ => rfl⟩
theorem But.trans {F F' : Nat → Prop} {w w' w'' : World} (h : But F w w') (h' : But F' w' w'') (hF : ∀ k, k < w.heap.size → F' k → F k) : But F w w'' :=
  ⟨h'.os.trans h.os, h'.tape.trans h.tape, h'.output.trans h.output, Nat.le_trans h.size h'.size, fun k hk hn => (h'.block k (Nat.lt_of_lt_of_le hk h.size) (fun c => hn (hF k hk c))).trans (h.block k hk hn)⟩
theorem But.mono {F F' : Nat → Prop} {w w' : World} (h : But F w w') (hF : ∀ k, k < w.heap.size → F k → F' k) : But F' w w' := ⟨h.os, h.tape, h.output, h.size, fun k hk hn => h.block k hk fun c => hn (hF k hk c)⟩
theorem But.of_below {F : Nat → Prop} {w w' : World} (h : Below w.heap.size w w') : But F w w' := ⟨h.os, h.tape, h.output, h.size, fun k hk _ => h.block k hk⟩
theorem But.of_grown {r : Option Nat} {w w' : World} (h : w.grownBy w' r) : But (fun k => r = some k) w w' := ⟨h.os, h.tape, h.output, h.size, fun k hk hn => h.block k hk fun c => hn c.symm⟩
theorem But.setCell (w : World) (b o : Nat) (v : Value) : But (fun k => k = b) w (w.setCell ⟨b, o, none⟩ v) := ⟨rfl, rfl, rfl, by simp [World.setCell], fun k _ hn => Below.heap_setCell _ _ _ _ hn⟩
theorem But.below {F : Nat → Prop} {w w' : World} {n : Nat} (h : But F w w') (hn : n ≤ w.heap.size) (hF : ∀ k, F k → n ≤ k) : Below n w w' := ⟨h.os, h.tape, h.output, h.size, fun k hk => h.block k (by omega) fun c => by have := hF k c; omega⟩

end Go.Proofs.YtlbfllaaabginaaDoor
