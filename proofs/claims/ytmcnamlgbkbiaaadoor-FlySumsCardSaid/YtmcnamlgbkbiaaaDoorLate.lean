/-
  A region that draws its order, of the form 'x = append(x, T{..})': the read of x (the first operation of the text) may come up before or behind the making of the slice of what is appended; all else ahead of that is quiet: one walk serves every order.
  Plain, and inside a round of a range over a function. No program is named here.
-/
import Derived.Test.YtmcnamlgbkbiaaaDoorQuietTail
namespace Go.Proofs.YtmcnamlgbkbiaaaDoor
open Go

section
variable {P : Program} {md : Region.Mode} {ops : Array Oper} {C C2 : World → Prop} {m : Nat}

/-- All of the first n operations but the first are waited for by one up to place n. -/
def sink1B (md : Region.Mode) (ops : Array Oper) (n : Nat) : Bool :=
  (List.range n).all fun i => decide (i = 0) || (List.range (n + 1)).any fun j => decide (i < j) && Region.waitsFor md ops j i

theorem waits_late (hs : sink1B md ops m = true) (hc : Region.chainB md ops m = true) : Waits md ops m 1 := by
  intro listed inv
  -- the one at place m waits, directly or by others that have not come up either
  have at_m : ∀ d i, m - i = d → 1 ≤ i → i < m → listed.getD i true = false → m ∉ Region.ready md ops listed := by
    intro d
    induction d using Nat.strongRecOn with
    | _ d ih =>
      intro i hd h1 him hun hr
      obtain ⟨j, hj, hw⟩ : ∃ j, (i < j ∧ j ≤ m) ∧ Region.waitsFor md ops j i = true := by
        have := List.all_eq_true.1 hs i (List.mem_range.2 him)
        rw [decide_eq_false (by omega : ¬ i = 0), Bool.false_or, List.any_eq_true] at this
        obtain ⟨j, hj, h2⟩ := this
        rw [Bool.and_eq_true, decide_eq_true_eq] at h2
        exact ⟨j, ⟨h2.1, Nat.le_of_lt_succ (List.mem_range.1 hj)⟩, h2.2⟩
      obtain ⟨oj, hoj, e, he, hb, hon⟩ := Region.waitsFor_spec hw
      rcases Nat.lt_or_ge j m with hjm | hjm
      · have hlj : listed.getD j false = false := by
          cases hl : listed.getD j false
          · rfl
          · have := inv.closed j oj hoj hl e he hb
            rw [hon, getD_both hun] at this
            cases this
        exact ih (m - j) (by omega) j rfl (by omega) hjm (getD_in (by rw [inv.size]; exact (Array.getElem?_eq_some_iff.1 hoj).1) hlj) hr
      · obtain rfl : j = m := by omega
        obtain ⟨_, o', ho', hall⟩ := mem_ready.1 hr
        rw [hoj] at ho'
        cases ho'
        have := hall e he hb
        rw [hon, getD_both hun] at this
        cases this
  intro i hi him hun t ht hr
  rcases Nat.eq_or_lt_of_le ht with rfl | hlt
  · exact at_m _ i rfl hi him hun hr
  · obtain ⟨_, ot, hot, hall⟩ := mem_ready.1 hr
    have hts : t < ops.size := (Array.getElem?_eq_some_iff.1 hot).1
    have h1 := List.all_eq_true.1 hc t (List.mem_range.2 hts)
    rw [decide_eq_false (by omega : ¬ t ≤ m), Bool.false_or] at h1
    obtain ⟨o', ho', e, he, hb, hon⟩ := Region.waitsFor_spec h1
    rw [hot] at ho'
    cases ho'
    have := hall e he hb
    rw [hon, getD_both (inv.tail (t - 1) (by omega) (by omega))] at this
    cases this

/-- The first operation is late: it may come up ahead of the one at place m, or behind it. -/
theorem any_late {Q : Exit → Act → World → Prop} {o0 om : Oper} {v : Value} {g : Nat} {rest : List Oper} (h0 : ops[0]? = some o0) (hom : ops[m]? = some om) (h0m : 0 < m)
    (hsel : ∀ (j : Nat) (o : Oper) cs b, ops[j]? = some o → o.op ≠ .select cs b) (hwt : g = 0 ∨ Region.waitsFor md ops (m + 1) 0 = true)
    (hrest : ∀ j, rest[j]? = ops[m + 1 + j]?) (hrl : rest.length = g)
    (Lq : Act → Prop) (hLq : ∀ a', Lq a' → Region.wanted om (yielded ops a'.tmps) = true ∧ ∃ vm, (∀ w', C w' → ∃ w2, (execOp a'.eval om).run P w' = .ok (.value vm) w2 ∧ C2 w2) ∧ ∀ w2, C2 w2 → wpList P ops Q rest (a'.put om.dst vm) w2) :
    ∀ (f : Nat) (listed : Array Bool) (a : Act) (w : World),
      (∀ j oj, ops[j]? = some oj → j ≠ 0 → listed.getD j true = false → (∀ e ∈ oj.after, Region.binds md e = true → e.on ≠ 0) → o0.apart ops oj = true) →
      0 ∈ Region.ready md ops listed → YieldsIn P ops C o0 v a → YieldsIn P ops C2 o0 v a → C w →
      headQ P md ops C m (fun listed' a' => Region.seqB md ops (g + 1) m listed' = true ∧ Lq a') f (listed.setIfInBounds 0 true) (a.put o0.dst v) →
      wpAny P md ops Q (f + (g + 1) + 1) listed a w := by
  have fin : ∀ listed a w, C w → (Region.seqB md ops (g + 1) m listed = true ∧ Lq a) → wpAny P md ops Q (g + 1) listed a w := by
    intro listed a w hC ⟨hs, hL⟩
    obtain ⟨hw, vm, h1, h2⟩ := hLq a hL
    obtain ⟨w2, hrun, hC2⟩ := h1 w hC
    have := wpAny_of_seq (md := md) (P := P) (Q' := Q) (ops := ops) (om :: rest) m listed a w (fun j => by
      cases j with
      | zero => simpa using hom.symm
      | succ j => have := hrest j; simpa [Nat.add_assoc, Nat.add_comm 1 j] using this) (by simpa [hrl] using hs) (by
      simp only [wpList, hw, if_true]
      refine .inl ?_
      unfold Oper.wp
      rw [hrun]
      exact h2 w2 hC2)
    simpa [hrl] using this
  intro f
  induction f with
  | zero =>
    intro listed a w hfree hr hy1 hy2 hC H
    have hun := (mem_ready.1 hr).1
    refine ⟨fun h => (by rw [h] at hr; cases hr), fun j hj => ?_⟩
    rw [show 0 + (g + 1) = g + 1 from Nat.zero_add _]
    by_cases hj0 : j = 0
    · subst hj0
      exact wpOp_of_qOp hC (fun a' w' hC' hK => fin _ a' w' hC' hK) (hy1.qOp h0 H)
    · have hj' := ready_mono hj hj0
      have hs := H.1
      simp only [Region.seqB, Bool.and_eq_true, decide_eq_true_eq] at hs
      rw [hs.1] at hj'
      obtain rfl : j = m := by simpa using hj'
      obtain ⟨hjun, oj, hoj, hall⟩ := mem_ready.1 hj
      obtain rfl : oj = om := Option.some.inj (hoj.symm.trans hom)
      have hnot : ∀ e ∈ oj.after, Region.binds md e = true → e.on ≠ 0 := fun e he hb heq => by
        have h1 := hall e he hb
        rw [heq, getD_both hun] at h1
        cases h1
      obtain ⟨ap1, ap2, ap3⟩ := Oper.apart_spec (hfree j oj hoj hj0 hjun hnot)
      obtain ⟨hw, vm, hx1, hx2⟩ := hLq _ H.2
      obtain ⟨w2, hrun, hC2⟩ := hx1 w hC
      rw [wanted_put oj a o0.dst v ap1] at hw
      rw [execOp_put oj (fun cs b => hsel j oj cs b hoj) a o0.dst v ap1] at hrun
      have hyk : YieldsIn P ops C2 o0 v (a.put oj.dst vm) := hy2.of_same (execOp_put o0 (fun cs b => hsel 0 o0 cs b h0) a oj.dst vm ap3) (wanted_put o0 a oj.dst vm ap3)
      unfold wpOp
      simp only [hoj, hw, if_true]
      refine .inl ?_
      unfold Oper.wp
      rw [hrun]
      have hr2 : 0 ∈ Region.ready md ops (listed.setIfInBounds j true) := ready_mono hr (Ne.symm hj0)
      show wpAny P md ops Q (g + 1) (listed.setIfInBounds j true) (a.put oj.dst vm) w2
      refine ⟨fun h => (by rw [h] at hr2; cases hr2), fun k hk => ?_⟩
      have hk0 : k = 0 := by
        rcases Nat.eq_zero_or_pos k with h | hkp
        · exact h
        · exfalso
          have hk' := ready_mono hk (Nat.ne_of_gt hkp)
          rw [Array.setIfInBounds_comm _ _ hj0] at hk'
          have hs2 := hs.2
          cases g with
          | zero => simp only [Region.seqB, List.isEmpty_iff] at hs2; rw [hs2] at hk'; cases hk'
          | succ g =>
            simp only [Region.seqB, Bool.and_eq_true, decide_eq_true_eq] at hs2
            rw [hs2.1] at hk'
            obtain rfl : k = j + 1 := by simpa using hk'
            rcases hwt with h | h
            · omega
            · obtain ⟨ok, hok, e, he, hb, hon⟩ := Region.waitsFor_spec h
              obtain ⟨_, ok', hok', hall'⟩ := mem_ready.1 hk
              have : ok = ok' := Option.some.inj (hok.symm.trans hok')
              subst this
              have h1 := hall' e he hb
              rw [hon, getD_both (mem_ready.1 hr2).1] at h1
              cases h1
      subst hk0
      refine wpOp_of_qOp (C := C2) hC2 (fun a' w' hC' hK => hK w' hC') (hyk.qOp h0 (K := fun a' => ∀ w', C2 w' → wpAny P md ops Q g ((listed.setIfInBounds j true).setIfInBounds 0 true) a' w') ?_)
      intro w3 hC3
      rw [Array.setIfInBounds_comm _ _ hj0]
      rw [← Act.put_comm a v vm ap2]
      have := wpAny_of_seq (md := md) (P := P) (Q' := Q) (ops := ops) rest (j + 1) ((listed.setIfInBounds 0 true).setIfInBounds j true) ((a.put o0.dst v).put oj.dst vm) w3 hrest (by rw [hrl]; exact hs.2) (hx2 w3 hC3)
      rwa [hrl] at this
  | succ f ih =>
    intro listed a w hfree hr hy1 hy2 hC H
    have hun := (mem_ready.1 hr).1
    refine ⟨fun h => (by rw [h] at hr; cases hr), fun j hj => ?_⟩
    by_cases hj0 : j = 0
    · subst hj0
      refine wpOp_of_qOp hC (fun a' w' hC' hK => ?_) (hy1.qOp h0 H)
      exact any_of_headQ (fun listed a w hC h => fin listed a w hC h) (f + 1) _ a' w' hC' hK
    · obtain ⟨hjm, hq⟩ := H.2 j (ready_mono hj hj0)
      obtain ⟨hjun, oj, hoj, hall⟩ := mem_ready.1 hj
      have hnot : ∀ e ∈ oj.after, Region.binds md e = true → e.on ≠ 0 := fun e he hb heq => by
        have h1 := hall e he hb
        rw [heq, getD_both hun] at h1
        cases h1
      obtain ⟨ap1, ap2, ap3⟩ := Oper.apart_spec (hfree j oj hoj hj0 hjun hnot)
      obtain ⟨u, hyj, hK⟩ := yieldsIn_of_qOp hoj hq
      have hyj' : YieldsIn P ops C oj u a := hyj.of_same (execOp_put oj (fun cs b => hsel j oj cs b hoj) a o0.dst v ap1).symm (wanted_put oj a o0.dst v ap1).symm
      have k1 : YieldsIn P ops C o0 v (a.put oj.dst u) := hy1.of_same (execOp_put o0 (fun cs b => hsel 0 o0 cs b h0) a oj.dst u ap3) (wanted_put o0 a oj.dst u ap3)
      have k2 : YieldsIn P ops C2 o0 v (a.put oj.dst u) := hy2.of_same (execOp_put o0 (fun cs b => hsel 0 o0 cs b h0) a oj.dst u ap3) (wanted_put o0 a oj.dst u ap3)
      refine wpOp_of_qOp hC (fun a' w' hC' (e : a' = a.put oj.dst u) => ?_) (hyj'.qOp hoj (K := fun a' => a' = a.put oj.dst u) rfl)
      subst e
      rw [show f + 1 + (g + 1) = f + (g + 1) + 1 by omega]
      refine ih (listed.setIfInBounds j true) _ w' (fun k ok hk hki hunk hno => hfree k ok hk hki ?_ hno) (ready_mono hr (Ne.symm hj0)) k1 k2 hC' ?_
      · by_cases hjk : j = k
        · subst hjk; exact hjun
        · rw [getD_set_ne true hjk] at hunk; exact hunk
      · rw [Array.setIfInBounds_comm _ _ hj0, ← Act.put_comm a v u ap2]; exact hK
end

/-- The region's form: the first operation late, those up to place m quiet, then one forced order. -/
def lateB (ops : Array Oper) (m : Nat) : Bool :=
  Region.noSelect ops && decide (0 < m) && decide (m < ops.size) && sink1B .any ops m && Region.chainB .any ops m && (decide (ops.size = m + 1) || Region.waitsFor .any ops (m + 1) 0) && Region.lexHead .any ops (ops.size - m) m 0 (Array.replicate ops.size false)

theorem any_late_region {P : Program} {Q : Exit → Act → World → Prop} {a : Act} {w : World} {o0 om : Oper} {l1 l2 : List Oper} (v vm : Value) (ob : Obj) (hB : lateB (o0 :: l1 ++ om :: l2).toArray (l1.length + 1) = true)
    (hw0 : Region.wanted o0 (yielded (o0 :: l1 ++ om :: l2).toArray a.tmps) = true) (h1 : ∀ k, o0.quietAt P a (fun w' => ∃ n, w' = w.drewN n) (w.drewN k) v) (h2 : ∀ k, o0.quietAt P a (fun w' => ∃ n, w' = (w.drewN n).alloc ob) ((w.drewN k).alloc ob) v)
    (h : wpQuiet P (o0 :: l1 ++ om :: l2).toArray (fun w' => ∃ n, w' = w.drewN n) (fun a' => Region.wanted om (yielded (o0 :: l1 ++ om :: l2).toArray a'.tmps) = true ∧ (∀ k, (execOp a'.eval om).run P (w.drewN k) = .ok (.value vm) ((w.drewN k).alloc ob)) ∧ ∀ k, wpList P (o0 :: l1 ++ om :: l2).toArray Q l2 (a'.put om.dst vm) ((w.drewN k).alloc ob)) l1 (a.put o0.dst v)) :
    wpAny P .any (o0 :: l1 ++ om :: l2).toArray Q (o0 :: l1 ++ om :: l2).toArray.size (Array.replicate (o0 :: l1 ++ om :: l2).toArray.size false) a (w.drewN 1) := by
  obtain ⟨ops, hops⟩ : ∃ ops, ops = (o0 :: l1 ++ om :: l2).toArray := ⟨_, rfl⟩
  rw [← hops] at hB hw0 h ⊢
  simp only [lateB, Bool.and_eq_true, decide_eq_true_eq, Bool.or_eq_true] at hB
  obtain ⟨⟨⟨⟨⟨⟨hsel, h0m⟩, hm⟩, hs⟩, hc⟩, hwt⟩, hlex⟩ := hB
  have hsz : ops.size = l1.length + 1 + (l2.length + 1) := by rw [hops]; simp; omega
  have e0 : ops[0]? = some o0 := by rw [hops]; rfl
  have em : ops[l1.length + 1]? = some om := by rw [hops]; simp
  have el1 : ∀ j, j < l1.length → l1[j]? = ops[1 + j]? := by
    intro j hj
    rw [hops, Nat.add_comm 1 j, List.getElem?_toArray, List.cons_append, List.getElem?_cons_succ, List.getElem?_append_left hj]
  have el2 : ∀ j, l2[j]? = ops[l1.length + 1 + 1 + j]? := by
    intro j
    rw [hops, show l1.length + 1 + 1 + j = (l1.length + (j + 1)) + 1 by omega, List.getElem?_toArray, List.cons_append, List.getElem?_cons_succ, List.getElem?_append_right (by omega), Nat.add_sub_cancel_left, List.getElem?_cons_succ]
  have inv0 : HeadInv .any ops (l1.length + 1) (Array.replicate ops.size false) :=
    ⟨by simp, fun j oj _ hl => (by rw [getD_replicate_false] at hl; cases hl), fun t _ ht => getD_in (by simpa using ht) (getD_replicate_false _ _)⟩
  simp only [Region.lexHead, Bool.and_eq_true] at hlex
  obtain ⟨⟨hr, hf⟩, hlex'⟩ := hlex
  have hr' : 0 ∈ Region.ready .any ops (Array.replicate ops.size false) := by simpa using hr
  have H := headQ_lex (P := P) (C := fun w' => ∃ n, w' = w.drewN n) (md := .any) (g := ops.size - (l1.length + 1)) (k0 := 1) hsel (waits_late hs hc) l1 1 _ _ (Nat.le_refl _) el1 (by omega) (inv0.set hr' h0m) hlex' h
  rw [show ops.size - (l1.length + 1) = l2.length + 1 by omega] at H
  have := any_late (P := P) (md := .any) (C := fun w' => ∃ n, w' = w.drewN n) (C2 := fun w' => ∃ n, w' = (w.drewN n).alloc ob) (Q := Q) (v := v) (g := l2.length) (rest := l2) e0 em h0m (Region.noSelect_spec hsel) (hwt.imp (fun h => by omega) id) el2 rfl _
    (fun a' ⟨hw, hx, hy⟩ => ⟨hw, vm, fun w' ⟨k, e⟩ => ⟨_, by rw [e]; exact hx k, k, rfl⟩, fun w2 ⟨k, e⟩ => by rw [e]; exact hy k⟩)
    l1.length _ a (w.drewN 1) (Region.free_spec e0 hf) hr' (.inl ⟨hw0, fun w' ⟨k, e⟩ => by rw [e]; exact h1 k⟩) (.inl ⟨hw0, fun w' ⟨k, e⟩ => by rw [e]; exact h2 k⟩) ⟨1, rfl⟩ H
  have hsz' : ops.size = l1.length + (l2.length + 1) + 1 := by omega
  rw [hsz']
  rw [hsz'] at this
  exact this

theorem region_late {P : Program} {id : Nat} {Q : Exit → Act → World → Prop} {a : Act} {w : World} {o0 om : Oper} {l1 l2 : List Oper} (v vm : Value) (ob : Obj) (hm : P.follows .mixedOrders = true) (hB : lateB (o0 :: l1 ++ om :: l2).toArray (l1.length + 1) = true)
    (hw0 : Region.wanted o0 (yielded (o0 :: l1 ++ om :: l2).toArray a.tmps) = true) (h1 : ∀ k, o0.quietAt P a (fun w' => ∃ n, w' = w.drewN n) (w.drewN k) v) (h2 : ∀ k, o0.quietAt P a (fun w' => ∃ n, w' = (w.drewN n).alloc ob) ((w.drewN k).alloc ob) v)
    (h : wpQuiet P (o0 :: l1 ++ om :: l2).toArray (fun w' => ∃ n, w' = w.drewN n) (fun a' => Region.wanted om (yielded (o0 :: l1 ++ om :: l2).toArray a'.tmps) = true ∧ (∀ k, (execOp a'.eval om).run P (w.drewN k) = .ok (.value vm) ((w.drewN k).alloc ob)) ∧ ∀ k, wpList P (o0 :: l1 ++ om :: l2).toArray Q l2 (a'.put om.dst vm) ((w.drewN k).alloc ob)) l1 (a.put o0.dst v)) :
    (Code.region id (o0 :: l1 ++ om :: l2).toArray true).wp P Q a w := wp_region_any hm (any_late_region v vm ob hB hw0 h1 h2 h)

theorem regionIn_late {P : Program} {id n r : Nat} {Q : Exit → Act → World → Prop} {a : Act} {w : World} {o0 om : Oper} {l1 l2 : List Oper} (v vm : Value) (ob : Obj) (hm : P.follows .mixedOrders = true) (hB : lateB (o0 :: l1 ++ om :: l2).toArray (l1.length + 1) = true)
    (hd : noDefer (o0 :: l1 ++ om :: l2) = true) (hQ : ¬ LetsOut Q)
    (hw0 : Region.wanted o0 (yielded (o0 :: l1 ++ om :: l2).toArray a.tmps) = true) (h1 : ∀ k, o0.quietAt P a (fun w' => ∃ n, w' = w.drewN n) (w.drewN k) v) (h2 : ∀ k, o0.quietAt P a (fun w' => ∃ n, w' = (w.drewN n).alloc ob) ((w.drewN k).alloc ob) v)
    (h : wpQuiet P (o0 :: l1 ++ om :: l2).toArray (fun w' => ∃ n, w' = w.drewN n) (fun a' => Region.wanted om (yielded (o0 :: l1 ++ om :: l2).toArray a'.tmps) = true ∧ (∀ k, (execOp a'.eval om).run P (w.drewN k) = .ok (.value vm) ((w.drewN k).alloc ob)) ∧ ∀ k, wpList P (o0 :: l1 ++ om :: l2).toArray Q l2 (a'.put om.dst vm) ((w.drewN k).alloc ob)) l1 (a.put o0.dst v)) :
    (Code.region id (o0 :: l1 ++ om :: l2).toArray true).wpIn (Fence.wide.inRound r) n P Q a w := wpIn_region_any hm (anyIn_of_any (noDefer_spec hd) hQ _ _ _ _ (any_late_region v vm ob hB hw0 h1 h2 h))

end Go.Proofs.YtmcnamlgbkbiaaaDoor
