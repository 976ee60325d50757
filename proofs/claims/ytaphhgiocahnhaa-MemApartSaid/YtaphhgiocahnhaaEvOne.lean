/-
  Events: one as a value, and as a block of its own; two compared; events put behind a row of events that the call made for itself; two slices of events compared.
-/
import Derived.Test.YtaphhgiocahnhaaEvent
import Derived.Test.YtaphhgiocahnhaaQuietTail
import Derived.Laws.Rows
import Derived.Laws.StructEq
namespace Go.Proofs.Ytaphhgiocahnhaa
open Go.RowKit

/-- An event as a value. -/
def evV (s : Ev) : Value := .agg #[.int .i64 s.it, .int .i64 s.tr, .int .i64 s.wn, .int .i64 s.tk, .int .i64 s.ad, .int .u64 s.msk]
/-- An event as a block. -/
def evO (s : Ev) : Obj := .cells #[.int .i64 s.it, .int .i64 s.tr, .int .i64 s.wn, .int .i64 s.tk, .int .i64 s.ad, .int .u64 s.msk] 47

theorem evc_len (s : Ev) : (evc s).length = 6 := rfl
theorem evc_one (s : Ev) : ∀ v ∈ evc s, v.oneCell' = true := by
  intro v hv
  simp [evc] at hv
  rcases hv with rfl | rfl | rfl | rfl | rfl | rfl <;> rfl

/-! Two slices of events are the same. -/
theorem ev_guard : Try.prog.eqGuardType Try.prog.depth 47 = false := by kernel_rfl

theorem ev_held : Try.prog.stoodInHeld 47 = false := by kernel_rfl

theorem eql_ev (s t : Ev) (w : World) : (binOp .eql 47 (evV s) (evV t)).run Try.prog w = .ok (.bool (decide (s = t))) w := by
  obtain ⟨a, b, c, d, e, f⟩ := s
  obtain ⟨a', b', c', d', e', f'⟩ := t
  unfold evV
  rw [run_eql_struct, run_equalIn_struct w 9999 _ _ _ (by simp [Program.fieldsOf, Try.underlying47]) ev_held]
  simp [Program.fieldsOf, Try.underlying47, Op.eqFields, go_sem]
  by_cases h1 : a = a' <;> by_cases h2 : b = b' <;> by_cases h3 : c = c' <;> by_cases h4 : d = d' <;> by_cases h5 : e = e' <;> by_cases h6 : f = f' <;> simp [h1, h2, h3, h4, h5, h6]

theorem neq_ev (s t : Ev) (w : World) : (binOp .neq 47 (evV s) (evV t)).run Try.prog w = .ok (.bool (!decide (s = t))) w := by
  obtain ⟨a, b, c, d, e, f⟩ := s
  obtain ⟨a', b', c', d', e', f'⟩ := t
  unfold evV
  rw [run_neq_struct, run_equalIn_struct w 9999 _ _ _ (by simp [Program.fieldsOf, Try.underlying47]) ev_held]
  simp [Program.fieldsOf, Try.underlying47, Op.eqFields, go_sem]
  by_cases h1 : a = a' <;> by_cases h2 : b = b' <;> by_cases h3 : c = c' <;> by_cases h4 : d = d' <;> by_cases h5 : e = e' <;> by_cases h6 : f = f' <;> simp [h1, h2, h3, h4, h5, h6]

theorem cell_ev_new (w : World) (s : Ev) (t : TypeId) : ∀ j u, (evc s)[j]? = some u → (w.alloc (.cells #[.int .i64 s.it, .int .i64 s.tr, .int .i64 s.wn, .int .i64 s.tk, .int .i64 s.ad, .int .u64 s.msk] t)).cell? ((⟨w.heap.size, 0, none⟩ : Addr).add j) = some u := by
  intro j u hj
  match j, hj with
  | 0, hj => simp [evc] at hj; subst hj; simp [Addr.add]
  | 1, hj => simp [evc] at hj; subst hj; simp [Addr.add]
  | 2, hj => simp [evc] at hj; subst hj; simp [Addr.add]
  | 3, hj => simp [evc] at hj; subst hj; simp [Addr.add]
  | 4, hj => simp [evc] at hj; subst hj; simp [Addr.add]
  | 5, hj => simp [evc] at hj; subst hj; simp [Addr.add]
  | n + 6, hj => simp [evc] at hj

/-- A slice of events that is handed to append as its source: nil, or with an address at which they lie. -/
def SrcE (w : World) (x : Option Addr) (n cap : Nat) (es : List Ev) : Prop :=
  es.length = n ∧ ((x = none ∧ n = 0 ∧ cap = 0) ∨ ∃ ad, x = some ad ∧ ∀ j u, (es.flatMap evc)[j]? = some u → w.cell? (ad.add j) = some u)
theorem flat_at {es : List Ev} {j : Nat} {u : Value} (h : (es.flatMap evc)[j]? = some u) : j / 6 < es.length ∧ (evc (es.getD (j / 6) noEv))[j % 6]? = some u := by
  have hj : j < (es.flatMap evc).length := (List.getElem?_eq_some_iff.1 h).1
  rw [flatE_len] at hj
  have h1 := flatE_get es (j / 6) (by omega) (j % 6) (by omega)
  rw [show j / 6 * 6 + j % 6 = j by omega, h] at h1
  exact ⟨by omega, h1.symm⟩
theorem EvAt.get {w : World} {b o : Nat} {s : Ev} (h : EvAt w b o s) {c : Nat} {u : Value} (hu : (evc s)[c]? = some u) : w.cell? ⟨b, o + c, none⟩ = some u := by
  obtain ⟨h0, h1, h2, h3, h4, h5⟩ := h
  match c, hu with
  | 0, hu => simp [evc] at hu; subst hu; exact h0
  | 1, hu => simp [evc] at hu; subst hu; exact h1
  | 2, hu => simp [evc] at hu; subst hu; exact h2
  | 3, hu => simp [evc] at hu; subst hu; exact h3
  | 4, hu => simp [evc] at hu; subst hu; exact h4
  | 5, hu => simp [evc] at hu; subst hu; exact h5
  | n + 6, hu => simp [evc] at hu
theorem ReadsE.src {w : World} {B : Nat} {x : Option Addr} {n cap : Nat} {es : List Ev} (h : ReadsE w B x es) (hn : es.length = n) (hx : x = none → n = 0 ∧ cap = 0) : SrcE w x n cap es := by
  refine ⟨hn, ?_⟩
  cases x with
  | none => exact .inl ⟨rfl, (hx rfl).1, (hx rfl).2⟩
  | some ad =>
    refine .inr ⟨ad, rfl, fun j u hu => ?_⟩
    obtain ⟨h1, h2⟩ := flat_at hu
    obtain ⟨b, off, e, hb, hc⟩ := h (by omega)
    cases e
    have := (hc (j / 6) h1).get h2
    rw [show off + j / 6 * 6 + j % 6 = off + j by omega] at this
    rw [Addr.add_lit]
    exact this
theorem EventIn.src {w : World} {x : Option Addr} {len cap : Nat} {es : List Ev} (h : EventIn w x len cap es) : SrcE w x len cap es := h.2.2.2.1.src h.1 h.2.1.2
theorem SrcE.keep {w w' : World} {x : Option Addr} {n cap : Nat} {es : List Ev} (h : SrcE w x n cap es) (hb : Below w.heap.size w w') : SrcE w' x n cap es := by
  refine ⟨h.1, h.2.imp id fun ⟨ad, e, hc⟩ => ⟨ad, e, fun j u hu => ?_⟩⟩
  have h1 := hc j u hu
  rw [hb.cell (World.block_lt_of_cell? _ _ h1)]
  exact h1
theorem SrcE.one (w : World) (s : Ev) : SrcE (w.alloc (evO s)) (some ⟨w.heap.size, 0, none⟩) 1 1 [s] := by
  refine ⟨rfl, .inr ⟨_, rfl, fun j u hu => ?_⟩⟩
  exact cell_ev_new w s 47 j u (by simpa using hu)
theorem one_evc (es : List Ev) : ∀ u ∈ es.flatMap evc, u.oneCell' = true := by
  intro u hu
  obtain ⟨s, _, h⟩ := List.mem_flatMap.1 hu
  exact evc_one s u h

/-- append(xs, ys...), xs a row of the call's own. -/
theorem wpList_append_ev {w : World} {ops : Array Oper} {rest : List Oper} {o : Oper} {a : Act} {Q : Exit → Act → World → Prop} (hgd : o.guard = none) (s x : Operand)
    (ho : o.op = .call { callee := .builtin .append, args := #[s, x], argTypes := #[22, 22] }) (base : Nat)
    (v : Value) (es : List Ev) (hs : a.eval s = v) (hown : OwnsE w base v es) (xo : Option Addr) (n cap : Nat) (ys : List Ev) (hx : a.eval x = .slice xo n cap) (hsrc : SrcE w xo n cap ys) (hb : es.length + n ≤ 1000000) (hbase : base ≤ w.heap.size)
    (h : ∀ v' w', OwnsE w' base v' (es ++ ys) → w.grownBy w' v.ownBlock → wpList Try.prog ops Q rest (a.put o.dst v') w') : wpList Try.prog ops Q (o :: rest) a w := by
  obtain ⟨i0, hi, hz0, hz1, hz2⟩ := info_parts info_ev
  obtain ⟨rfl, ⟨rfl, h0, rfl⟩ | ⟨ad, rfl, hc⟩⟩ := hsrc
  · obtain rfl : ys = [] := List.length_eq_zero_iff.1 h0
    exact wpList_append_own_none hgd s x _ ho base 47 i0 6 Try.underlying22 hi v _ _ hs hown hx (h _ _ (by rw [List.append_nil]; exact hown) ⟨rfl, rfl, rfl, Nat.le_refl _, fun _ _ _ => rfl⟩)
  · refine wpList_append_own w hgd s x _ ho base 47 i0 (.agg #[.int .i64 0, .int .i64 0, .int .i64 0, .int .i64 0, .int .i64 0, .int .u64 0]) 6 48 Try.underlying22 hi hz0 hz1 hz2 rfl (by decide) v es.length (es.flatMap evc) hs hown ad ys.length cap (ys.flatMap evc) hx (flatE_len ys) hc (one_evc ys) (by unfold maxLen; omega) (by omega) hbase ?_
    intro v' w' hown' hg _
    refine h v' w' ?_ hg
    unfold OwnsE
    rw [List.length_append, List.flatMap_append]
    exact hown'

end Go.Proofs.Ytaphhgiocahnhaa
