/-
  Plain mathematics of the events of a window: each goes behind all those whose tick is not greater; that is the one list in order that keeps of each tick those that have it as they stood.
-/
import Derived.Test.YtbdcpjpdonednaaMathStable
import Derived.Test.YtbdcpjpdonednaaMathSparse
namespace Go.Proofs.Ytbdcpjpdonednaa

/-- Where x goes in, looked for from place n down. -/
def posD (out : List Ev) (x : Ev) : Nat → Nat
  | 0 => 0
  | n + 1 => if x.tk < (out.getD n noEv).tk then posD out x n else n + 1
theorem posD_le (out : List Ev) (x : Ev) : ∀ n, posD out x n ≤ n
  | 0 => Nat.le_refl _
  | n + 1 => by
    unfold posD
    split
    · have := posD_le out x n; omega
    · exact Nat.le_refl _
theorem posD_up (out : List Ev) (x : Ev) : ∀ n j, posD out x n ≤ j → j < n → x.tk < (out.getD j noEv).tk
  | 0, j, _, h => by omega
  | n + 1, j, h1, h2 => by
    unfold posD at h1
    split at h1
    · rename_i h
      by_cases c : j = n
      · subst c; exact h
      · exact posD_up out x n j h1 (by omega)
    · omega
theorem posD_at (out : List Ev) (x : Ev) : ∀ n, 0 < posD out x n → (out.getD (posD out x n - 1) noEv).tk ≤ x.tk
  | 0, h => by simp [posD] at h
  | n + 1, h => by
    unfold posD at h ⊢
    split
    · rename_i hc
      rw [if_pos hc] at h
      exact posD_at out x n h
    · rename_i hc
      simp only [Nat.add_sub_cancel]
      omega

def pos (out : List Ev) (x : Ev) : Nat := posD out x out.length
def putE (out : List Ev) (x : Ev) : List Ev := out.take (pos out x) ++ x :: out.drop (pos out x)
theorem pos_le (out : List Ev) (x : Ev) : pos out x ≤ out.length := posD_le _ _ _
theorem putE_perm (out : List Ev) (x : Ev) : (putE out x).Perm (x :: out) := by
  have := List.perm_middle (a := x) (l₁ := out.take (pos out x)) (l₂ := out.drop (pos out x))
  rwa [List.take_append_drop] at this
theorem mem_drop_pos {out : List Ev} {x s : Ev} (h : s ∈ out.drop (pos out x)) : x.tk < s.tk := by
  obtain ⟨i, hi, rfl⟩ := List.getElem_of_mem h
  rw [List.getElem_drop]
  have hi' : pos out x + i < out.length := by simp at hi; omega
  have := posD_up out x out.length (pos out x + i) (Nat.le_add_right _ _) hi'
  rwa [List.getD_eq_getElem?_getD, List.getElem?_eq_getElem hi'] at this
theorem mem_take_pos {out : List Ev} {x s : Ev} (hs : SrtL out) (h : s ∈ out.take (pos out x)) : s.tk ≤ x.tk := by
  obtain ⟨i, hi, rfl⟩ := List.getElem_of_mem h
  rw [List.getElem_take]
  have hl := pos_le out x
  have hi' : i < pos out x := by simp at hi; omega
  have h1 := posD_at out x out.length (by show 0 < pos out x; omega)
  have hp : pos out x - 1 < out.length := by omega
  have e : out.getD (posD out x out.length - 1) noEv = out[pos out x - 1] := by
    show out.getD (pos out x - 1) noEv = _
    rw [List.getD_eq_getElem?_getD, List.getElem?_eq_getElem hp]; rfl
  rw [e] at h1
  by_cases c : i = pos out x - 1
  · subst c; exact h1
  · have := (List.pairwise_iff_getElem.1 hs) i (pos out x - 1) (by omega) hp (by omega)
    omega
theorem putE_srt {out : List Ev} (x : Ev) (hs : SrtL out) : SrtL (putE out x) := by
  unfold putE SrtL
  rw [List.pairwise_append, List.pairwise_cons]
  refine ⟨hs.sublist (List.take_sublist _ _), ⟨fun s h => by have := mem_drop_pos h; omega, hs.sublist (List.drop_sublist _ _)⟩, fun s h t h' => ?_⟩
  have h1 := mem_take_pos hs h
  rcases List.mem_cons.1 h' with rfl | h''
  · exact h1
  · have := mem_drop_pos h''; omega
theorem putE_tks (t : Int) (out : List Ev) (x : Ev) : tks t (putE out x) = tks t (out ++ [x]) := by
  have e : out ++ [x] = out.take (pos out x) ++ (out.drop (pos out x) ++ [x]) := by rw [← List.append_assoc, List.take_append_drop]
  rw [e]
  unfold putE
  rw [tks_append, tks_append]
  congr 1
  have := tks_swap t (A := [x]) (B := out.drop (pos out x)) (fun s hs u hu => by simp at hs; subst hs; have := mem_drop_pos hu; omega)
  exact this

/-- The events put in one by one. -/
def stl (es : List Ev) : List Ev := es.foldl putE []
theorem stl_snoc (es : List Ev) (x : Ev) : stl (es ++ [x]) = putE (stl es) x := by unfold stl; rw [List.foldl_append]; rfl
theorem foldl_putE_perm (es : List Ev) : ∀ out, (es.foldl putE out).Perm (out ++ es) := by
  induction es with
  | nil => intro out; simp
  | cons x es ih =>
    intro out
    refine (ih (putE out x)).trans ?_
    refine ((putE_perm out x).append_right es).trans ?_
    exact List.perm_middle.symm
theorem stl_perm (es : List Ev) : (stl es).Perm es := by simpa [stl] using foldl_putE_perm es []
theorem stl_len (es : List Ev) : (stl es).length = es.length := (stl_perm es).length_eq
theorem foldl_putE_srt (es : List Ev) : ∀ out, SrtL out → SrtL (es.foldl putE out) := by
  induction es with
  | nil => intro out h; exact h
  | cons x es ih => intro out h; exact ih _ (putE_srt x h)
theorem stl_srt (es : List Ev) : SrtL (stl es) := foldl_putE_srt es [] List.Pairwise.nil
theorem foldl_putE_tks (t : Int) (es : List Ev) : ∀ out, tks t (es.foldl putE out) = tks t (out ++ es) := by
  induction es with
  | nil => intro out; simp
  | cons x es ih =>
    intro out
    refine (ih (putE out x)).trans ?_
    rw [tks_append, putE_tks, ← tks_append]
    simp
theorem stl_tks (t : Int) (es : List Ev) : tks t (stl es) = tks t es := by simpa [stl] using foldl_putE_tks t es []
theorem stl_one {es es' : List Ev} (hs : SrtL es') (ht : ∀ t, tks t es' = tks t es) : es' = stl es := one_list _ _ hs (stl_srt es) fun t => (ht t).trans (stl_tks t es).symm

/-- Whether an event is of that window. -/
def inW (a b c : Int) (s : Ev) : Bool := (s.it == a && s.tr == b) && s.wn == c
def own (es : List Ev) (a b c : Int) : List Ev := es.filter (inW a b c)
def ofW (es : List Ev) (a b c : Int) : List Ev := stl (own es a b c)
theorem own_snoc (es : List Ev) (x : Ev) (a b c : Int) : own (es ++ [x]) a b c = if inW a b c x = true then own es a b c ++ [x] else own es a b c := by
  unfold own
  rw [List.filter_append]
  by_cases h : inW a b c x = true
  · rw [if_pos h]; simp [h]
  · rw [if_neg h]; simp [h]
theorem own_len (es : List Ev) (a b c : Int) : (own es a b c).length ≤ es.length := List.length_filter_le _ _
theorem own_ok {es : List Ev} (h : EvsOk es) (a b c : Int) : EvsOk (own es a b c) := fun s hs => h s (List.mem_filter.1 hs).1
theorem stl_ok {es : List Ev} (h : EvsOk es) : EvsOk (stl es) := fun s hs => h s ((stl_perm es).mem_iff.1 hs)
theorem ofW_ok {es : List Ev} (h : EvsOk es) (a b c : Int) : EvsOk (ofW es a b c) := stl_ok (own_ok h a b c)
theorem ofW_len (es : List Ev) (a b c : Int) : (ofW es a b c).length = (own es a b c).length := stl_len _
theorem ofW_perm (es : List Ev) (a b c : Int) : (ofW es a b c).Perm (own es a b c) := stl_perm _

end Go.Proofs.Ytbdcpjpdonednaa
