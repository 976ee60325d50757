/-
  Plain mathematics of sparse events and their windows: each window has one at the most, and none beside one; without one of them they are sparse as well; with one of them twice they are not.
-/
import Derived.Test.YtbdcpjpdonednaaMathOf
namespace Go.Proofs.Ytbdcpjpdonednaa

theorem sparse_apart : ∀ {es : List Ev}, Sparse es → ∀ {x y : Ev}, x ∈ es → y ∈ es → near x y = true → x = y
  | [], _, _, _, hx, _, _ => by cases hx
  | s :: es, h, x, y, hx, hy, hn => by
    obtain ⟨h1, h2⟩ := List.pairwise_cons.1 h
    rcases List.mem_cons.1 hx with rfl | hx'
    · rcases List.mem_cons.1 hy with rfl | hy'
      · rfl
      · rw [h1 y hy'] at hn; cases hn
    · rcases List.mem_cons.1 hy with rfl | hy'
      · rw [near_comm, h1 x hx'] at hn; cases hn
      · exact sparse_apart h2 hx' hy' hn
theorem sparse_twice {es : List Ev} {u : Ev} (h : u ∈ es) : sparse (es ++ [u]) = false := by
  refine sparse_no fun hs => ?_
  have := (List.pairwise_append.1 hs).2.2 u h u (by simp)
  rw [near_self] at this
  cases this
theorem sparse_less {es : List Ev} (k : Nat) (h : sparse es = true) : sparse (es.take k ++ es.drop (k + 1)) = true := by
  refine sparse_iff.2 ((sparse_iff.1 h).sublist ?_)
  have : es.take k ++ es.drop (k + 1) = es.take k ++ (es.drop k).drop 1 := by rw [List.drop_drop]
  rw [this]
  conv => rhs; rw [← List.take_append_drop k es]
  exact (List.Sublist.refl _).append (List.drop_sublist _ _)
theorem near_win {a b : Int} {x y : Ev} (hx : x.it = a ∧ x.tr = b) (hy : y.it = a ∧ y.tr = b) (h : x.wn - y.wn < 2) (h' : y.wn - x.wn < 2) : near x y = true := by
  unfold near
  simp only [Bool.and_eq_true, beq_iff_eq, decide_eq_true_eq]
  exact ⟨⟨by rw [hx.1, hy.1], by rw [hx.2, hy.2]⟩, h, h'⟩
theorem in_parts {a b c : Int} {y : Ev} (h : inW a b c y = true) : y.it = a ∧ y.tr = b ∧ y.wn = c := by
  unfold inW at h
  simp only [Bool.and_eq_true, beq_iff_eq] at h
  exact ⟨h.1.1, h.1.2, h.2⟩
theorem in_self (x : Ev) : inW x.it x.tr x.wn x = true := by simp [inW]
/-- A list whose members are all x, no two of which may stand in it. -/
theorem one_of {x : Ev} : ∀ {l : List Ev}, Sparse l → (∀ y ∈ l, y = x) → x ∈ l → l = [x]
  | [], _, _, h => by cases h
  | [s], _, h, _ => by rw [h s (by simp)]
  | s :: t :: l, hs, h, _ => by
    have h1 := h s (by simp)
    have h2 := h t (by simp)
    subst h1
    subst h2
    have := (List.pairwise_cons.1 hs).1 t (by simp)
    rw [near_self] at this
    cases this
theorem own_one {es : List Ev} (hs : Sparse es) {x : Ev} (hx : x ∈ es) : own es x.it x.tr x.wn = [x] := by
  have hsub : Sparse (own es x.it x.tr x.wn) := hs.sublist List.filter_sublist
  refine one_of hsub (fun y hy => ?_) (List.mem_filter.2 ⟨hx, in_self x⟩)
  obtain ⟨h1, h2⟩ := List.mem_filter.1 hy
  obtain ⟨a, b, c⟩ := in_parts h2
  exact sparse_apart hs h1 hx (near_win ⟨a, b⟩ ⟨rfl, rfl⟩ (by omega) (by omega))
theorem ofW_one {es : List Ev} (hs : Sparse es) {x : Ev} (hx : x ∈ es) : ofW es x.it x.tr x.wn = [x] := by
  have := ofW_perm es x.it x.tr x.wn
  rw [own_one hs hx] at this
  exact this.eq_singleton
theorem ofW_next {es : List Ev} (hs : Sparse es) {x : Ev} (hx : x ∈ es) : ofW es x.it x.tr (x.wn + 1) = [] := by
  have h : own es x.it x.tr (x.wn + 1) = [] := by
    unfold own
    rw [List.filter_eq_nil_iff]
    intro y hy h2
    obtain ⟨a, b, c⟩ := in_parts h2
    have := sparse_apart hs hy hx (near_win ⟨a, b⟩ ⟨rfl, rfl⟩ (by omega) (by omega))
    subst this
    omega
  unfold ofW
  rw [h]
  rfl

end Go.Proofs.Ytbdcpjpdonednaa
