/-
  Plain mathematics of sparse events: windows of one try, put in order, differ by 2 or more. No program is named here.
-/
import Derived.Test.YtbdcpjpdonednaaMathScript
namespace Go.Proofs.Ytbdcpjpdonednaa

/-- Two events of one try are less than two windows apart. -/
def near (s t : Ev) : Bool := (s.it == t.it && s.tr == t.tr) && decide (s.wn - t.wn < 2 ∧ t.wn - s.wn < 2)
theorem near_comm (s t : Ev) : near s t = near t s := by
  unfold near
  rw [Bool.eq_iff_iff]
  simp only [Bool.and_eq_true, beq_iff_eq, decide_eq_true_eq]
  constructor <;> (intro h; exact ⟨⟨h.1.1.symm, h.1.2.symm⟩, h.2.2, h.2.1⟩)
theorem near_self (s : Ev) : near s s = true := by simp [near]
theorem near_false {s t : Ev} : near s t = false ↔ (s.it = t.it → s.tr = t.tr → 2 ≤ s.wn - t.wn ∨ 2 ≤ t.wn - s.wn) := by
  unfold near
  simp only [Bool.and_eq_false_iff, beq_eq_false_iff_ne, decide_eq_false_iff_not, ne_eq]
  constructor
  · intro h e1 e2; omega
  · intro h
    by_cases e1 : s.it = t.it
    · by_cases e2 : s.tr = t.tr
      · have := h e1 e2; omega
      · exact .inl (.inr e2)
    · exact .inl (.inl e1)

/-- Any two events of one try are two windows apart or more. -/
def Sparse (es : List Ev) : Prop := es.Pairwise fun s t => near s t = false
def sparse (es : List Ev) : Bool := decide (es.Pairwise fun s t => near s t = false)
theorem sparse_iff {es : List Ev} : sparse es = true ↔ Sparse es := by unfold sparse Sparse; exact decide_eq_true_iff
theorem sparse_no {es : List Ev} (h : ¬ Sparse es) : sparse es = false := by
  cases e : sparse es
  · rfl
  · exact absurd (sparse_iff.1 e) h
theorem Sparse.perm {es es' : List Ev} (h : es.Perm es') : Sparse es ↔ Sparse es' := h.pairwise_iff fun {_ _} hab => by rw [near_comm]; exact hab
theorem sparse_perm {es es' : List Ev} (h : es.Perm es') : sparse es = sparse es' := by
  rw [Bool.eq_iff_iff, sparse_iff, sparse_iff]
  exact Sparse.perm h

/-- The windows of a try's events. -/
def wins (es : List Ev) (a b : Int) : List Int := (es.filter fun s => s.it == a && s.tr == b).map (·.wn)
theorem wins_snoc (es : List Ev) (s : Ev) (a b : Int) : wins (es ++ [s]) a b = if s.it = a ∧ s.tr = b then wins es a b ++ [s.wn] else wins es a b := by
  unfold wins
  rw [List.filter_append, List.map_append]
  by_cases h : s.it = a ∧ s.tr = b
  · rw [if_pos h]; simp [h.1, h.2]
  · rw [if_neg h]
    have : (s.it == a && s.tr == b) = false := by
      rw [Bool.and_eq_false_iff, beq_eq_false_iff_ne, beq_eq_false_iff_ne]
      by_cases h1 : s.it = a
      · exact .inr fun h2 => h ⟨h1, h2⟩
      · exact .inl h1
    simp [this]
theorem wins_len (es : List Ev) (a b : Int) : (wins es a b).length ≤ es.length := by
  unfold wins
  rw [List.length_map]
  exact List.length_filter_le _ _
theorem wins_ok {es : List Ev} (h : EvsOk es) (a b : Int) : ∀ z ∈ wins es a b, -9223372036854775808 ≤ z ∧ z < 9223372036854775808 := by
  intro z hz
  obtain ⟨s, hs, rfl⟩ := List.mem_map.1 hz
  exact (h s (List.mem_filter.1 hs).1).2.2.1

def Far (zs : List Int) : Prop := zs.Pairwise fun x y => 2 ≤ x - y ∨ 2 ≤ y - x
instance (zs : List Int) : Decidable (Far zs) := by unfold Far; exact inferInstance
theorem Far.perm {zs zs' : List Int} (h : zs.Perm zs') : Far zs ↔ Far zs' := h.pairwise_iff fun {_ _} hab => hab.symm
theorem far_nil : Far [] := List.Pairwise.nil

theorem sparse_wins (es : List Ev) : Sparse es ↔ ∀ a b, Far (wins es a b) := by
  induction es with
  | nil => exact ⟨fun _ a b => far_nil, fun _ => List.Pairwise.nil⟩
  | cons s es ih =>
    have hw : ∀ a b, wins (s :: es) a b = if s.it = a ∧ s.tr = b then s.wn :: wins es a b else wins es a b := by
      intro a b
      unfold wins
      rw [List.filter_cons]
      by_cases h : s.it = a ∧ s.tr = b
      · rw [if_pos h]; simp [h.1, h.2]
      · rw [if_neg h]
        have : (s.it == a && s.tr == b) = false := by
          rw [Bool.and_eq_false_iff, beq_eq_false_iff_ne, beq_eq_false_iff_ne]
          by_cases h1 : s.it = a
          · exact .inr fun h2 => h ⟨h1, h2⟩
          · exact .inl h1
        simp [this]
    constructor
    · intro h a b
      obtain ⟨h1, h2⟩ := List.pairwise_cons.1 h
      have hr := ih.1 h2 a b
      rw [hw]
      by_cases hc : s.it = a ∧ s.tr = b
      · rw [if_pos hc]
        refine List.pairwise_cons.2 ⟨fun z hz => ?_, hr⟩
        obtain ⟨t, ht, rfl⟩ := List.mem_map.1 hz
        obtain ⟨ht1, ht2⟩ := List.mem_filter.1 ht
        simp only [Bool.and_eq_true, beq_iff_eq] at ht2
        exact near_false.1 (h1 t ht1) (by rw [hc.1, ht2.1]) (by rw [hc.2, ht2.2])
      · rw [if_neg hc]; exact hr
    · intro h
      refine List.pairwise_cons.2 ⟨fun t ht => near_false.2 fun e1 e2 => ?_, ih.2 fun a b => ?_⟩
      · have := h s.it s.tr
        rw [hw, if_pos ⟨rfl, rfl⟩] at this
        refine (List.pairwise_cons.1 this).1 t.wn ?_
        exact List.mem_map.2 ⟨t, List.mem_filter.2 ⟨ht, by simp [e1, e2]⟩, rfl⟩
      · have := h a b
        rw [hw] at this
        by_cases hc : s.it = a ∧ s.tr = b
        · rw [if_pos hc] at this; exact (List.pairwise_cons.1 this).2
        · rw [if_neg hc] at this; exact this

/-- Numbers in order are far if neighbours are. -/
def Adj (zs : List Int) (k : Nat) : Prop := ∀ i, i < k → i + 1 < zs.length → 2 ≤ zs.getD (i + 1) 0 - zs.getD i 0
theorem adj_far : ∀ (zs : List Int), zs.Pairwise (fun x y => x ≤ y) → Adj zs zs.length → Far zs
  | [], _, _ => far_nil
  | [_], _, _ => List.pairwise_singleton _ _
  | x :: y :: zs, hs, ha => by
    obtain ⟨h1, h2⟩ := List.pairwise_cons.1 hs
    have h0 : 2 ≤ y - x := by simpa using ha 0 (by simp) (by simp)
    refine List.pairwise_cons.2 ⟨fun z hz => ?_, adj_far (y :: zs) h2 fun i hi hi' => ?_⟩
    · rcases List.mem_cons.1 hz with rfl | hz
      · exact .inr h0
      · have := (List.pairwise_cons.1 h2).1 z hz
        exact .inr (by omega)
    · have := ha (i + 1) (by simp at hi ⊢; omega) (by simp at hi' ⊢; omega)
      simpa using this
theorem far_adj {zs : List Int} (hs : zs.Pairwise fun x y => x ≤ y) (hf : Far zs) (k : Nat) : Adj zs k := by
  intro i _ hi
  have h1 := (List.pairwise_iff_getElem.1 hf) i (i + 1) (by omega) hi (by omega)
  have h2 := (List.pairwise_iff_getElem.1 hs) i (i + 1) (by omega) hi (by omega)
  have e1 : zs.getD i 0 = zs[i] := by simp [show i < zs.length by omega]
  have e2 : zs.getD (i + 1) 0 = zs[i + 1] := by simp [hi]
  rw [e1, e2]
  omega
theorem far_iff_adj {zs : List Int} (hs : zs.Pairwise fun x y => x ≤ y) : Far zs ↔ Adj zs zs.length := ⟨fun h => far_adj hs h _, adj_far zs hs⟩

/-- In order. -/
def srt (zs : List Int) : List Int := zs.mergeSort fun x y => decide (x ≤ y)
theorem srt_perm (zs : List Int) : (srt zs).Perm zs := List.mergeSort_perm _ _
theorem srt_len (zs : List Int) : (srt zs).length = zs.length := (srt_perm zs).length_eq
theorem srt_sorted (zs : List Int) : (srt zs).Pairwise fun x y => x ≤ y := by
  have := List.pairwise_mergeSort (le := fun x y : Int => decide (x ≤ y)) (fun a b c h1 h2 => by simp at h1 h2 ⊢; omega) (fun a b => by simp; omega) zs
  exact this.imp fun h => by simpa using h
theorem far_srt (zs : List Int) : Far zs ↔ Adj (srt zs) (srt zs).length := (Far.perm (srt_perm zs).symm).trans (far_iff_adj (srt_sorted zs))
theorem srt_le (zs : List Int) {i : Nat} (hi : i + 1 < zs.length) : (srt zs).getD i 0 ≤ (srt zs).getD (i + 1) 0 := by
  rw [← srt_len] at hi
  have h2 := (List.pairwise_iff_getElem.1 (srt_sorted zs)) i (i + 1) (by omega) hi (by omega)
  simpa [show i < (srt zs).length by omega, hi] using h2
theorem srt_ok {zs : List Int} (h : ∀ z ∈ zs, -9223372036854775808 ≤ z ∧ z < 9223372036854775808) (j : Nat) : -9223372036854775808 ≤ (srt zs).getD j 0 ∧ (srt zs).getD j 0 < 9223372036854775808 := by
  by_cases hj : j < (srt zs).length
  · have e : (srt zs).getD j 0 = (srt zs)[j] := by simp [hj]
    rw [e]
    exact h _ ((srt_perm zs).mem_iff.1 (List.getElem_mem hj))
  · have e : (srt zs).getD j 0 = 0 := by simp [hj]
    rw [e]; omega

end Go.Proofs.Ytbdcpjpdonednaa
