/-
  Plain mathematics of layer 4: the radices of a size, what is left over, their product, and which sizes may be. No program is named here.
-/
import Derived.Test.YtmcnamlgbkbiaaaDoorProg
namespace Go.Proofs.YtmcnamlgbkbiaaaDoor.Fac

/-- A radix: a number of 2 to 5. -/
abbrev Rad := { r : Nat // 2 ≤ r ∧ r ≤ 5 }
def four : List Rad := [⟨4, by decide⟩, ⟨2, by decide⟩, ⟨3, by decide⟩, ⟨5, by decide⟩]

/-- The radices of m that are told, of those in rs, each as often as may be (fuel ahead). -/
def tell : Nat → List Rad → Nat → List Rad
  | 0, _, _ => []
  | _ + 1, [], _ => []
  | f + 1, r :: rs, m => if m % r.1 = 0 then r :: tell f (r :: rs) (m / r.1) else tell f rs m
/-- What is left of m. -/
def left : Nat → List Rad → Nat → Nat
  | 0, _, m => m
  | _ + 1, [], m => m
  | f + 1, r :: rs, m => if m % r.1 = 0 then left f (r :: rs) (m / r.1) else left f rs m
def Enough (f : Nat) (rs : List Rad) (m : Nat) : Prop := rs.length ≤ f ∧ m < 2 ^ (f - rs.length + 1) ∧ 1 ≤ m

theorem tell_nil (f m : Nat) : tell f [] m = [] := by cases f <;> rfl
theorem left_nil (f m : Nat) : left f [] m = m := by cases f <;> rfl
theorem tell_yes {f m : Nat} {r : Rad} {rs : List Rad} (h : m % r.1 = 0) : tell (f + 1) (r :: rs) m = r :: tell f (r :: rs) (m / r.1) := by simp [tell, h]
theorem tell_no {f m : Nat} {r : Rad} {rs : List Rad} (h : m % r.1 ≠ 0) : tell (f + 1) (r :: rs) m = tell f rs m := by simp [tell, h]
theorem left_yes {f m : Nat} {r : Rad} {rs : List Rad} (h : m % r.1 = 0) : left (f + 1) (r :: rs) m = left f (r :: rs) (m / r.1) := by simp [left, h]
theorem left_no {f m : Nat} {r : Rad} {rs : List Rad} (h : m % r.1 ≠ 0) : left (f + 1) (r :: rs) m = left f rs m := by simp [left, h]

theorem div_pos {m : Nat} {r : Rad} (h : m % r.1 = 0) (hm : 1 ≤ m) : 1 ≤ m / r.1 := by
  have hr := r.2
  have := Nat.div_add_mod m r.1
  rcases Nat.eq_zero_or_pos (m / r.1) with h0 | h0
  · rw [h0] at this; omega
  · exact h0
theorem div_half (m : Nat) (r : Rad) : 2 * (m / r.1) ≤ m := by
  have hr := r.2
  have h1 : r.1 * (m / r.1) ≤ m := Nat.mul_div_le m r.1
  have h2 : 2 * (m / r.1) ≤ r.1 * (m / r.1) := Nat.mul_le_mul_right _ hr.1
  omega
theorem Enough.pos {f m : Nat} {r : Rad} {rs : List Rad} (h : Enough f (r :: rs) m) : ∃ g, f = g + 1 := by
  obtain ⟨h1, _, _⟩ := h
  simp at h1
  exact ⟨f - 1, by omega⟩
theorem Enough.yes {f m : Nat} {r : Rad} {rs : List Rad} (h : Enough (f + 1) (r :: rs) m) (hd : m % r.1 = 0) : Enough f (r :: rs) (m / r.1) := by
  obtain ⟨h1, h2, h3⟩ := h
  simp only [List.length_cons] at h1 h2
  have hp := div_pos hd h3
  have hh := div_half m r
  have hk : rs.length + 1 ≤ f := by
    rcases Nat.lt_or_ge rs.length f with h | h
    · exact h
    · have : f + 1 - (rs.length + 1) + 1 = 1 := by omega
      rw [this] at h2
      omega
  refine ⟨by simpa using hk, ?_, hp⟩
  simp only [List.length_cons]
  have e : f + 1 - (rs.length + 1) + 1 = (f - (rs.length + 1) + 1) + 1 := by omega
  rw [e, Nat.pow_succ] at h2
  omega
theorem Enough.no {f m : Nat} {r : Rad} {rs : List Rad} (h : Enough (f + 1) (r :: rs) m) : Enough f rs m := by
  obtain ⟨h1, h2, h3⟩ := h
  simp only [List.length_cons] at h1 h2
  exact ⟨by omega, by rwa [show f + 1 - (rs.length + 1) + 1 = f - rs.length + 1 by omega] at h2, h3⟩

theorem tell_fuel : ∀ (f f' : Nat) (rs : List Rad) (m : Nat), Enough f rs m → Enough f' rs m → tell f rs m = tell f' rs m ∧ left f rs m = left f' rs m := by
  intro f
  induction f with
  | zero =>
    intro f' rs m h h'
    have : rs = [] := List.length_eq_zero_iff.1 (by have := h.1; omega)
    subst this
    simp [tell_nil, left_nil]
  | succ f ih =>
    intro f' rs m h h'
    cases rs with
    | nil => simp [tell_nil, left_nil]
    | cons r rs =>
      obtain ⟨g, rfl⟩ := h'.pos
      by_cases hd : m % r.1 = 0
      · rw [tell_yes hd, tell_yes hd, left_yes hd, left_yes hd]
        obtain ⟨e1, e2⟩ := ih g (r :: rs) (m / r.1) (h.yes hd) (h'.yes hd)
        rw [e1, e2]; exact ⟨rfl, rfl⟩
      · rw [tell_no hd, tell_no hd, left_no hd, left_no hd]
        exact ih g rs m h.no h'.no

/-- The product of radices. -/
def prod : List Rad → Nat
  | [] => 1
  | r :: l => r.1 * prod l
theorem prod_append : ∀ (k l : List Rad), prod (k ++ l) = prod k * prod l
  | [], l => by simp [prod]
  | r :: k, l => by simp [prod, prod_append k l, Nat.mul_assoc]
theorem prod_one (r : Rad) : prod [r] = r.1 := by simp [prod]
theorem prod_pos : ∀ l : List Rad, 1 ≤ prod l
  | [] => Nat.le_refl _
  | r :: l => Nat.mul_pos (by have := r.2; omega) (prod_pos l)
theorem prod_le : ∀ l : List Rad, prod l ≤ 5 ^ l.length
  | [] => Nat.le_refl _
  | r :: l => by
    rw [List.length_cons, Nat.pow_succ, Nat.mul_comm]
    exact Nat.mul_le_mul r.2.2 (prod_le l)
theorem prod_ge : ∀ l : List Rad, 2 ^ l.length ≤ prod l
  | [] => Nat.le_refl _
  | r :: l => by
    rw [List.length_cons, Nat.pow_succ, Nat.mul_comm]
    exact Nat.mul_le_mul r.2.1 (prod_ge l)
theorem prod_short {l : List Rad} (h : l.length ≤ 12) : prod l ≤ 244140625 :=
  Nat.le_trans (prod_le l) (Nat.le_trans (Nat.pow_le_pow_right (by decide) h) (by decide))

theorem prod_left : ∀ (f : Nat) (rs : List Rad) (m : Nat), prod (tell f rs m) * left f rs m = m
  | 0, _, m => by simp [tell, left, prod]
  | f + 1, [], m => by simp [tell, left, prod]
  | f + 1, r :: rs, m => by
    by_cases hd : m % r.1 = 0
    · rw [tell_yes hd, left_yes hd, prod, Nat.mul_assoc, prod_left f (r :: rs) (m / r.1)]
      have := Nat.div_add_mod m r.1
      omega
    · rw [tell_no hd, left_no hd]; exact prod_left f rs m
theorem left_pos : ∀ (f : Nat) (rs : List Rad) (m : Nat), 1 ≤ m → 1 ≤ left f rs m := by
  intro f rs m h
  have := prod_left f rs m
  rcases Nat.eq_zero_or_pos (left f rs m) with h0 | h0
  · rw [h0] at this; omega
  · exact h0
/-- Nothing is left over that a radix takes. -/
theorem left_none : ∀ (f : Nat) (rs : List Rad) (m : Nat), Enough f rs m → ∀ r ∈ rs, left f rs m % r.1 ≠ 0 := by
  intro f
  induction f with
  | zero =>
    intro rs m h r hr
    have : rs = [] := List.length_eq_zero_iff.1 (by have := h.1; omega)
    subst this; cases hr
  | succ f ih =>
    intro rs m h r hr
    cases rs with
    | nil => cases hr
    | cons s rs =>
      by_cases hd : m % s.1 = 0
      · rw [left_yes hd]; exact ih _ _ (h.yes hd) r hr
      · rw [left_no hd]
        rcases List.mem_cons.1 hr with rfl | hr'
        · intro h0
          apply hd
          have e := prod_left f rs m
          exact Nat.mod_eq_zero_of_dvd (Nat.dvd_trans (Nat.dvd_of_mod_eq_zero h0) ⟨prod (tell f rs m), by rw [Nat.mul_comm]; exact e.symm⟩)
        · exact ih _ _ h.no r hr'

theorem left_le (f : Nat) (rs : List Rad) (m : Nat) : left f rs m ≤ m := by
  have h := prod_left f rs m
  have hp := prod_pos (tell f rs m)
  calc left f rs m = 1 * left f rs m := (Nat.one_mul _).symm
    _ ≤ prod (tell f rs m) * left f rs m := Nat.mul_le_mul_right _ hp
    _ = m := h
/-- One radix taken out as often as may be, then the others. -/
theorem tell_split {r : Rad} {rs : List Rad} : ∀ (g f m : Nat), Enough f (r :: rs) m → Enough g [r] m →
    ∃ f', Enough f' rs (left g [r] m) ∧ tell f (r :: rs) m = tell g [r] m ++ tell f' rs (left g [r] m) ∧ left f (r :: rs) m = left f' rs (left g [r] m) := by
  intro g
  induction g with
  | zero => intro f m _ h; have := h.1; simp at this
  | succ g ih =>
    intro f m h h'
    obtain ⟨f1, rfl⟩ := h.pos
    by_cases hd : m % r.1 = 0
    · obtain ⟨f', h1, h2, h3⟩ := ih f1 (m / r.1) (h.yes hd) (h'.yes hd)
      rw [tell_yes hd, tell_yes hd, left_yes hd, left_yes hd]
      exact ⟨f', h1, by rw [h2]; rfl, h3⟩
    · rw [tell_no hd, tell_no hd, left_no hd, left_no hd, tell_nil, left_nil]
      exact ⟨f1, h.no, rfl, rfl⟩
theorem tell_len (f : Nat) (rs : List Rad) (m : Nat) (h1 : 1 ≤ m) (h2 : m ≤ 4096) : (tell f rs m).length ≤ 12 := by
  have h := prod_left f rs m
  have hl := left_pos f rs m h1
  have hp : prod (tell f rs m) ≤ m := calc prod (tell f rs m) = prod (tell f rs m) * 1 := (Nat.mul_one _).symm
    _ ≤ prod (tell f rs m) * left f rs m := Nat.mul_le_mul_left _ hl
    _ = m := h
  have hg := Nat.le_trans (prod_ge (tell f rs m)) (Nat.le_trans hp h2)
  rcases Nat.lt_or_ge 12 (tell f rs m).length with hk | hk
  · have : 2 ^ 13 ≤ 2 ^ (tell f rs m).length := Nat.pow_le_pow_right (by decide) hk
    omega
  · exact hk

/-! Of a size up to 4096. -/
def rads (n : Nat) : List Rad := tell 16 four n
def over (n : Nat) : Nat := left 16 four n
theorem enough (n : Nat) (h1 : 1 ≤ n) (h2 : n ≤ 4096) : Enough 16 four n := ⟨by decide, by show n < 8192; omega, h1⟩
theorem rads_over (n : Nat) : prod (rads n) * over n = n := prod_left _ _ _
theorem rads_le (n : Nat) (h1 : 1 ≤ n) : prod (rads n) ≤ n := by
  have := rads_over n
  have h := left_pos 16 four n h1
  calc prod (rads n) = prod (rads n) * 1 := (Nat.mul_one _).symm
    _ ≤ prod (rads n) * over n := Nat.mul_le_mul_left _ h
    _ = n := this
theorem rads_len (n : Nat) (h1 : 1 ≤ n) (h2 : n ≤ 4096) : (rads n).length ≤ 12 := by
  have h := Nat.le_trans (prod_ge (rads n)) (Nat.le_trans (rads_le n h1) h2)
  rcases Nat.lt_or_ge 12 (rads n).length with hl | hl
  · have : 2 ^ 13 ≤ 2 ^ (rads n).length := Nat.pow_le_pow_right (by decide) hl
    omega
  · exact hl
theorem over_one (n : Nat) (h1 : 1 ≤ n) : prod (rads n) = n ↔ over n = 1 := by
  have h := rads_over n
  have hp := prod_pos (rads n)
  constructor
  · intro e
    rw [e] at h
    have : n * over n = n * 1 := by omega
    exact Nat.eq_of_mul_eq_mul_left h1 this
  · intro e; rw [e] at h; omega

/-- May the size be? -/
def sm (n : Int) : Bool := decide (1 ≤ n) && decide (n ≤ 4096) && decide (prod (rads n.toNat) = n.toNat)
theorem sm_of {n : Int} (h : sm n = true) : 1 ≤ n ∧ n ≤ 4096 ∧ prod (rads n.toNat) = n.toNat := by simpa [sm, and_assoc] using h
theorem sm_no {n : Int} (h : ¬ (1 ≤ n ∧ n ≤ 4096)) : sm n = false := by
  rcases Bool.eq_false_or_eq_true (sm n) with h' | h'
  · exact absurd ⟨(sm_of h').1, (sm_of h').2.1⟩ h
  · exact h'

theorem sm_over {n : Nat} (h1 : 1 ≤ n) (h2 : n ≤ 4096) : sm (n : Int) = decide (over n = 1) := by
  rw [Bool.eq_iff_iff, decide_eq_true_iff, ← over_one n h1]
  simp [sm]
  omega

/-! A size may be just if it divides a power of 30. -/
theorem rads_dvd : ∀ l : List Rad, prod l ∣ 60 ^ l.length
  | [] => Nat.dvd_refl _
  | r :: l => by
    rw [List.length_cons, Nat.pow_succ, Nat.mul_comm (60 ^ l.length)]
    refine Nat.mul_dvd_mul ?_ (rads_dvd l)
    obtain ⟨r, h1, h2⟩ := r
    show r ∣ 60
    have : r = 2 ∨ r = 3 ∨ r = 4 ∨ r = 5 := by omega
    rcases this with rfl | rfl | rfl | rfl <;> decide
theorem cop_pow {u k : Nat} (h : Nat.Coprime u 60) : Nat.Coprime u (60 ^ k) := Nat.Coprime.pow_right k h
theorem cop60 {u : Nat} (h2 : u % 2 ≠ 0) (h3 : u % 3 ≠ 0) (h5 : u % 5 ≠ 0) : Nat.Coprime u 60 := by
  have e2 : Nat.Coprime u 2 := by unfold Nat.Coprime; rw [Nat.gcd_comm, Nat.gcd_rec, show u % 2 = 1 by omega]; decide
  have e3 : Nat.Coprime u 3 := by
    unfold Nat.Coprime
    rw [Nat.gcd_comm, Nat.gcd_rec]
    have : u % 3 = 1 ∨ u % 3 = 2 := by omega
    rcases this with h | h <;> rw [h] <;> decide
  have e5 : Nat.Coprime u 5 := by
    unfold Nat.Coprime
    rw [Nat.gcd_comm, Nat.gcd_rec]
    have : u % 5 = 1 ∨ u % 5 = 2 ∨ u % 5 = 3 ∨ u % 5 = 4 := by omega
    rcases this with h | h | h | h <;> rw [h] <;> decide
  have : Nat.Coprime u (2 * 2 * (3 * 5)) := Nat.Coprime.mul_right (Nat.Coprime.mul_right e2 e2) (Nat.Coprime.mul_right e3 e5)
  exact this
theorem over_of_dvd {n k : Nat} (h1 : 1 ≤ n) (h2 : n ≤ 4096) (h : n ∣ 60 ^ k) : over n = 1 := by
  have hn := left_none 16 four n (enough n h1 h2)
  have c : Nat.Coprime (over n) 60 := cop60 (hn ⟨2, by decide⟩ (by simp [four])) (hn ⟨3, by decide⟩ (by simp [four])) (hn ⟨5, by decide⟩ (by simp [four]))
  have d : over n ∣ 60 ^ k := Nat.dvd_trans ⟨prod (rads n), by rw [Nat.mul_comm]; exact (rads_over n).symm⟩ h
  have := Nat.Coprime.eq_one_of_dvd (cop_pow (k := k) c) d
  exact this
theorem sm_dvd {n : Nat} (h1 : 1 ≤ n) (h2 : n ≤ 4096) : sm (n : Int) = true ↔ ∃ k, n ∣ 60 ^ k := by
  constructor
  · intro h
    obtain ⟨_, _, e⟩ := sm_of h
    rw [Int.toNat_natCast] at e
    refine ⟨(rads n).length, ?_⟩
    have := rads_dvd (rads n)
    rwa [e] at this
  · rintro ⟨k, hk⟩
    have e := (over_one n h1).2 (over_of_dvd h1 h2 hk)
    simp [sm, e]; omega
theorem sm_mul {n m : Nat} (hn : 1 ≤ n) (hm : 1 ≤ m) (h : n * m ≤ 4096) : sm ((n * m : Nat) : Int) = (sm (n : Int) && sm (m : Int)) := by
  have hn' : n ≤ 4096 := Nat.le_trans (Nat.le_mul_of_pos_right n hm) h
  have hm' : m ≤ 4096 := Nat.le_trans (Nat.le_mul_of_pos_left m hn) h
  rw [Bool.eq_iff_iff, Bool.and_eq_true, sm_dvd (Nat.mul_pos hn hm) h, sm_dvd hn hn', sm_dvd hm hm']
  constructor
  · rintro ⟨k, hk⟩
    exact ⟨⟨k, Nat.dvd_trans (Nat.dvd_mul_right n m) hk⟩, ⟨k, Nat.dvd_trans (Nat.dvd_mul_left m n) hk⟩⟩
  · rintro ⟨⟨k, hk⟩, ⟨j, hj⟩⟩
    exact ⟨k + j, by rw [Nat.pow_add]; exact Nat.mul_dvd_mul hk hj⟩

/-- As integers. -/
def ints (l : List Rad) : List Int := l.map fun r => (r.1 : Int)
theorem ints_len (l : List Rad) : (ints l).length = l.length := by simp [ints]
theorem ints_snoc (l : List Rad) (r : Rad) : ints (l ++ [r]) = ints l ++ [(r.1 : Int)] := by simp [ints]
theorem ints_append (k l : List Rad) : ints (k ++ l) = ints k ++ ints l := by simp [ints]
theorem prod_take (l : List Rad) (k : Nat) (h : k < l.length) : prod (l.take k) * l[k].1 = prod (l.take (k + 1)) := by
  rw [List.take_succ_eq_append_getElem h, prod_append, prod_one]
theorem ints_get (l : List Rad) (j : Nat) (h : j < l.length) : (ints l).getD j 0 = (l[j].1 : Int) := by simp [ints, h]

/-- A stage: R, L, M. -/
structure Stg where
  r : Int
  l : Int
  m : Int
deriving DecidableEq
/-- The stages of m, of radices of whose product with those ahead m is. -/
def stages (m : Nat) : List Rad → Nat → List Stg
  | [], _ => []
  | r :: l, a => ⟨r.1, a, (m / (a * r.1) : Nat)⟩ :: stages m l (a * r.1)
theorem stages_len (m : Nat) : ∀ (l : List Rad) (a : Nat), (stages m l a).length = l.length
  | [], _ => rfl
  | _ :: l, a => by simp [stages, stages_len m l]
theorem stages_snoc (m : Nat) : ∀ (l : List Rad) (a : Nat) (r : Rad), stages m (l ++ [r]) a = stages m l a ++ [⟨r.1, (a * prod l : Nat), (m / (a * prod l * r.1) : Nat)⟩]
  | [], a, r => by simp [stages, prod]
  | s :: l, a, r => by simp [stages, prod, stages_snoc m l (a * s.1) r, Nat.mul_assoc]
theorem stages_get (m : Nat) (l : List Rad) (j : Nat) (h : j < l.length) : (stages m l 1)[j]'(by rw [stages_len]; exact h) = ⟨l[j].1, (prod (l.take j) : Nat), (m / (prod (l.take j) * l[j].1) : Nat)⟩ := by
  have key : ∀ (l : List Rad) (a j : Nat) (h : j < l.length), (stages m l a)[j]'(by rw [stages_len]; exact h) = ⟨l[j].1, (a * prod (l.take j) : Nat), (m / (a * prod (l.take j) * l[j].1) : Nat)⟩ := by
    intro l
    induction l with
    | nil => intro a j h; simp at h
    | cons r l ih =>
      intro a j h
      cases j with
      | zero => simp [stages, prod]
      | succ j =>
        have := ih (a * r.1) j (by simpa using h)
        simp [stages, prod, this, Nat.mul_assoc]
  have := key l 1 j h
  simpa using this
/-- What is behind. -/
theorem behind {n : Nat} {l : List Rad} (e : prod l = n) (j : Nat) (h : j < l.length) : n / (prod (l.take j) * l[j].1) = prod (l.drop (j + 1)) := by
  have e1 : l = l.take j ++ (l[j] :: l.drop (j + 1)) := by rw [← List.drop_eq_getElem_cons h, List.take_append_drop]
  have e2 : prod l = prod (l.take j) * l[j].1 * prod (l.drop (j + 1)) := by
    conv => lhs; rw [e1]
    rw [prod_append, prod, Nat.mul_assoc]
  rw [← e, e2]
  exact Nat.mul_div_cancel_left _ (Nat.mul_pos (prod_pos _) (by have := l[j].2; omega))

end Go.Proofs.YtmcnamlgbkbiaaaDoor.Fac
