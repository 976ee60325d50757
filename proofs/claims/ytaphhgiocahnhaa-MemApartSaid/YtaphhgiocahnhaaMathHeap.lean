/-
  Plain mathematics of a heap of events: each entry an event and how many were put ahead of it; what goes up, what goes down, what stands first.
-/
import Derived.Test.YtaphhgiocahnhaaEvent
import Derived.Sort.Lot0
namespace Go.Proofs.Ytaphhgiocahnhaa
open Go.Sort

/-- An event, and how many were put ahead of it. -/
structure En where
  ev : Ev
  ah : Int
  deriving DecidableEq

instance : Inhabited En := ⟨⟨noEv, 0⟩⟩
def enc (x : En) : List Value := evc x.ev ++ [.int .i64 x.ah]

/-- x is told ahead of y. -/
def ltN (x y : En) : Bool := decide (x.ev.tk < y.ev.tk) || (decide (x.ev.tk = y.ev.tk) && decide (x.ah < y.ah))

theorem ltN_yes {x y : En} : ltN x y = true ↔ x.ev.tk < y.ev.tk ∨ (x.ev.tk = y.ev.tk ∧ x.ah < y.ah) := by unfold ltN; simp
theorem ltN_no {x y : En} : ltN x y = false ↔ ¬ (x.ev.tk < y.ev.tk ∨ (x.ev.tk = y.ev.tk ∧ x.ah < y.ah)) := by rw [← ltN_yes]; simp
theorem ltN_asym {x y : En} (h : ltN x y = true) : ltN y x = false := by rw [ltN_yes] at h; rw [ltN_no]; omega
theorem ltN_trans {x y z : En} (h : ltN x y = true) (h' : ltN y z = true) : ltN x z = true := by rw [ltN_yes] at *; omega
theorem ltN_not {x y z : En} (h : ltN x y = false) (h' : ltN y z = false) : ltN x z = false := by rw [ltN_no] at *; omega
theorem ltN_up {x y z : En} (h : ltN x z = false) (h' : ltN y z = true) : ltN x y = false := by rw [ltN_no] at *; rw [ltN_yes] at h'; omega

theorem swn_get (d : Array En) (i j k : Nat) (hi : i < d.size) (hj : j < d.size) : (swp d i j)[k]! = if k = j then d[i]! else if k = i then d[j]! else d[k]! := by
  by_cases h1 : k = j
  · subst h1; rw [if_pos rfl]; exact swp_right d i k hj
  · rw [if_neg h1]
    by_cases h2 : k = i
    · subst h2; rw [if_pos rfl]; exact swp_left d k j hi h1
    · rw [if_neg h2]; exact swp_other d i j k h2 h1

theorem getN (d : Array En) (i : Nat) (hi : i < d.size) : d[i]! = d[i] := by simp [hi]

theorem swn_perm (d : Array En) (i j : Nat) (hi : i < d.size) (hj : j < d.size) : (swp d i j).toList.Perm d.toList := by
  have e : swp d i j = d.swap i j hi hj := by
    apply Array.ext
    · simp [swp]
    · intro k h1 h2
      have hk : k < d.size := by rw [size_swp] at h1; exact h1
      have := swn_get d i j k hi hj
      rw [getN _ _ h1] at this
      rw [this, Array.getElem_swap]
      split
      · rename_i c
        subst c
        split
        · rename_i c; subst c; simp [hi]
        · simp [hi]
      · split
        · simp [hj]
        · simp [hk]
  rw [e]
  exact (Array.swap_perm hi hj).toList

/-- The first n of d are a heap. -/
def Hp (d : Array En) (n : Nat) : Prop := ∀ k, 0 < k → k < n → ltN d[k]! d[(k - 1) / 2]! = false

/-- .. but for what stands at j, which may go up. -/
def Up (d : Array En) (n j : Nat) : Prop := (∀ k, 0 < k → k < n → k ≠ j → ltN d[k]! d[(k - 1) / 2]! = false) ∧ ∀ k, 0 < k → k < n → (k - 1) / 2 = j → 0 < j → ltN d[k]! d[(j - 1) / 2]! = false

/-- .. but for what stands at i, which may go down. -/
def Dn (d : Array En) (n i : Nat) : Prop := (∀ k, 0 < k → k < n → (k - 1) / 2 ≠ i → ltN d[k]! d[(k - 1) / 2]! = false) ∧ ∀ k, 0 < k → k < n → (k - 1) / 2 = i → 0 < i → ltN d[k]! d[(i - 1) / 2]! = false

theorem Up.stop {d : Array En} {n j : Nat} (h : Up d n j) (hj : j = 0 ∨ ltN d[j]! d[(j - 1) / 2]! = false) : Hp d n := by
  intro k h0 hk
  by_cases e : k = j
  · subst e
    rcases hj with e | e
    · omega
    · exact e
  · exact h.1 k h0 hk e

theorem Up.step {d : Array En} {n j : Nat} (h : Up d n j) (h0 : 0 < j) (hj : j < n) (hn : n ≤ d.size) (hl : ltN d[j]! d[(j - 1) / 2]! = true) : Up (swp d ((j - 1) / 2) j) n ((j - 1) / 2) := by
  obtain ⟨i, hi⟩ : ∃ i, i = (j - 1) / 2 := ⟨_, rfl⟩
  rw [← hi] at hl ⊢
  have g := fun k => swn_get d i j k (by omega) (by omega)
  refine ⟨fun k k0 hk ki => ?_, fun k k0 hk kp ki => ?_⟩
  · rw [g, g]
    by_cases e : k = j
    · subst e
      rw [if_pos rfl, ← hi, if_neg (by omega), if_pos rfl]
      exact ltN_asym hl
    · rw [if_neg e, if_neg ki]
      by_cases p1 : (k - 1) / 2 = j
      · rw [if_pos p1]
        have := h.2 k k0 hk p1 h0
        rw [← hi] at this
        exact this
      · rw [if_neg p1]
        by_cases p2 : (k - 1) / 2 = i
        · rw [if_pos p2]
          have := h.1 k k0 hk e
          rw [p2] at this
          exact ltN_up this hl
        · rw [if_neg p2]
          exact h.1 k k0 hk e
  · rw [g, g, if_neg (show (i - 1) / 2 ≠ j by omega), if_neg (show (i - 1) / 2 ≠ i by omega)]
    have hpi := h.1 i ki (by omega) (by omega)
    by_cases e : k = j
    · rw [if_pos e]; exact hpi
    · rw [if_neg e, if_neg (by omega)]
      have := h.1 k k0 hk e
      rw [kp] at this
      exact ltN_not this hpi

theorem Dn.stop {d : Array En} {n i : Nat} (h : Dn d n i) (hc : ∀ k, 0 < k → k < n → (k - 1) / 2 = i → ltN d[k]! d[i]! = false) : Hp d n := by
  intro k h0 hk
  by_cases e : (k - 1) / 2 = i
  · rw [e]; exact hc k h0 hk e
  · exact h.1 k h0 hk e

theorem Dn.step {d : Array En} {n i j : Nat} (h : Dn d n i) (j0 : 0 < j) (hji : (j - 1) / 2 = i) (hj : j < n) (hn : n ≤ d.size) (hl : ltN d[j]! d[i]! = true) (hs : ∀ k, 0 < k → k < n → (k - 1) / 2 = i → ltN d[k]! d[j]! = false) : Dn (swp d i j) n j := by
  have g := fun k => swn_get d i j k (by omega) (by omega)
  refine ⟨fun k k0 hk kp => ?_, fun k k0 hk kp _ => ?_⟩
  · rw [g, g]
    rw [if_neg kp]
    by_cases e : k = j
    · rw [if_pos e, e, if_pos hji]; exact ltN_asym hl
    · rw [if_neg e]
      by_cases ei : k = i
      · rw [if_pos ei, ei, if_neg (by omega)]
        exact h.2 j j0 hj hji (by omega)
      · rw [if_neg ei]
        by_cases p : (k - 1) / 2 = i
        · rw [if_pos p]; exact hs k k0 hk p
        · rw [if_neg p]; exact h.1 k k0 hk p
  · rw [g, g, hji, if_neg (by omega), if_neg (by omega), if_neg (by omega), if_pos rfl]
    have := h.1 k k0 hk (by omega)
    rw [kp] at this
    exact this

theorem Hp.first {d : Array En} {n : Nat} (h : Hp d n) : ∀ k, k < n → ltN d[k]! d[0]! = false := by
  intro k
  induction k using Nat.strongRecOn with
  | _ k ih =>
    intro hk
    by_cases e : k = 0
    · subst e; rw [ltN_no]; omega
    · exact ltN_not (h k (by omega) hk) (ih ((k - 1) / 2) (by omega) (by omega))

/-- In the order in which they are told. -/
def Od (L : List En) : Prop := L.Pairwise fun x y => ltN x y = true

theorem mem_getN {d : Array En} {x : En} (h : x ∈ d.toList) : ∃ k, k < d.size ∧ d[k]! = x := by
  obtain ⟨k, hk, e⟩ := List.getElem_of_mem h
  have hk' : k < d.size := by simpa using hk
  exact ⟨k, hk', by rw [getN d k hk', ← e]; simp⟩

theorem first_is {d : Array En} {x : En} {L : List En} (hp : d.toList.Perm (x :: L)) (ho : Od (x :: L)) (hh : Hp d d.size) (h0 : 0 < d.size) : d[0]! = x := by
  have hm : d[0]! ∈ x :: L := hp.mem_iff.1 (by rw [getN d 0 h0]; simp)
  rcases List.mem_cons.1 hm with e | hm
  · exact e
  · have h1 := (List.pairwise_cons.1 ho).1 _ hm
    obtain ⟨k, hk, e⟩ := mem_getN (hp.mem_iff.2 (List.mem_cons_self ..) : x ∈ d.toList)
    have := hh.first k hk
    rw [e, h1] at this
    cases this

/-- x behind all those whose tick is not greater. -/
def putK (es : List Ev) (x : Ev) : List Ev := es.filter (fun y => decide (y.tk ≤ x.tk)) ++ x :: es.filter (fun y => decide (x.tk < y.tk))
def putN (L : List En) (e : En) : List En := L.filter (fun y => decide (y.ev.tk ≤ e.ev.tk)) ++ e :: L.filter (fun y => decide (e.ev.tk < y.ev.tk))

theorem putN_map (L : List En) (e : En) : (putN L e).map En.ev = putK (L.map En.ev) e.ev := by
  unfold putN putK
  rw [List.map_append, List.map_cons, List.filter_map, List.filter_map]
  rfl

theorem putN_perm (L : List En) (e : En) : (putN L e).Perm (e :: L) := by
  unfold putN
  refine List.perm_middle.trans (List.Perm.cons _ ?_)
  have h := List.filter_append_perm (fun y : En => decide (y.ev.tk ≤ e.ev.tk)) L
  have e2 : L.filter (fun y => !decide (y.ev.tk ≤ e.ev.tk)) = L.filter (fun y => decide (e.ev.tk < y.ev.tk)) := by
    apply List.filter_congr
    intro y _
    by_cases c : y.ev.tk ≤ e.ev.tk
    · rw [decide_eq_true c, decide_eq_false (by omega)]; rfl
    · rw [decide_eq_false c, decide_eq_true (by omega)]; rfl
  rw [e2] at h
  exact h

theorem putN_od {L : List En} {e : En} (h : Od L) (ha : ∀ y ∈ L, y.ah < e.ah) : Od (putN L e) := by
  unfold putN Od
  rw [List.pairwise_append, List.pairwise_cons]
  refine ⟨h.sublist List.filter_sublist, ⟨fun s hs => ?_, h.sublist List.filter_sublist⟩, fun s hs t ht => ?_⟩
  · have := (List.mem_filter.1 hs).2
    simp at this
    rw [ltN_yes]; omega
  · have h1 := List.mem_filter.1 hs
    have h2 := ha s h1.1
    have h3 := h1.2
    simp at h3
    rcases List.mem_cons.1 ht with rfl | ht
    · rw [ltN_yes]; omega
    · have := (List.mem_filter.1 ht).2
      simp at this
      rw [ltN_yes]; omega

/-- The row d is what is kept of events whose order is es; p were put so far. -/
def Kp (d : Array En) (es : List Ev) (p : Nat) : Prop := ∃ L : List En, L.map En.ev = es ∧ Od L ∧ d.toList.Perm L ∧ Hp d d.size ∧ ∀ e ∈ L, e.ah < p

theorem Kp.none (p : Nat) : Kp #[] [] p := ⟨[], rfl, List.Pairwise.nil, List.Perm.refl _, fun k _ hk => by simp at hk, fun e he => by cases he⟩
theorem Kp.size {d : Array En} {es : List Ev} {p : Nat} (h : Kp d es p) : d.size = es.length := by
  obtain ⟨L, rfl, _, hp, _⟩ := h
  have := hp.length_eq
  simpa using this

theorem Kp.put {d d' : Array En} {es : List Ev} {p : Nat} {x : Ev} (h : Kp d es p) (hd : d'.toList.Perm (d.toList ++ [⟨x, p⟩])) (hh : Hp d' d'.size) : Kp d' (putK es x) (p + 1) := by
  obtain ⟨L, rfl, ho, hp, _, ha⟩ := h
  refine ⟨putN L ⟨x, p⟩, putN_map _ _, putN_od ho ha, ?_, hh, fun e he => ?_⟩
  · exact (hd.trans ((hp.append_right _).trans (List.perm_append_comm.trans (List.Perm.refl _)))).trans (putN_perm _ _).symm
  · rcases List.mem_cons.1 ((putN_perm L ⟨x, p⟩).mem_iff.1 he) with rfl | h
    · show (p : Int) < ((p + 1 : Nat) : Int); omega
    · have := ha e h
      omega

theorem Kp.head {d : Array En} {x : Ev} {es : List Ev} {p : Nat} (h : Kp d (x :: es) p) : (d[0]!).ev = x := by
  have hs := h.size
  obtain ⟨L, hL, ho, hp, hh, _⟩ := h
  cases L with
  | nil => cases hL
  | cons y L =>
    simp only [List.map_cons, List.cons.injEq] at hL
    rw [first_is hp ho hh (by rw [hs]; simp)]
    exact hL.1

theorem Kp.pop {d d' : Array En} {x : Ev} {es : List Ev} {p : Nat} (h : Kp d (x :: es) p) (hd : (d'.toList ++ [d[0]!]).Perm d.toList) (hh : Hp d' d'.size) : Kp d' es p := by
  have hs := h.size
  obtain ⟨L, hL, ho, hp, hH, ha⟩ := h
  cases L with
  | nil => cases hL
  | cons y L =>
    simp only [List.map_cons, List.cons.injEq] at hL
    rw [first_is hp ho hH (by rw [hs]; simp)] at hd
    refine ⟨L, hL.2, (List.pairwise_cons.1 ho).2, ?_, hh, fun e he => ha e (List.mem_cons_of_mem _ he)⟩
    exact (((List.perm_append_comm (l₁ := [y]) (l₂ := d'.toList)).trans hd).trans hp).cons_inv

/-- In order of ticks. -/
def Srd (es : List Ev) : Prop := es.Pairwise fun x y => x.tk ≤ y.tk
theorem Kp.srd {d : Array En} {es : List Ev} {p : Nat} (h : Kp d es p) : Srd es := by
  obtain ⟨L, rfl, ho, _⟩ := h
  unfold Srd
  rw [List.pairwise_map]
  exact ho.imp fun h => by rw [ltN_yes] at h; omega

end Go.Proofs.Ytaphhgiocahnhaa
