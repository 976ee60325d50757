/-
  Plain mathematics of a stable sort of events by their ticks: exchanges, blocks that change places, merges; what is in order and keeps, of each tick, those that have it as they stood, is one list.
-/
import Derived.Test.YtbdcpjpdonednaaMathScript
import Derived.Sort.LotA
namespace Go.Proofs.Ytbdcpjpdonednaa
open Go.Sort

/-- A part of a row. -/
def seg (f : Nat → Ev) (s n : Nat) : List Ev := (List.range n).map fun i => f (s + i)
theorem seg_add (f : Nat → Ev) (s n k : Nat) : seg f s (n + k) = seg f s n ++ seg f (s + n) k := by
  unfold seg
  rw [List.range_add, List.map_append, List.map_map]
  congr 1
  apply List.map_congr_left
  intro i _
  simp [Nat.add_assoc]
theorem seg_congr {f g : Nat → Ev} {s s' n : Nat} (h : ∀ i, i < n → f (s + i) = g (s' + i)) : seg f s n = seg g s' n := by
  unfold seg
  exact List.map_congr_left fun i hi => h i (List.mem_range.1 hi)
theorem seg_len (f : Nat → Ev) (s n : Nat) : (seg f s n).length = n := by simp [seg]
theorem mem_seg {f : Nat → Ev} {s n : Nat} {x : Ev} : x ∈ seg f s n ↔ ∃ i, i < n ∧ f (s + i) = x := by
  unfold seg
  simp [List.mem_map]
theorem toList_seg (d : Array Ev) : d.toList = seg (fun i => d[i]!) 0 d.size := by
  apply List.ext_getElem
  · simp [seg]
  · intro i h1 h2
    have : i < d.size := by simpa using h1
    simp [seg, this]

/-- Of each tick those that have it, as they stand. -/
def tks (t : Int) (l : List Ev) : List Ev := l.filter fun s => s.tk == t
theorem tks_append (t : Int) (l l' : List Ev) : tks t (l ++ l') = tks t l ++ tks t l' := List.filter_append ..
theorem tks_none {t : Int} {l : List Ev} (h : ∀ s ∈ l, s.tk ≠ t) : tks t l = [] := by
  unfold tks
  rw [List.filter_eq_nil_iff]
  intro s hs
  simpa using h s hs
/-- Two blocks that have no tick in common change places. -/
theorem tks_swap (t : Int) {A B : List Ev} (h : ∀ s ∈ A, ∀ u ∈ B, s.tk ≠ u.tk) : tks t (A ++ B) = tks t (B ++ A) := by
  rw [tks_append, tks_append]
  by_cases hA : ∃ s ∈ A, s.tk = t
  · obtain ⟨s, hs, rfl⟩ := hA
    rw [tks_none (l := B) fun u hu => (h s hs u hu).symm]
    simp
  · rw [tks_none (l := A) fun s hs e => hA ⟨s, hs, e⟩]
    simp

/-- As many, and of each tick the same ones in the same order. -/
def Stb (d d' : Array Ev) : Prop := d'.size = d.size ∧ ∀ t, tks t d'.toList = tks t d.toList
theorem Stb.refl (d : Array Ev) : Stb d d := ⟨rfl, fun _ => rfl⟩
theorem Stb.trans {d d' d'' : Array Ev} (h : Stb d d') (h' : Stb d' d'') : Stb d d'' := ⟨h'.1.trans h.1, fun t => (h'.2 t).trans (h.2 t)⟩

/-- Two blocks behind each other, [a, m) and [m, b), change places. -/
def rot (a m b : Nat) (f : Nat → Ev) (i : Nat) : Ev := if i < a ∨ b ≤ i then f i else if i < a + (b - m) then f (i + (m - a)) else f (i - (b - m))
theorem rot_out {a m b : Nat} {f : Nat → Ev} {i : Nat} (h : i < a ∨ b ≤ i) : rot a m b f i = f i := by unfold rot; rw [if_pos h]
theorem rot_left {a m b : Nat} {f : Nat → Ev} {i : Nat} (h1 : a ≤ i) (h2 : i < a + (b - m)) (h3 : i < b) : rot a m b f i = f (i + (m - a)) := by unfold rot; rw [if_neg (by omega), if_pos h2]
theorem rot_right {a m b : Nat} {f : Nat → Ev} {i : Nat} (h1 : a + (b - m) ≤ i) (h2 : i < b) : rot a m b f i = f (i - (b - m)) := by unfold rot; rw [if_neg (by omega), if_neg (by omega)]
theorem Stb.rot {d d' : Array Ev} {a m b : Nat} (ham : a ≤ m) (hmb : m ≤ b) (hb : b ≤ d.size) (hs : d'.size = d.size) (hd : ∀ i, i < d.size → d'[i]! = rot a m b (fun i => d[i]!) i)
    (hk : ∀ p q, a ≤ p → p < m → m ≤ q → q < b → (d[p]!).tk ≠ (d[q]!).tk) : Stb d d' := by
  refine ⟨hs, fun t => ?_⟩
  have e1 : d.toList = seg (fun i => d[i]!) 0 a ++ ((seg (fun i => d[i]!) a (m - a) ++ seg (fun i => d[i]!) m (b - m)) ++ seg (fun i => d[i]!) b (d.size - b)) := by
    have h1 := seg_add (fun i => d[i]!) 0 a (d.size - a)
    have h2 := seg_add (fun i => d[i]!) a (b - a) (d.size - b)
    have h3 := seg_add (fun i => d[i]!) a (m - a) (b - m)
    rw [toList_seg]
    rw [show a + (d.size - a) = d.size by omega, Nat.zero_add] at h1
    rw [show b - a + (d.size - b) = d.size - a by omega, show a + (b - a) = b by omega] at h2
    rw [show m - a + (b - m) = b - a by omega, show a + (m - a) = m by omega] at h3
    rw [h1, h2, h3]
  have e2 : d'.toList = seg (fun i => d[i]!) 0 a ++ ((seg (fun i => d[i]!) m (b - m) ++ seg (fun i => d[i]!) a (m - a)) ++ seg (fun i => d[i]!) b (d.size - b)) := by
    have h1 := seg_add (fun i => d'[i]!) 0 a (d.size - a)
    have h2 := seg_add (fun i => d'[i]!) a (b - a) (d.size - b)
    have h3 := seg_add (fun i => d'[i]!) a (b - m) (m - a)
    rw [toList_seg, hs]
    rw [show a + (d.size - a) = d.size by omega, Nat.zero_add] at h1
    rw [show b - a + (d.size - b) = d.size - a by omega, show a + (b - a) = b by omega] at h2
    rw [show b - m + (m - a) = b - a by omega] at h3
    rw [h1, h2, h3]
    congr 1
    · exact seg_congr fun i hi => by rw [hd _ (by omega), rot_out (by omega)]
    · congr 1
      · congr 1
        · exact seg_congr fun i hi => by rw [hd _ (by omega), rot_left (by omega) (by omega) (by omega)]; congr 1; omega
        · exact seg_congr fun i hi => by rw [hd _ (by omega), rot_right (by omega) (by omega)]; congr 1; omega
      · exact seg_congr fun i hi => by rw [hd _ (by omega), rot_out (by omega)]
  rw [e1, e2, tks_append, tks_append, tks_append t (seg _ 0 a), tks_append t (_ ++ _)]
  congr 2
  refine (tks_swap t fun s hs' u hu => ?_).symm
  obtain ⟨i, hi, rfl⟩ := mem_seg.1 hs'
  obtain ⟨j, hj, rfl⟩ := mem_seg.1 hu
  exact hk (a + i) (m + j) (by omega) (by omega) (by omega) (by omega)

/-- An exchange, place by place. -/
theorem swp_get (d : Array Ev) (i j k : Nat) (hi : i < d.size) (hj : j < d.size) : (swp d i j)[k]! = if k = j then d[i]! else if k = i then d[j]! else d[k]! := by
  unfold swp
  by_cases hkj : k = j
  · subst hkj; rw [if_pos rfl]; simp [hj]
  · rw [if_neg hkj]
    by_cases hki : k = i
    · subst hki; rw [if_pos rfl]; simp [hi, Array.getElem!_eq_getD, Array.getD_eq_getD_getElem?, Ne.symm hkj]
    · rw [if_neg hki]; simp [Array.getElem!_eq_getD, Array.getD_eq_getD_getElem?, Ne.symm hkj, Ne.symm hki]
/-- An exchange of neighbours whose ticks differ. -/
theorem Stb.swp {d : Array Ev} {p : Nat} (hp : p + 1 < d.size) (hk : (d[p]!).tk ≠ (d[p + 1]!).tk) : Stb d (swp d (p + 1) p) := by
  refine Stb.rot (a := p) (m := p + 1) (b := p + 2) (by omega) (by omega) (by omega) (size_swp d _ _) (fun i hi => ?_) (fun x y h1 h2 h3 h4 => ?_)
  · rw [swp_get d (p + 1) p i hp (by omega)]
    by_cases h1 : i = p
    · subst h1; rw [if_pos rfl, rot_left (by omega) (by omega) (by omega)]; congr 1; omega
    · rw [if_neg h1]
      by_cases h2 : i = p + 1
      · subst h2; rw [if_pos rfl, rot_right (by omega) (by omega)]; congr 1; omega
      · rw [if_neg h2, rot_out (by omega)]
  · obtain rfl : x = p := by omega
    obtain rfl : y = x + 1 := by omega
    exact hk

/-! What is in order. -/
def Srt (a b : Nat) (d : Array Ev) : Prop := ∀ i j, a ≤ i → i < j → j < b → (d[i]!).tk ≤ (d[j]!).tk
def Out (a b : Nat) (d d' : Array Ev) : Prop := ∀ i, i < a ∨ b ≤ i → d'[i]! = d[i]!
def Sub (a b : Nat) (d d' : Array Ev) : Prop := ∀ i, a ≤ i → i < b → ∃ j, a ≤ j ∧ j < b ∧ d'[i]! = d[j]!
theorem Srt.le {a b : Nat} {d : Array Ev} (h : Srt a b d) {i j : Nat} (h1 : a ≤ i) (h2 : i ≤ j) (h3 : j < b) : (d[i]!).tk ≤ (d[j]!).tk := by
  rcases Nat.lt_or_eq_of_le h2 with h' | rfl
  · exact h _ _ h1 h' h3
  · omega
theorem Srt.part {a b a' b' : Nat} {d : Array Ev} (h : Srt a b d) (h1 : a ≤ a') (h2 : b' ≤ b) : Srt a' b' d := fun i j h3 h4 h5 => h i j (by omega) h4 (by omega)
theorem Srt.few {a b : Nat} {d : Array Ev} (h : b ≤ a + 1) : Srt a b d := fun i j h1 h2 h3 => by omega
theorem Srt.out {a b x y : Nat} {d d' : Array Ev} (h : Srt a b d) (ho : Out x y d d') (hd : b ≤ x ∨ y ≤ a) : Srt a b d' := fun i j h1 h2 h3 => by
  rw [ho i (by omega), ho j (by omega)]
  exact h i j h1 h2 h3

/-- What a merge of [a, b) makes: of each tick the same ones; all else as it was; in order. -/
structure Mg (a b : Nat) (d d' : Array Ev) : Prop where
  stb : Stb d d'
  out : Out a b d d'
  sub : Sub a b d d'
  srt : Srt a b d'
theorem Mg.same {a b : Nat} {d : Array Ev} (h : Srt a b d) : Mg a b d d := ⟨Stb.refl d, fun _ _ => rfl, fun i h1 h2 => ⟨i, h1, h2, rfl⟩, h⟩
theorem Mg.size {a b : Nat} {d d' : Array Ev} (h : Mg a b d d') : d'.size = d.size := h.stb.1

/-- One event ahead, put behind those that are less. -/
theorem Mg.ahead {d d' : Array Ev} {a i b : Nat} (hb : b ≤ d.size) (hai : a + 1 ≤ i) (hib : i ≤ b) (hs : d'.size = d.size) (hd : ∀ k, k < d.size → d'[k]! = rot a (a + 1) i (fun k => d[k]!) k)
    (hS : Srt (a + 1) b d) (h1 : ∀ h, a + 1 ≤ h → h < i → (d[h]!).tk < (d[a]!).tk) (h2 : ∀ h, i ≤ h → h < b → (d[a]!).tk ≤ (d[h]!).tk) : Mg a b d d' := by
  have e1 : ∀ k, a ≤ k → k < i - 1 → d'[k]! = d[k + 1]! := fun k hk hk' => by rw [hd k (by omega), rot_left hk (by omega) (by omega)]; congr 1; omega
  have e2 : d'[i - 1]! = d[a]! := by rw [hd (i - 1) (by omega), rot_right (by omega) (by omega)]; congr 1; omega
  have e3 : ∀ k, k < d.size → k < a ∨ i ≤ k → d'[k]! = d[k]! := fun k hk h => by rw [hd k hk, rot_out h]
  refine ⟨Stb.rot (m := a + 1) (by omega) hai (by omega) hs hd (fun p q p1 p2 p3 p4 => ?_), fun k hk => ?_, fun k k1 k2 => ?_, fun x y x1 x2 x3 => ?_⟩
  · obtain rfl : p = a := by omega
    have := h1 q p3 p4
    omega
  · by_cases hks : k < d.size
    · exact e3 k hks (by omega)
    · simp [hks, hs]
  · by_cases c1 : k < i - 1
    · exact ⟨k + 1, by omega, by omega, e1 k k1 c1⟩
    · by_cases c2 : k = i - 1
      · exact ⟨a, by omega, by omega, by rw [c2, e2]⟩
      · exact ⟨k, k1, k2, e3 k (by omega) (by omega)⟩
  · by_cases c1 : x < i - 1
    · rw [e1 x x1 c1]
      by_cases c2 : y < i - 1
      · rw [e1 y (by omega) c2]; exact hS.le (by omega) (by omega) (by omega)
      · by_cases c3 : y = i - 1
        · rw [c3, e2]; have := h1 (x + 1) (by omega) (by omega); omega
        · rw [e3 y (by omega) (by omega)]; exact hS.le (by omega) (by omega) (by omega)
    · by_cases c2 : x = i - 1
      · rw [c2, e2, e3 y (by omega) (by omega)]; exact h2 y (by omega) (by omega)
      · rw [e3 x (by omega) (by omega), e3 y (by omega) (by omega)]; exact hS.le (by omega) (by omega) (by omega)

/-- One event behind, put ahead of those that are greater. -/
theorem Mg.behind {d d' : Array Ev} {a i m : Nat} (hb : m + 1 ≤ d.size) (hai : a ≤ i) (him : i ≤ m) (hs : d'.size = d.size) (hd : ∀ k, k < d.size → d'[k]! = rot i m (m + 1) (fun k => d[k]!) k)
    (hS : Srt a m d) (h1 : ∀ h, a ≤ h → h < i → (d[h]!).tk ≤ (d[m]!).tk) (h2 : ∀ h, i ≤ h → h < m → (d[m]!).tk < (d[h]!).tk) : Mg a (m + 1) d d' := by
  have e1 : d'[i]! = d[m]! := by rw [hd i (by omega), rot_left (by omega) (by omega) (by omega)]; congr 1; omega
  have e2 : ∀ k, i < k → k < m + 1 → d'[k]! = d[k - 1]! := fun k hk hk' => by rw [hd k (by omega), rot_right (by omega) (by omega)]; congr 1; omega
  have e3 : ∀ k, k < d.size → k < i ∨ m + 1 ≤ k → d'[k]! = d[k]! := fun k hk h => by rw [hd k hk, rot_out h]
  refine ⟨Stb.rot (a := i) (m := m) (b := m + 1) him (by omega) hb hs hd (fun p q p1 p2 p3 p4 => ?_), fun k hk => ?_, fun k k1 k2 => ?_, fun x y x1 x2 x3 => ?_⟩
  · obtain rfl : q = m := by omega
    have := h2 p p1 p2
    omega
  · by_cases hks : k < d.size
    · exact e3 k hks (by omega)
    · simp [hks, hs]
  · by_cases c1 : k < i
    · exact ⟨k, k1, k2, e3 k (by omega) (by omega)⟩
    · by_cases c2 : k = i
      · exact ⟨m, by omega, by omega, by rw [c2, e1]⟩
      · exact ⟨k - 1, by omega, by omega, e2 k (by omega) (by omega)⟩
  · by_cases c1 : x < i
    · rw [e3 x (by omega) (by omega)]
      by_cases c2 : y < i
      · rw [e3 y (by omega) (by omega)]; exact hS.le (by omega) (by omega) (by omega)
      · by_cases c3 : y = i
        · rw [c3, e1]; exact h1 x x1 c1
        · rw [e2 y (by omega) (by omega)]; exact hS.le (by omega) (by omega) (by omega)
    · by_cases c2 : x = i
      · rw [c2, e1, e2 y (by omega) (by omega)]; have := h2 (y - 1) (by omega) (by omega); omega
      · rw [e2 x (by omega) (by omega), e2 y (by omega) (by omega)]; exact hS.le (by omega) (by omega) (by omega)

/-- Both halves turned round a place, and each half merged: all is. -/
theorem Mg.both {d d1 d2 d3 : Array Ev} {a m b mid st en : Nat} (hb : b ≤ d.size) (h1 : a ≤ st) (h2 : st ≤ m) (h3 : m ≤ en) (h4 : en ≤ b) (hse : st + en = mid + m) (hA : Srt a m d) (hB : Srt m b d)
    (lo : ∀ p q, a ≤ p → p < st → en ≤ q → q < b → (d[p]!).tk ≤ (d[q]!).tk) (hi : ∀ p q, st ≤ p → p < m → m ≤ q → q < en → (d[q]!).tk < (d[p]!).tk)
    (hs1 : d1.size = d.size) (hd : ∀ k, k < d.size → d1[k]! = rot st m en (fun k => d[k]!) k) (hM2 : Srt a st d1 → Srt st mid d1 → Mg a mid d1 d2) (hM3 : Srt mid en d2 → Srt en b d2 → Mg mid b d2 d3) : Mg a b d d3 := by
  have eL : ∀ k, k < st → d1[k]! = d[k]! := fun k hk => by rw [hd k (by omega), rot_out (by omega)]
  have eM : ∀ k, st ≤ k → k < mid → d1[k]! = d[k + (m - st)]! := fun k h h' => by rw [hd k (by omega), rot_left (by omega) (by omega) (by omega)]
  have eN : ∀ k, mid ≤ k → k < en → d1[k]! = d[k - (en - m)]! := fun k h h' => by rw [hd k (by omega), rot_right (by omega) (by omega)]
  have eR : ∀ k, k < d.size → en ≤ k → d1[k]! = d[k]! := fun k hk h => by rw [hd k hk, rot_out (by omega)]
  have m2 := hM2 (fun i j i1 i2 i3 => by rw [eL i (by omega), eL j (by omega)]; exact hA i j i1 i2 (by omega)) (fun i j i1 i2 i3 => by rw [eM i i1 (by omega), eM j (by omega) i3]; exact hB.le (by omega) (by omega) (by omega))
  have m3 := hM3 (fun i j i1 i2 i3 => by rw [m2.out i (by omega), m2.out j (by omega), eN i i1 (by omega), eN j (by omega) i3]; exact hA.le (by omega) (by omega) (by omega))
    (fun i j i1 i2 i3 => by rw [m2.out i (by omega), m2.out j (by omega), eR i (by omega) i1, eR j (by omega) (by omega)]; exact hB i j (by omega) i2 i3)
  have stb1 : Stb d d1 := Stb.rot h2 h3 (by omega) hs1 hd (fun p q p1 p2 p3 p4 => by have := hi p q p1 p2 p3 p4; omega)
  have sub1 : ∀ k, a ≤ k → k < b → ∃ j, a ≤ j ∧ j < b ∧ d1[k]! = d[j]! := fun k k1 k2 => by
    by_cases c1 : k < st
    · exact ⟨k, k1, k2, eL k c1⟩
    · by_cases c2 : k < mid
      · exact ⟨_, by omega, by omega, eM k (by omega) c2⟩
      · by_cases c3 : k < en
        · exact ⟨_, by omega, by omega, eN k (by omega) c3⟩
        · exact ⟨k, k1, k2, eR k (by omega) (by omega)⟩
  have cross : ∀ p q, a ≤ p → p < mid → mid ≤ q → q < b → (d1[p]!).tk ≤ (d1[q]!).tk := fun p q p1 p2 q1 q2 => by
    by_cases c1 : p < st
    · rw [eL p c1]
      by_cases c2 : q < en
      · rw [eN q q1 c2]; exact hA.le p1 (by omega) (by omega)
      · rw [eR q (by omega) (by omega)]; exact lo p q p1 c1 (by omega) q2
    · rw [eM p (by omega) p2]
      by_cases c2 : q < en
      · rw [eN q q1 c2]
        have := hi (q - (en - m)) (p + (m - st)) (by omega) (by omega) (by omega) (by omega)
        omega
      · rw [eR q (by omega) (by omega)]; exact hB.le (by omega) (by omega) q2
  refine ⟨(stb1.trans m2.stb).trans m3.stb, fun k hk => ?_, fun k k1 k2 => ?_, fun x y x1 x2 x3 => ?_⟩
  · rw [m3.out k (by omega), m2.out k (by omega)]
    by_cases hks : k < d.size
    · rcases hk with h | h
      · exact eL k (by omega)
      · exact eR k hks (by omega)
    · simp [hks, hs1]
  · by_cases c : k < mid
    · rw [m3.out k (by omega)]
      obtain ⟨j, j1, j2, e⟩ := m2.sub k k1 c
      rw [e]
      exact sub1 j j1 (by omega)
    · obtain ⟨j, j1, j2, e⟩ := m3.sub k (by omega) k2
      rw [e, m2.out j (by omega)]
      exact sub1 j (by omega) j2
  · by_cases c1 : y < mid
    · rw [m3.out x (by omega), m3.out y (by omega)]; exact m2.srt x y x1 x2 c1
    · by_cases c2 : x < mid
      · rw [m3.out x (by omega)]
        obtain ⟨j, j1, j2, e⟩ := m2.sub x x1 c2
        obtain ⟨k, k1, k2, e'⟩ := m3.sub y (by omega) x3
        rw [e, e', m2.out k (by omega)]
        exact cross j k j1 j2 k1 k2
      · exact m3.srt x y (by omega) x2 x3

/-! Blocks of one length change places; a rotation is made of such. -/
def swr (a b n : Nat) (f : Nat → Ev) (i : Nat) : Ev := if a ≤ i ∧ i < a + n then f (i - a + b) else if b ≤ i ∧ i < b + n then f (i - b + a) else f i
theorem swr_zero (a b : Nat) (f : Nat → Ev) (i : Nat) : swr a b 0 f i = f i := by
  unfold swr
  rw [if_neg (by omega), if_neg (by omega)]
theorem swr_step {d d' : Array Ev} {f : Nat → Ev} {a b n : Nat} (hab : a + n < b) (hb : b + n < d.size) (hd : ∀ k, k < d.size → d[k]! = swr a b n f k) (e : d' = swp d (a + n) (b + n)) : ∀ k, k < d'.size → d'[k]! = swr a b (n + 1) f k := by
  subst e
  intro k hk
  rw [size_swp] at hk
  rw [swp_get d _ _ k (by omega) hb]
  by_cases c1 : k = b + n
  · rw [if_pos c1, hd _ (by omega), c1]
    unfold swr
    rw [if_neg (by omega), if_neg (by omega), if_neg (by omega), if_pos (by omega)]
    congr 1; omega
  · rw [if_neg c1]
    by_cases c2 : k = a + n
    · rw [if_pos c2, hd _ hb, c2]
      unfold swr
      rw [if_neg (by omega), if_neg (by omega), if_pos (by omega)]
      congr 1; omega
    · rw [if_neg c2, hd k hk]
      unfold swr
      by_cases c3 : a ≤ k ∧ k < a + n
      · rw [if_pos c3, if_pos (by omega)]
      · rw [if_neg c3, if_neg (c := a ≤ k ∧ k < a + (n + 1)) (by omega)]
        by_cases c4 : b ≤ k ∧ k < b + n
        · rw [if_pos c4, if_pos (by omega)]
        · rw [if_neg c4, if_neg (by omega)]
theorem rot_more {m i j : Nat} (f : Nat → Ev) (him : i ≤ m) (hij : j < i) (k : Nat) : rot (m - i) m (m + j) f k = rot (m - (i - j)) m (m + j) (swr (m - i) m j f) k := by
  unfold rot swr
  by_cases c0 : k < m - i ∨ m + j ≤ k
  · rw [if_pos c0, if_pos (by omega), if_neg (by omega), if_neg (by omega)]
  · rw [if_neg c0]
    by_cases c1 : k < m - i + j
    · rw [if_pos (by omega), if_pos (c := k < m - (i - j) ∨ m + j ≤ k) (by omega), if_pos (by omega)]
      congr 1; omega
    · rw [if_neg (by omega), if_neg (c := k < m - (i - j) ∨ m + j ≤ k) (by omega)]
      by_cases c2 : k < m - (i - j) + j
      · rw [if_pos (by omega), if_neg (by omega), if_pos (by omega)]
        congr 1; omega
      · rw [if_neg (by omega), if_neg (by omega), if_neg (by omega)]
theorem rot_less {m i j : Nat} (f : Nat → Ev) (him : i ≤ m) (hij : i < j) (k : Nat) : rot (m - i) m (m + j) f k = rot (m - i) m (m + (j - i)) (swr (m - i) (m + j - i) i f) k := by
  unfold rot swr
  by_cases c0 : k < m - i ∨ m + j ≤ k
  · rw [if_pos c0, if_pos (by omega), if_neg (by omega), if_neg (by omega)]
  · rw [if_neg c0]
    by_cases c1 : k < m - i + j
    · rw [if_pos (by omega)]
      by_cases c2 : k < m - i + (j - i)
      · rw [if_neg (by omega), if_pos (by omega)]
        by_cases c3 : k + (m - (m - i)) < m + j - i
        · rw [if_neg (by omega), if_neg (by omega)]
        · exfalso; omega
      · by_cases c3 : m + (j - i) ≤ k
        · exfalso; omega
        · rw [if_neg (by omega), if_neg (by omega)]
          rw [if_pos (by omega)]
          congr 1; omega
    · rw [if_neg (by omega), if_pos (by omega), if_neg (by omega), if_pos (by omega)]
      congr 1; omega
theorem rot_even {m i : Nat} (f : Nat → Ev) (him : i ≤ m) (k : Nat) : rot (m - i) m (m + i) f k = swr (m - i) m i f k := by
  unfold rot swr
  by_cases c0 : k < m - i ∨ m + i ≤ k
  · rw [if_pos c0, if_neg (by omega), if_neg (by omega)]
  · rw [if_neg c0]
    by_cases c1 : k < m
    · rw [if_pos (by omega), if_pos (by omega)]
      congr 1; omega
    · rw [if_neg (by omega), if_neg (by omega), if_pos (by omega)]
      congr 1; omega
theorem rot_congr {a m b n : Nat} {f g : Nat → Ev} (hb : b ≤ n) (ham : a ≤ m) (hmb : m ≤ b) (h : ∀ k, k < n → f k = g k) (k : Nat) (hk : k < n) : rot a m b f k = rot a m b g k := by
  unfold rot
  by_cases c0 : k < a ∨ b ≤ k
  · rw [if_pos c0, if_pos c0]; exact h k hk
  · rw [if_neg c0, if_neg c0]
    by_cases c1 : k < a + (b - m)
    · rw [if_pos c1, if_pos c1]; exact h _ (by omega)
    · rw [if_neg c1, if_neg c1]; exact h _ (by omega)

/-! One event goes up, or down, by exchanges of neighbours. -/
theorem rot_up {d d' : Array Ev} {f : Nat → Ev} {a k : Nat} (hak : a ≤ k) (hk : k + 1 < d.size) (hd : ∀ i, i < d.size → d[i]! = rot a (a + 1) (k + 1) f i) (e : d' = swp d k (k + 1)) : ∀ i, i < d'.size → d'[i]! = rot a (a + 1) (k + 2) f i := by
  subst e
  intro i hi
  rw [size_swp] at hi
  rw [swp_get d _ _ i (by omega) hk]
  by_cases c1 : i = k + 1
  · rw [if_pos c1, hd _ (by omega), c1, rot_right (by omega) (by omega), rot_right (by omega) (by omega)]
    congr 1; omega
  · rw [if_neg c1]
    by_cases c2 : i = k
    · rw [if_pos c2, hd _ hk, c2, rot_out (by omega), rot_left (by omega) (by omega) (by omega)]
      congr 1; omega
    · rw [if_neg c2, hd i hi]
      by_cases c3 : i < a ∨ k + 2 ≤ i
      · rw [rot_out (by omega), rot_out (by omega)]
      · rw [rot_left (by omega) (by omega) (by omega), rot_left (by omega) (by omega) (by omega)]
theorem rot_down {d d' : Array Ev} {f : Nat → Ev} {k m : Nat} (hkm : k < m) (hm : m < d.size) (hd : ∀ i, i < d.size → d[i]! = rot (k + 1) m (m + 1) f i) (e : d' = swp d (k + 1) k) : ∀ i, i < d'.size → d'[i]! = rot k m (m + 1) f i := by
  subst e
  intro i hi
  rw [size_swp] at hi
  rw [swp_get d _ _ i (by omega) (by omega)]
  by_cases c1 : i = k
  · rw [if_pos c1, hd _ (by omega), c1, rot_left (by omega) (by omega) (by omega), rot_left (by omega) (by omega) (by omega)]
    congr 1; omega
  · rw [if_neg c1]
    by_cases c2 : i = k + 1
    · rw [if_pos c2, hd _ (by omega), c2, rot_out (by omega), rot_right (by omega) (by omega)]
      congr 1; omega
    · rw [if_neg c2, hd i hi]
      by_cases c3 : i < k ∨ m + 1 ≤ i
      · rw [rot_out (by omega), rot_out (by omega)]
      · rw [rot_right (by omega) (by omega), rot_right (by omega) (by omega)]

/-! Where a search by halves comes to. -/
/-- The halves, as they are turned: what is known of the place that the search has found. -/
theorem turn_facts {d : Array Ev} {a m b mid st s0 r0 : Nat} (hmb : m < b) (hmid : mid = (a + b) / 2) (hs0 : s0 = if mid < m then mid + m - b else a) (hr0 : r0 = if mid < m then mid else m) (h1 : s0 ≤ st) (h2 : st ≤ r0) (hA : Srt a m d) (hB : Srt m b d)
    (lo : ∀ c, s0 ≤ c → c < st → (d[c]!).tk ≤ (d[mid + m - 1 - c]!).tk) (hi : ∀ c, st ≤ c → c < r0 → (d[mid + m - 1 - c]!).tk < (d[c]!).tk) :
    (∀ p q, a ≤ p → p < st → mid + m - st ≤ q → q < b → (d[p]!).tk ≤ (d[q]!).tk) ∧ (∀ p q, st ≤ p → p < m → m ≤ q → q < mid + m - st → (d[q]!).tk < (d[p]!).tk) := by
  constructor
  · intro p q p1 p2 q1 q2
    have hst : s0 < st := by
      rcases Nat.lt_or_ge s0 st with h | h
      · exact h
      · split at hs0 <;> omega
    have h3 := lo (st - 1) (by omega) (by omega)
    have e : mid + m - 1 - (st - 1) = mid + m - st := by omega
    rw [e] at h3
    have h4 := hA.le (i := p) (j := st - 1) p1 (by omega) (by split at hr0 <;> omega)
    have h5 := hB.le (i := mid + m - st) (j := q) (by split at hr0 <;> omega) q1 q2
    omega
  · intro p q p1 p2 q1 q2
    have hst : st < r0 := by
      rcases Nat.lt_or_ge st r0 with h | h
      · exact h
      · split at hr0 <;> omega
    have h3 := hi st (Nat.le_refl _) hst
    have h4 := hA.le (i := st) (j := p) (by split at hs0 <;> omega) p1 p2
    have h5 := hB.le (i := q) (j := mid + m - 1 - st) q1 (by omega) (by split at hs0 <;> omega)
    omega

/-! The insertion that the library makes of a block. -/
def cfE (x y : Ev) : Int := if x.tk < y.tk then -1 else if y.tk < x.tk then 1 else 0
theorem cfE_lt (x y : Ev) : decide (cfE x y < 0) = decide (x.tk < y.tk) := by
  unfold cfE
  by_cases h : x.tk < y.tk
  · rw [if_pos h]; simp [h]
  · rw [if_neg h]
    by_cases h' : y.tk < x.tk
    · rw [if_pos h']; simp [h]
    · rw [if_neg h']; simp [h]
def ltE (x y : Ev) : Bool := decide (x.tk < y.tk)
theorem ltE_swo : SWO ltE where
  irrefl x := by simp [ltE]
  trans x y z h1 h2 := by simp [ltE] at *; omega
  ntrans x y z h1 h2 := by simp [ltE] at *; omega
theorem inner_stb (a : Nat) : ∀ (j : Nat) (d : Array Ev), j < d.size → Stb d (insInner ltE a j d)
  | 0, d, _ => Stb.refl d
  | j + 1, d, hj => by
    unfold insInner
    by_cases h : (decide (j + 1 > a) && ltE d[j + 1]! d[j]!) = true
    · rw [if_pos h]
      have hl : (d[j + 1]!).tk < (d[j]!).tk := by
        simp only [Bool.and_eq_true, ltE, decide_eq_true_eq] at h
        exact h.2
      exact (Stb.swp (p := j) hj (by omega)).trans (inner_stb a j (swp d (j + 1) j) (by rw [size_swp]; omega))
    · rw [if_neg h]; exact Stb.refl d
theorem outer_stb (a b : Nat) : ∀ (n i : Nat) (d : Array Ev), b - i = n → b ≤ d.size → Stb d (insOuter ltE a b i d)
  | 0, i, d, hn, _ => by
    unfold insOuter
    rw [if_neg (by omega)]
    exact Stb.refl d
  | n + 1, i, d, hn, hb => by
    unfold insOuter
    rw [if_pos (by omega)]
    have h1 := inner_stb a i d (by omega)
    exact h1.trans (outer_stb a b n (i + 1) _ (by omega) (by rw [h1.1]; exact hb))
theorem Mg.ins {d : Array Ev} {a b : Nat} (hab : a ≤ b) (hb : b ≤ d.size) : Stb d (insertionSort ltE d a b) ∧ Out a b d (insertionSort ltE d a b) ∧ Srt a b (insertionSort ltE d a b) := by
  obtain ⟨hp, hs⟩ := insertionSort_holds ltE_swo d a b hab hb
  refine ⟨outer_stb a b _ (a + 1) d rfl hb, hp.2.1, fun i j h1 h2 h3 => ?_⟩
  have := hs i j h1 h2 h3
  simp only [ltE, decide_eq_false_iff_not] at this
  omega

/-! What is in order, and keeps of each tick those that have it, is one list. -/
def SrtL (l : List Ev) : Prop := l.Pairwise fun x y => x.tk ≤ y.tk
theorem srt_toList {d : Array Ev} (h : Srt 0 d.size d) : SrtL d.toList := by
  unfold SrtL
  rw [List.pairwise_iff_getElem]
  intro i j hi hj hij
  have hi' : i < d.size := by simpa using hi
  have hj' : j < d.size := by simpa using hj
  have := h i j (Nat.zero_le _) hij hj'
  simpa [hi', hj'] using this
theorem tks_head {x : Ev} {l : List Ev} : tks x.tk (x :: l) = x :: tks x.tk l := by simp [tks]
theorem tks_other {x : Ev} {l : List Ev} {t : Int} (h : x.tk ≠ t) : tks t (x :: l) = tks t l := by simp [tks, h]
theorem mem_tks {x : Ev} {t : Int} {l : List Ev} : x ∈ tks t l ↔ x ∈ l ∧ x.tk = t := by simp [tks]
theorem one_list : ∀ (xs ys : List Ev), SrtL xs → SrtL ys → (∀ t, tks t xs = tks t ys) → xs = ys
  | [], [], _, _, _ => rfl
  | [], y :: ys, _, _, h => by
    have := h y.tk
    rw [tks_head] at this
    simp [tks] at this
  | x :: xs, [], _, _, h => by
    have := h x.tk
    rw [tks_head] at this
    simp [tks] at this
  | x :: xs, y :: ys, hx, hy, h => by
    obtain ⟨x1, x2⟩ := List.pairwise_cons.1 hx
    obtain ⟨y1, y2⟩ := List.pairwise_cons.1 hy
    have hyx : y.tk ≤ x.tk := by
      have h1 : x ∈ tks x.tk (y :: ys) := by rw [← h x.tk, tks_head]; simp
      rcases List.mem_cons.1 (mem_tks.1 h1).1 with e | hm
      · rw [e]; omega
      · exact y1 x hm
    have hxy : x.tk ≤ y.tk := by
      have h1 : y ∈ tks y.tk (x :: xs) := by rw [h y.tk, tks_head]; simp
      rcases List.mem_cons.1 (mem_tks.1 h1).1 with e | hm
      · rw [e]; omega
      · exact x1 y hm
    have he : y.tk = x.tk := by omega
    have h0 := h x.tk
    rw [tks_head, ← he, tks_head, he] at h0
    simp only [List.cons.injEq] at h0
    obtain ⟨rfl, h0'⟩ := h0
    congr 1
    refine one_list xs ys x2 y2 fun t => ?_
    by_cases ht : x.tk = t
    · rw [← ht]; exact h0'
    · have := h t
      rwa [tks_other ht, tks_other ht] at this

end Go.Proofs.Ytbdcpjpdonednaa
