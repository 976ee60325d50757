/-
  Three of each, as plain mathematics, once more: two rows, one behind the other; fixes made; words struck one of each three.
-/
import Derived.Test.YtpdiilfpbkmebaaMathVote
namespace Go.Proofs.Ytpdiilfpbkmebaa
open Go.RowKit

theorem app_left {l m : List Int} {j : Nat} (h : j < l.length) : (l ++ m).getD j 0 = l.getD j 0 := by
  rw [List.getD_eq_getElem?_getD, List.getElem?_append_left h, ← List.getD_eq_getElem?_getD]
theorem app_right {l m : List Int} {n j : Nat} (hn : l.length = n) (h : n ≤ j) : (l ++ m).getD j 0 = m.getD (j - n) 0 := by
  subst hn
  rw [List.getD_eq_getElem?_getD, List.getElem?_append_right h, ← List.getD_eq_getElem?_getD]

/-- A fix, moved along. -/
def mv (d : Nat) (s : Fx) : Fx := ⟨s.ad + (d : Int), s.bd, s.gd⟩

section
variable {l m : List Int} {n1 n2 : Nat}
theorem wd_left (hl : l.length = 3 * n1) {k : Nat} (hk : k < n1) : wd (l ++ m) k = wd l k ∧ lk (l ++ m) k = lk l k ∧ pl (l ++ m) k = pl l k := by
  unfold wd lk pl
  rw [app_left (j := 3 * k) (by omega), app_left (j := 3 * k + 1) (by omega), app_left (j := 3 * k + 2) (by omega)]
  exact ⟨rfl, rfl, rfl⟩
theorem wd_right (hl : l.length = 3 * n1) (k : Nat) : wd (l ++ m) (n1 + k) = wd m k ∧ lk (l ++ m) (n1 + k) = lk m k ∧ pl (l ++ m) (n1 + k) = pl m k := by
  unfold wd lk pl
  rw [app_right (j := 3 * (n1 + k)) hl (by omega), app_right (j := 3 * (n1 + k) + 1) hl (by omega), app_right (j := 3 * (n1 + k) + 2) hl (by omega)]
  rw [show 3 * (n1 + k) - 3 * n1 = 3 * k by omega, show 3 * (n1 + k) + 1 - 3 * n1 = 3 * k + 1 by omega, show 3 * (n1 + k) + 2 - 3 * n1 = 3 * k + 2 by omega]
  exact ⟨rfl, rfl, rfl⟩
theorem pl_bd (xs : List Int) (k : Nat) : ∀ p ∈ pl xs k, 0 ≤ p ∧ p < 3 := p3_bd _ _ _
theorem fx1_left (hl : l.length = 3 * n1) {k : Nat} (hk : k < n1) : fx1 (l ++ m) k = fx1 l k := by
  unfold fx1
  rw [(wd_left hl hk).2.2]
  apply List.map_congr_left
  intro p hp
  have := pl_bd l k p hp
  unfold fxo
  rw [(wd_left hl hk).1, app_left (by omega)]
theorem fx1_right (hl : l.length = 3 * n1) (k : Nat) : fx1 (l ++ m) (n1 + k) = (fx1 m k).map (mv (3 * n1)) := by
  unfold fx1
  rw [(wd_right hl k).2.2, List.map_map]
  apply List.map_congr_left
  intro p hp
  unfold fxo mv
  simp only [Function.comp]
  rw [(wd_right hl k).1, app_right hl (by omega), show 3 * (n1 + k) + p.toNat - 3 * n1 = 3 * k + p.toNat by omega]
  congr 1
  omega
theorem wds_left (hl : l.length = 3 * n1) : wds (l ++ m) n1 = wds l n1 := by
  unfold wds
  apply List.map_congr_left
  intro k hk
  exact (wd_left hl (List.mem_range.1 hk)).1
theorem fxs_left (hl : l.length = 3 * n1) : ∀ k, k ≤ n1 → fxs (l ++ m) k = fxs l k
  | 0, _ => rfl
  | k + 1, hk => by rw [fxs_snoc, fxs_snoc, fxs_left hl k (by omega), fx1_left hl (by omega)]
theorem wds_app (hl : l.length = 3 * n1) : ∀ n2, wds (l ++ m) (n1 + n2) = wds l n1 ++ wds m n2
  | 0 => by rw [Nat.add_zero, wds_left hl]; simp [wds]
  | n2 + 1 => by rw [← Nat.add_assoc, wds_snoc, wds_app hl n2, (wd_right hl n2).1, wds_snoc, List.append_assoc]
theorem fxs_app (hl : l.length = 3 * n1) : ∀ n2, fxs (l ++ m) (n1 + n2) = fxs l n1 ++ (fxs m n2).map (mv (3 * n1))
  | 0 => by rw [Nat.add_zero, fxs_left hl n1 (Nat.le_refl _)]; simp [fxs]
  | n2 + 1 => by rw [← Nat.add_assoc, fxs_snoc, fxs_app hl n2, fx1_right hl n2, fxs_snoc, List.map_append, List.append_assoc]
end

/-- Two rows of threes that are told are told one behind the other. -/
theorem cl_app {l m : List Int} (h1 : clE l = 0) (h2 : clE m = 0) (h : l.length + m.length ≤ 3072) : clE (l ++ m) = 0 ∧ clW (l ++ m) = clW l ++ clW m ∧ clF (l ++ m) = clF l ++ (clF m).map (mv l.length) := by
  obtain ⟨-, a1, b1⟩ := clE_zero h1
  obtain ⟨-, a2, b2⟩ := clE_zero h2
  obtain ⟨n1, e1⟩ : ∃ n1, l.length = 3 * n1 := ⟨l.length / 3, by omega⟩
  obtain ⟨n2, e2⟩ : ∃ n2, m.length = 3 * n2 := ⟨m.length / 3, by omega⟩
  have q1 : l.length / 3 = n1 := by omega
  have q2 : m.length / 3 = n2 := by omega
  have q : (l ++ m).length / 3 = n1 + n2 := by rw [List.length_append]; omega
  have hz : clE (l ++ m) = 0 := clE_all (by rw [List.length_append]; omega) (by rw [List.length_append]; omega) (fun k hk => by
    rw [q] at hk
    by_cases c : k < n1
    · rw [(wd_left e1 c).2.1]; exact b1 k (by omega)
    · obtain ⟨j, rfl⟩ : ∃ j, k = n1 + j := ⟨k - n1, by omega⟩
      rw [(wd_right e1 j).2.1]; exact b2 j (by omega))
  refine ⟨hz, ?_, ?_⟩
  · rw [clW_yes hz, clW_yes h1, clW_yes h2, q, q1, q2, wds_app e1]
  · rw [clF_yes hz, clF_yes h1, clF_yes h2, q, q1, q2, fxs_app e1, e1]

/-- What each fix is: where it is made, what was there, what is there then. -/
theorem fxs_mem {xs : List Int} {n : Nat} {s : Fx} (h : s ∈ fxs xs n) : ∃ k p : Nat, k < n ∧ p < 3 ∧ (p : Int) ∈ pl xs k ∧ s = ⟨((3 * k + p : Nat) : Int), xs.getD (3 * k + p) 0, wd xs k⟩ := by
  unfold fxs at h
  obtain ⟨k, hk, hs⟩ := List.mem_flatMap.1 h
  unfold fx1 at hs
  obtain ⟨q, hq, rfl⟩ := List.mem_map.1 hs
  have hb := pl_bd xs k q hq
  obtain ⟨p, rfl⟩ : ∃ p : Nat, q = (p : Int) := ⟨q.toNat, by omega⟩
  refine ⟨k, p, List.mem_range.1 hk, by omega, hq, ?_⟩
  unfold fxo
  rw [Int.toNat_natCast]
  congr 1
theorem fxs_in {xs : List Int} {n k p : Nat} (hk : k < n) (hp : (p : Int) ∈ pl xs k) : (⟨((3 * k + p : Nat) : Int), xs.getD (3 * k + p) 0, wd xs k⟩ : Fx) ∈ fxs xs n := by
  unfold fxs fx1
  refine List.mem_flatMap.2 ⟨k, List.mem_range.2 hk, List.mem_map.2 ⟨(p : Int), hp, ?_⟩⟩
  unfold fxo
  rw [Int.toNat_natCast]
  congr 1
theorem fxs_bd {xs : List Int} {n : Nat} {s : Fx} (h : s ∈ fxs xs n) : 0 ≤ s.ad ∧ s.ad < 3 * (n : Int) := by
  obtain ⟨k, p, hk, hp, -, rfl⟩ := fxs_mem h
  dsimp only
  omega
/-- Fixes stand in order of places. -/
theorem fxs_rise (xs : List Int) : ∀ n, (fxs xs n).Pairwise (fun s t => s.ad < t.ad)
  | 0 => by simp [fxs]
  | n + 1 => by
    rw [fxs_snoc, List.pairwise_append]
    refine ⟨fxs_rise xs n, ?_, fun s hs t ht => ?_⟩
    · unfold fx1
      have := p3_len (xs.getD (3 * n) 0) (xs.getD (3 * n + 1) 0) (xs.getD (3 * n + 2) 0)
      unfold pl
      match p3 (xs.getD (3 * n) 0) (xs.getD (3 * n + 1) 0) (xs.getD (3 * n + 2) 0), this with
      | [], _ => simp
      | [p], _ => simp
      | _ :: _ :: _, h => simp at h
    · have h1 := (fxs_bd hs).2
      unfold fx1 at ht
      obtain ⟨p, hp, rfl⟩ := List.mem_map.1 ht
      have := pl_bd xs n p hp
      unfold fxo
      dsimp only
      omega

/-- The place that is told has another word; the others have the word that is told. -/
theorem p3_other {a b c : Int} {p : Nat} (hp : (p : Int) ∈ p3 a b c) : (p = 0 ∧ a ≠ t3 a b c) ∨ (p = 1 ∧ b ≠ t3 a b c) ∨ (p = 2 ∧ c ≠ t3 a b c) := by
  unfold p3 at hp
  unfold t3
  split at hp
  · rename_i hbc
    split at hp
    · simp at hp
    · rename_i hab
      have : p = 0 := by simp at hp; omega
      rw [if_pos hbc]
      exact .inl ⟨this, hab⟩
  · rename_i hbc
    split at hp
    · rename_i hca
      have : p = 1 := by simp at hp; omega
      rw [if_neg hbc, if_pos hca]
      exact .inr (.inl ⟨this, hbc⟩)
    · rename_i hca
      split at hp
      · rename_i hab
        have : p = 2 := by simp at hp; omega
        rw [if_neg hbc, if_neg hca, if_pos hab]
        exact .inr (.inr ⟨this, hca⟩)
      · simp at hp
theorem p3_same {a b c : Int} (he : e3 a b c = 0) : (((0 : Nat) : Int) ∉ p3 a b c → a = t3 a b c) ∧ (((1 : Nat) : Int) ∉ p3 a b c → b = t3 a b c) ∧ (((2 : Nat) : Int) ∉ p3 a b c → c = t3 a b c) := by
  unfold e3 at he
  unfold p3 t3
  by_cases hbc : b = c
  · by_cases hab : a = b
    · simp [hbc, hab]
    · simp [← hbc, hab]
  · by_cases hca : c = a
    · subst hca; simp [hbc]
    · by_cases hab : a = b
      · subst hab; simp [hbc, hca]
      · rw [if_neg hbc, if_neg hca, if_neg hab] at he; cases he
theorem pl_other {xs : List Int} {k p : Nat} (hp : (p : Int) ∈ pl xs k) : xs.getD (3 * k + p) 0 ≠ wd xs k := by
  obtain ⟨rfl, h⟩ | ⟨rfl, h⟩ | ⟨rfl, h⟩ := p3_other hp
  · exact h
  · exact h
  · exact h
theorem pl_same {xs : List Int} {k p : Nat} (he : lk xs k = 0) (h3 : p < 3) (hp : (p : Int) ∉ pl xs k) : xs.getD (3 * k + p) 0 = wd xs k := by
  have := p3_same he
  obtain rfl | rfl | rfl : p = 0 ∨ p = 1 ∨ p = 2 := by omega
  · exact this.1 hp
  · exact this.2.1 hp
  · exact this.2.2 hp

/-- Fixes made. -/
def mend (xs : List Int) (fs : List Fx) : List Int := fs.foldl (fun c s => c.set s.ad.toNat s.gd) xs
theorem mend_snoc (xs : List Int) (fs : List Fx) (s : Fx) : mend xs (fs ++ [s]) = (mend xs fs).set s.ad.toNat s.gd := by simp [mend]
theorem mend_len (fs : List Fx) : ∀ xs : List Int, (mend xs fs).length = xs.length := by
  induction fs with
  | nil => intro xs; rfl
  | cons s fs ih => intro xs; show (mend (xs.set s.ad.toNat s.gd) fs).length = _; rw [ih, List.length_set]
theorem set_getD (xs : List Int) (i j : Nat) (u : Int) (hi : i < xs.length) : (xs.set i u).getD j 0 = if j = i then u else xs.getD j 0 := by
  rw [List.getD_eq_getElem?_getD, List.getElem?_set, List.getD_eq_getElem?_getD]
  by_cases c : i = j
  · subst c; rw [if_pos rfl, if_pos rfl, if_pos hi]; rfl
  · rw [if_neg c, if_neg (fun e => c e.symm)]
/-- Where no fix is made nothing changes. -/
theorem mend_far : ∀ (fs : List Fx) (xs : List Int) (j : Nat), (∀ s ∈ fs, 0 ≤ s.ad ∧ s.ad < (xs.length : Int) ∧ s.ad ≠ (j : Int)) → (mend xs fs).getD j 0 = xs.getD j 0
  | [], _, _, _ => rfl
  | s :: fs, xs, j, h => by
    show (mend (xs.set s.ad.toNat s.gd) fs).getD j 0 = _
    obtain ⟨h1, h2, h3⟩ := h s (by simp)
    rw [mend_far fs _ j (fun t ht => by rw [List.length_set]; exact h t (by simp [ht])), set_getD _ _ _ _ (by omega), if_neg (by omega)]
/-- Where a fix is made its word stands, if all that are made there say the same. -/
theorem mend_at : ∀ (fs : List Fx) (xs : List Int) (j : Nat) (u : Int), (∀ s ∈ fs, 0 ≤ s.ad ∧ s.ad < (xs.length : Int) ∧ (s.ad = (j : Int) → s.gd = u)) → (∃ s ∈ fs, s.ad = (j : Int)) → (mend xs fs).getD j 0 = u
  | [], _, _, _, _, h => by obtain ⟨s, hs, _⟩ := h; cases hs
  | s :: fs, xs, j, u, h, hx => by
    show (mend (xs.set s.ad.toNat s.gd) fs).getD j 0 = _
    obtain ⟨h1, h2, h3⟩ := h s (by simp)
    by_cases c : ∃ t ∈ fs, t.ad = (j : Int)
    · exact mend_at fs _ j u (fun t ht => by rw [List.length_set]; exact h t (by simp [ht])) c
    · have hsj : s.ad = (j : Int) := by
        obtain ⟨t, ht, e⟩ := hx
        rcases List.mem_cons.1 ht with rfl | ht
        · exact e
        · exact absurd ⟨t, ht, e⟩ c
      rw [mend_far fs _ j (fun t ht => ⟨(h t (by simp [ht])).1, by rw [List.length_set]; exact (h t (by simp [ht])).2.1, fun e => c ⟨t, ht, e⟩⟩), set_getD _ _ _ _ (by omega), if_pos (by omega), h3 hsj]

/-- A list of numbers is told by its length and its numbers. -/
theorem list_eq {xs ys : List Int} (hl : xs.length = ys.length) (h : ∀ j, j < xs.length → xs.getD j 0 = ys.getD j 0) : xs = ys := by
  apply List.ext_getElem hl
  intro j h1 h2
  have := h j h1
  rw [List.getD_eq_getElem?_getD, List.getD_eq_getElem?_getD, List.getElem?_eq_getElem h1, List.getElem?_eq_getElem h2] at this
  exact this
theorem wds_get (xs : List Int) {n k : Nat} (h : k < n) : (wds xs n).getD k 0 = wd xs k := by simp [wds, h]

/-- With all fixes made each word stands three times. -/
theorem mend_all {xs : List Int} {n : Nat} (hl : xs.length = 3 * n) (he : ∀ k, k < n → lk xs k = 0) : mend xs (fxs xs n) = thrice (wds xs n) := by
  apply list_eq
  · rw [mend_len, thrice_len, wds_len, hl]
  · intro j hj
    rw [mend_len, hl] at hj
    obtain ⟨k, p, hk, hp, rfl⟩ : ∃ k p, k < n ∧ p < 3 ∧ j = 3 * k + p := ⟨j / 3, j % 3, by omega, by omega, by omega⟩
    rw [thrice_at, show (3 * k + p) / 3 = k by omega, wds_get xs hk]
    by_cases c : (p : Int) ∈ pl xs k
    · refine mend_at _ _ _ _ (fun s hs => ?_) ⟨_, fxs_in hk c, rfl⟩
      have hb := fxs_bd hs
      refine ⟨hb.1, by rw [hl]; omega, fun e => ?_⟩
      obtain ⟨k', p', -, hp', -, rfl⟩ := fxs_mem hs
      dsimp only at e ⊢
      have : k' = k := by omega
      rw [this]
    · rw [mend_far _ _ _ (fun s hs => ?_), pl_same (he k hk) hp c]
      have hb := fxs_bd hs
      refine ⟨hb.1, by rw [hl]; omega, fun e => ?_⟩
      obtain ⟨k', p', -, hp', hm, rfl⟩ := fxs_mem hs
      dsimp only at e
      have e1 : k' = k := by omega
      have e2 : p' = p := by omega
      rw [e1, e2] at hm
      exact c hm

/-- Of what was put. -/
theorem cl_thrice {ws : List Int} (h : ws.length ≤ 1024) : clE (thrice ws) = 0 ∧ clW (thrice ws) = ws ∧ clF (thrice ws) = [] := by
  have hl := thrice_len ws
  have each : ∀ k, (thrice ws).getD (3 * k) 0 = ws.getD k 0 ∧ (thrice ws).getD (3 * k + 1) 0 = ws.getD k 0 ∧ (thrice ws).getD (3 * k + 2) 0 = ws.getD k 0 := fun k => by
    rw [thrice_at, thrice_at, thrice_at, show 3 * k / 3 = k by omega, show (3 * k + 1) / 3 = k by omega, show (3 * k + 2) / 3 = k by omega]
    exact ⟨rfl, rfl, rfl⟩
  have hw : ∀ k, wd (thrice ws) k = ws.getD k 0 := fun k => by unfold wd; rw [(each k).1, (each k).2.1, (each k).2.2]; simp [t3]
  have hp : ∀ k, pl (thrice ws) k = [] := fun k => by unfold pl; rw [(each k).1, (each k).2.1, (each k).2.2]; simp [p3]
  have he : clE (thrice ws) = 0 := clE_all (by omega) (by omega) (fun k _ => by unfold lk; rw [(each k).1, (each k).2.1, (each k).2.2]; simp [e3])
  refine ⟨he, ?_, ?_⟩
  · rw [clW_yes he]
    apply list_eq
    · rw [wds_len]; omega
    · intro j hj
      rw [wds_len] at hj
      rw [wds_get _ hj, hw]
  · rw [clF_yes he]
    have : ∀ n, fxs (thrice ws) n = [] := by
      intro n
      induction n with
      | zero => rfl
      | succ n ih => rw [fxs_snoc, ih]; simp [fx1, hp]
    exact this _

end Go.Proofs.Ytpdiilfpbkmebaa
