/-
  Words put three times, of which one of each three becomes another one, as plain mathematics.
-/
import Derived.Test.YtpdiilfpbkmebaaMathVoteTwo
namespace Go.Proofs.Ytpdiilfpbkmebaa
open Go.RowKit

/-- Of three words that are x the one at place r is y. -/
theorem t3_struck (x y : Int) {r : Nat} (hr : r < 3) : t3 (if 0 = r then y else x) (if 1 = r then y else x) (if 2 = r then y else x) = x ∧ e3 (if 0 = r then y else x) (if 1 = r then y else x) (if 2 = r then y else x) = 0 ∧
    p3 (if 0 = r then y else x) (if 1 = r then y else x) (if 2 = r then y else x) = if y = x then [] else [(r : Int)] := by
  by_cases c : y = x
  · subst c
    simp [t3, e3, p3]
  · have c' : ¬ x = y := fun e => c e.symm
    obtain rfl | rfl | rfl : r = 0 ∨ r = 1 ∨ r = 2 := by omega
    · simp [t3, e3, p3, c]
    · simp [t3, e3, p3, c]
    · simp [t3, e3, p3, c, c']

/-- The words when k threes have been gone through: R tells the place, O the word. -/
def bk (L O : List Int) (R : Nat → Nat) : Nat → List Int
  | 0 => thrice L
  | k + 1 => (bk L O R k).set (3 * k + R k) (O.getD k 0)
/-- The fixes that are wanted of them. -/
def wk (L O : List Int) (R : Nat → Nat) : Nat → List Fx
  | 0 => []
  | k + 1 => if O.getD k 0 = L.getD k 0 then wk L O R k else wk L O R k ++ [⟨((3 * k + R k : Nat) : Int), O.getD k 0, L.getD k 0⟩]
section
variable {L O : List Int} {R : Nat → Nat}
theorem bk_succ (k : Nat) : bk L O R (k + 1) = (bk L O R k).set (3 * k + R k) (O.getD k 0) := rfl
theorem wk_succ (k : Nat) : wk L O R (k + 1) = if O.getD k 0 = L.getD k 0 then wk L O R k else wk L O R k ++ [⟨((3 * k + R k : Nat) : Int), O.getD k 0, L.getD k 0⟩] := rfl
theorem bk_len (k : Nat) : (bk L O R k).length = 3 * L.length := by
  induction k with
  | zero => exact thrice_len L
  | succ k ih => show ((bk L O R k).set _ _).length = _; rw [List.length_set, ih]
theorem wk_len (k : Nat) : (wk L O R k).length ≤ k := by
  induction k with
  | zero => exact Nat.le_refl _
  | succ k ih =>
    unfold wk
    split
    · omega
    · rw [List.length_append]; simp; omega
theorem bk_get (hR : ∀ k, R k < 3) : ∀ (k j p : Nat), k ≤ L.length → p < 3 → (bk L O R k).getD (3 * j + p) 0 = if j < k ∧ p = R j then O.getD j 0 else L.getD j 0
  | 0, j, p, _, hp => by
    rw [if_neg (by omega)]
    show (thrice L).getD _ 0 = _
    rw [thrice_at, show (3 * j + p) / 3 = j by omega]
  | k + 1, j, p, hk, hp => by
    show ((bk L O R k).set _ _).getD _ 0 = _
    have := hR k
    have := hR j
    rw [set_getD _ _ _ _ (by rw [bk_len]; omega), bk_get hR k j p (by omega) hp]
    by_cases c : 3 * j + p = 3 * k + R k
    · have e : j = k := by omega
      subst e
      rw [if_pos c, if_pos ⟨by omega, by omega⟩]
    · rw [if_neg c]
      by_cases c2 : j < k ∧ p = R j
      · rw [if_pos c2, if_pos ⟨by omega, c2.2⟩]
      · rw [if_neg c2, if_neg]
        intro c3
        by_cases e : j = k
        · subst e; omega
        · exact c2 ⟨by omega, c3.2⟩
/-- What is told of them. -/
theorem cl_struck (hR : ∀ k, R k < 3) (hl : L.length ≤ 1024) : clE (bk L O R L.length) = 0 ∧ clW (bk L O R L.length) = L ∧ clF (bk L O R L.length) = wk L O R L.length := by
  obtain ⟨n, hn⟩ : ∃ n, n = L.length := ⟨_, rfl⟩
  rw [← hn]
  have hlen : (bk L O R n).length = 3 * n := by rw [bk_len, hn]
  have each : ∀ k p, k < n → p < 3 → (bk L O R n).getD (3 * k + p) 0 = if p = R k then O.getD k 0 else L.getD k 0 := fun k p hk hp => by
    rw [bk_get hR n k p (by omega) hp]
    by_cases c : p = R k
    · rw [if_pos c, if_pos ⟨hk, c⟩]
    · rw [if_neg c, if_neg fun h => c h.2]
  have one : ∀ k, k < n → wd (bk L O R n) k = L.getD k 0 ∧ lk (bk L O R n) k = 0 ∧ pl (bk L O R n) k = if O.getD k 0 = L.getD k 0 then [] else [(R k : Int)] := fun k hk => by
    unfold wd lk pl
    have e0 := each k 0 hk (by omega)
    rw [Nat.add_zero] at e0
    rw [e0, each k 1 hk (by omega), each k 2 hk (by omega)]
    exact t3_struck (L.getD k 0) (O.getD k 0) (hR k)
  have q : (bk L O R n).length / 3 = n := by omega
  have he : clE (bk L O R n) = 0 := clE_all (by omega) (by omega) (fun k hk => (one k (by omega)).2.1)
  refine ⟨he, ?_, ?_⟩
  · rw [clW_yes he, q]
    apply list_eq
    · rw [wds_len, hn]
    · intro j hj
      rw [wds_len] at hj
      rw [wds_get _ hj, (one j hj).1]
  · rw [clF_yes he, q]
    have : ∀ k, k ≤ n → fxs (bk L O R n) k = wk L O R k := by
      intro k
      induction k with
      | zero => intro _; rfl
      | succ k ih =>
        intro hk
        rw [fxs_snoc, ih (by omega), wk_succ]
        unfold fx1
        rw [(one k (by omega)).2.2]
        by_cases c : O.getD k 0 = L.getD k 0
        · rw [if_pos c, if_pos c, List.map_nil, List.append_nil]
        · rw [if_neg c, if_neg c, List.map_cons, List.map_nil]
          unfold fxo
          rw [Int.toNat_natCast, (one k (by omega)).1, each k (R k) (by omega) (hR k), if_pos rfl]
          rfl
    exact this n (Nat.le_refl _)
end

/-- A slice of bytes that came in reads as a list of bytes. -/
theorem RowIn.readsB {w : World} {a : Option Addr} {len cap : Nat} {zs : List Int} (h : RowIn .u8 w a len cap zs) : ∃ xs : List Int, xs.length = len ∧ Reads .u8 w w.heap.size a xs ∧ ∀ j, 0 ≤ xs.getD j 0 ∧ xs.getD j 0 < 256 := by
  rcases h with ⟨rfl, rfl, rfl, rfl⟩ | ⟨x, rfl, h1, h2, h3, h4, h5⟩
  · exact ⟨[], rfl, Reads.nil, fun j => by simp⟩
  · refine ⟨zs.take len, by simp; omega, fun hn => ?_, fun j => ?_⟩
    · have hn' : 0 < zs.length := by simp at hn; omega
      obtain ⟨b, off, rfl, hc⟩ := ints_at h4 hn'
      refine ⟨b, off, rfl, ?_, fun j hj => ?_⟩
      · exact World.block_lt_of_cell? _ _ (hc 0 hn')
      · have hj' : j < len ∧ j < zs.length := by simp at hj; omega
        rw [hc j hj'.2]; simp [hj'.1]
    · by_cases hj : j < len ∧ j < zs.length
      · have := bounds_u8 (h5 zs[j] (List.getElem_mem hj.2))
        simp [hj.1, hj.2]; omega
      · by_cases h1' : j < len
        · simp [h1', show zs.length ≤ j by omega]
        · simp [List.getElem?_take, h1']

end Go.Proofs.Ytpdiilfpbkmebaa
