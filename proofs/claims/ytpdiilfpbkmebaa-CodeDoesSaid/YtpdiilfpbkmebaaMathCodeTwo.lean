/-
  Codewords, as plain mathematics: what Sums, Put, Look and Fix tell; what is a codeword; one word, or one cell of each sum, struck; two words struck.
-/
import Derived.Test.YtpdiilfpbkmebaaMathCode
namespace Go.Proofs.Ytpdiilfpbkmebaa
open Go.RowKit

namespace Cd

/-- What Sums tells: why not, the sums. -/
def smE (p : Int) (n : Nat) : Int := if Fp.kn p = false then 2 else if 4096 < n then 1 else 0
def sm0 (p : Int) (xs : List Int) : Int := if smE p xs.length = 0 then s0 p xs else 0
def sm1 (p : Int) (xs : List Int) : Int := if smE p xs.length = 0 then s1 p xs else 0

/-- What Put tells: why not, the codeword. -/
def kpE (p : Int) (xs : List Int) : Int := if Fp.kn p = false then 2 else if 4096 < xs.length then 1 else if xs.length = 0 then 1 else if inp p xs = true then 0 else 7
def cw (p : Int) (xs : List Int) : List Int := xs ++ thrice [s0 p xs, s1 p xs]
def kpL (p : Int) (xs : List Int) : List Int := if kpE p xs = 0 then cw p xs else []
theorem kpE_zero {p : Int} {xs : List Int} : kpE p xs = 0 ↔ Fp.kn p = true ∧ 1 ≤ xs.length ∧ xs.length ≤ 4096 ∧ inp p xs = true := by
  unfold kpE
  cases h : Fp.kn p
  · simp
  · by_cases h1 : 4096 < xs.length
    · simp [h1]; omega
    · by_cases h2 : xs.length = 0
      · simp [h2]
      · cases h3 : inp p xs
        · simp [h1, h2]
        · simp [h1, h2]; omega
theorem cw_len (p : Int) (xs : List Int) : (cw p xs).length = xs.length + 6 := by unfold cw; rw [List.length_append, thrice_len]; rfl

/-- Why so many words may be no codeword. -/
def lnE (p : Int) (n : Nat) : Int := if Fp.kn p = false then 2 else if n < 7 ∨ 4102 < n then 6 else 0
theorem lnE_zero {p : Int} {n : Nat} : lnE p n = 0 ↔ Fp.kn p = true ∧ 7 ≤ n ∧ n ≤ 4102 := by
  unfold lnE
  cases h : Fp.kn p
  · simp
  · by_cases h1 : n < 7 ∨ 4102 < n
    · rw [if_neg (by decide), if_pos h1]; simp; omega
    · rw [if_neg (by decide), if_neg h1]; simp; omega
theorem lnE_cases (p : Int) (n : Nat) : lnE p n = 0 ∨ lnE p n = 2 ∨ lnE p n = 6 := by
  unfold lnE; split <;> (try split) <;> simp

/-- A row's words, and its cells. -/
def hd (c : List Int) : List Int := c.take (c.length - 6)
def tl (c : List Int) : List Int := c.drop (c.length - 6)
theorem hd_len (c : List Int) : (hd c).length = c.length - 6 := by unfold hd; rw [List.length_take]; omega
theorem tl_len {c : List Int} (h : 6 ≤ c.length) : (tl c).length = 6 := by unfold tl; rw [List.length_drop]; omega
theorem hd_tl (c : List Int) : hd c ++ tl c = c := List.take_append_drop _ _
theorem hd_app {a b : List Int} (h : b.length = 6) : hd (a ++ b) = a := by unfold hd; rw [List.length_append, h, Nat.add_sub_cancel, List.take_left]
theorem tl_app {a b : List Int} (h : b.length = 6) : tl (a ++ b) = b := by unfold tl; rw [List.length_append, h, Nat.add_sub_cancel, List.drop_left]

/-- What Look tells. -/
def lkB (p : Int) (c : List Int) : Bool := decide (lnE p c.length = 0) && (decide (kpE p (hd c) = 0) && decide (c = cw p (hd c)))

/-- What Fix tells: the words that are right; why not; the codeword; the fixes. -/
def fiO (p : Int) (c : List Int) : Option (List Int) := if lnE p c.length = 0 ∧ clE (tl c) = 0 then mn p (hd c) (wd (tl c) 0) (wd (tl c) 1) else none
def fiE (p : Int) (c : List Int) : Int := if lnE p c.length = 0 then (if (fiO p c).isSome = true then 0 else 10) else lnE p c.length
def fiL (p : Int) (c : List Int) : List Int := match fiO p c with | some ys => ys ++ thrice [wd (tl c) 0, wd (tl c) 1] | none => []
def fiF (p : Int) (c : List Int) : List Fx := match fiO p c with | some ys => dif c (ys ++ thrice [wd (tl c) 0, wd (tl c) 1]) c.length | none => []

theorem cl6 {l : List Int} (h : l.length = 6) (he : clE l = 0) : clW l = [wd l 0, wd l 1] ∧ clF l = fxs l 2 ∧ ∀ k, k < 2 → lk l k = 0 := by
  obtain ⟨-, -, h2⟩ := clE_zero he
  have q : l.length / 3 = 2 := by omega
  rw [q] at h2
  refine ⟨?_, ?_, h2⟩
  · rw [clW_yes he, q]; rfl
  · rw [clF_yes he, q]
theorem cl6' {l : List Int} {g h : Int} (hl : l.length = 6) (he : clE l = 0) (hw : clW l = [g, h]) : wd l 0 = g ∧ wd l 1 = h := by
  rw [(cl6 hl he).1] at hw
  simpa using hw

section
variable {p : Int} {xs ys c : List Int} {g h : Int}
theorem fit_cw (hp : Fp.kn p = true) (h1 : 1 ≤ ys.length) (h2 : ys.length ≤ 4096) (hf : fit p ys g h = true) : kpE p ys = 0 ∧ cw p ys = ys ++ thrice [g, h] := by
  have hf' := (fit_iff hp).1 hf
  refine ⟨kpE_zero.2 ⟨hp, h1, h2, (inp_iff hp).2 hf'.1⟩, ?_⟩
  unfold cw
  rw [hf'.2.1, hf'.2.2]
theorem cw_fit (hk : kpE p ys = 0) : fit p ys (s0 p ys) (s1 p ys) = true := by
  obtain ⟨hp, -, -, hi⟩ := kpE_zero.1 hk
  exact (fit_iff hp).2 ⟨(inp_iff hp).1 hi, rfl, rfl⟩
theorem fiE_no (h0 : lnE p c.length ≠ 0) : fiE p c = lnE p c.length ∧ fiL p c = [] ∧ fiF p c = [] := by
  have : fiO p c = none := if_neg (fun e => h0 e.1)
  unfold fiE fiL fiF
  rw [if_neg h0, this]
  exact ⟨rfl, rfl, rfl⟩
theorem fiE_lost (h0 : lnE p c.length = 0) (h1 : fiO p c = none) : fiE p c = 10 ∧ fiL p c = [] ∧ fiF p c = [] := by
  unfold fiE fiL fiF
  rw [if_pos h0, h1]
  exact ⟨rfl, rfl, rfl⟩
theorem fiO_cells (h1 : clE (tl c) ≠ 0) : fiO p c = none := if_neg (fun e => h1 e.2)
theorem fiO_mn (h0 : lnE p c.length = 0) (h1 : clE (tl c) = 0) : fiO p c = mn p (hd c) (wd (tl c) 0) (wd (tl c) 1) := if_pos ⟨h0, h1⟩
/-- What is told is a codeword. -/
theorem fi_some (h0 : lnE p c.length = 0) (h1 : clE (tl c) = 0) (hm : mn p (hd c) (wd (tl c) 0) (wd (tl c) 1) = some ys) :
    kpE p ys = 0 ∧ ys.length = c.length - 6 ∧ fiE p c = 0 ∧ fiL p c = cw p ys ∧ fiF p c = dif c (cw p ys) c.length := by
  obtain ⟨hp, h7, h8⟩ := lnE_zero.1 h0
  have hlen := (mn_len hm).trans (hd_len c)
  obtain ⟨k1, k2⟩ := fit_cw hp (by omega) (by omega) (mn_some hm).1
  have hO := fiO_mn h0 h1
  rw [hm] at hO
  unfold fiE fiL fiF
  rw [if_pos h0, hO, k2]
  exact ⟨k1, hlen, rfl, rfl, rfl⟩
theorem fi_zero (he : fiE p c = 0) : lnE p c.length = 0 ∧ clE (tl c) = 0 ∧ ∃ ys, mn p (hd c) (wd (tl c) 0) (wd (tl c) 1) = some ys := by
  unfold fiE at he
  by_cases h0 : lnE p c.length = 0
  · rw [if_pos h0] at he
    by_cases h1 : clE (tl c) = 0
    · rw [fiO_mn h0 h1] at he
      cases hm : mn p (hd c) (wd (tl c) 0) (wd (tl c) 1) with
      | none => rw [hm] at he; cases he
      | some ys => exact ⟨h0, h1, ys, rfl⟩
    · rw [fiO_cells h1] at he
      cases he
  · rw [if_neg h0] at he; exact absurd he h0
theorem fiE_cases (h0 : lnE p c.length = 0) : fiE p c = 0 ∨ fiE p c = 10 := by
  unfold fiE
  rw [if_pos h0]
  split
  · exact .inl rfl
  · exact .inr rfl
theorem fiE_ten (h0 : lnE p c.length = 0) (h1 : fiE p c ≠ 0) : fiE p c = 10 ∧ fiL p c = [] ∧ fiF p c = [] := by
  refine fiE_lost h0 ?_
  unfold fiE at h1
  rw [if_pos h0] at h1
  cases h2 : fiO p c with
  | none => rfl
  | some ys => rw [h2] at h1; exact absurd rfl h1
theorem fi_none (h1 : fiE p c ≠ 0) : fiL p c = [] ∧ fiF p c = [] := by
  by_cases h0 : lnE p c.length = 0
  · exact (fiE_ten h0 h1).2
  · exact (fiE_no h0).2
theorem cw_lnE (hk : kpE p ys = 0) : lnE p (cw p ys).length = 0 := by
  obtain ⟨hp, h1, h2, -⟩ := kpE_zero.1 hk
  rw [cw_len]
  exact lnE_zero.2 ⟨hp, by omega, by omega⟩
theorem cw_hd : hd (cw p ys) = ys := hd_app rfl
theorem cw_tl : tl (cw p ys) = thrice [s0 p ys, s1 p ys] := tl_app rfl
theorem fi_near {t : List Int} (hk : kpE p ys = 0) (hl : xs.length = ys.length) (ht : t.length = 6) (hc : clE t = 0) (hw : clW t = [s0 p ys, s1 p ys]) (hm : mn p xs (s0 p ys) (s1 p ys) = some ys) :
    fiE p (xs ++ t) = 0 ∧ fiL p (xs ++ t) = cw p ys ∧ fiF p (xs ++ t) = dif (xs ++ t) (cw p ys) (cw p ys).length := by
  have hlen : (xs ++ t).length = (cw p ys).length := by rw [cw_len, List.length_append, hl, ht]
  obtain ⟨w0, w1⟩ := cl6' ht hc hw
  have hln : lnE p (xs ++ t).length = 0 := by rw [hlen]; exact cw_lnE hk
  have := fi_some (p := p) (c := xs ++ t) (ys := ys) hln (by rw [tl_app ht]; exact hc) (by rw [hd_app ht, tl_app ht, w0, w1]; exact hm)
  rw [← hlen]
  exact this.2.2
theorem cw_fix (hk : kpE p ys = 0) : fiE p (cw p ys) = 0 ∧ fiL p (cw p ys) = cw p ys ∧ fiF p (cw p ys) = [] ∧ lkB p (cw p ys) = true := by
  obtain ⟨c0, c1, -⟩ := cl_thrice (ws := [s0 p ys, s1 p ys]) (by simp)
  obtain ⟨a, b, d⟩ := fi_near (t := thrice [s0 p ys, s1 p ys]) hk rfl rfl c0 c1 (mn_fit (cw_fit hk))
  refine ⟨a, b, ?_, ?_⟩
  · show fiF p (ys ++ thrice [s0 p ys, s1 p ys]) = []
    rw [d]
    exact (dif_eq rfl rfl).2 rfl
  · unfold lkB
    rw [decide_eq_true (cw_lnE hk), cw_hd, decide_eq_true hk, decide_eq_true rfl]; rfl
theorem lk_iff : lkB p c = true ↔ ∃ ys, kpE p ys = 0 ∧ c = cw p ys := by
  constructor
  · intro e
    unfold lkB at e
    rw [Bool.and_eq_true, Bool.and_eq_true, decide_eq_true_iff, decide_eq_true_iff, decide_eq_true_iff] at e
    exact ⟨_, e.2.1, e.2.2⟩
  · rintro ⟨ys, h1, rfl⟩; exact (cw_fix h1).2.2.2
theorem lk_no (h0 : lnE p c.length ≠ 0) : lkB p c = false := by unfold lkB; rw [decide_eq_false h0]; rfl
/-- All is well just if there is nothing to be fixed. -/
theorem lk_fix : lkB p c = true ↔ fiE p c = 0 ∧ fiF p c = [] := by
  rw [lk_iff]
  constructor
  · rintro ⟨ys, h1, rfl⟩
    have := cw_fix h1
    exact ⟨this.1, this.2.2.1⟩
  · rintro ⟨h1, h2⟩
    obtain ⟨h0, h3, ys, hm⟩ := fi_zero h1
    obtain ⟨k1, k2, -, -, k5⟩ := fi_some h0 h3 hm
    obtain ⟨hp, h7, h8⟩ := lnE_zero.1 h0
    rw [k5] at h2
    exact ⟨ys, k1, (dif_eq rfl (by rw [cw_len]; omega)).1 h2⟩
theorem lk_self (hl : lkB p c = true) : fiL p c = c := by
  obtain ⟨ys, h1, rfl⟩ := lk_iff.1 hl
  exact (cw_fix h1).2.1

/-- One word struck: the words are found. -/
theorem mn_near (hp : Fp.kn p = true) (hl : xs.length ≤ 4096) (hx : Words xs) (hf : fit p xs g h = true) {k : Nat} (hk : k < xs.length) {u : Int} (u0 : 0 ≤ u) : mn p (xs.set k u) g h = some xs := by
  obtain ⟨hi, e0, e1⟩ := (fit_iff hp).1 hf
  have hxk := hi k hk
  have hx0 := (hx k).1
  by_cases e : u = xs.getD k 0
  · have : xs.set k u = xs := by
      apply list_eq (by rw [List.length_set])
      intro j hj
      rw [List.length_set] at hj
      rw [put_get xs k j u hk]
      by_cases d : j = k
      · rw [if_pos d, e, d]
      · rw [if_neg d]
    rw [this]
    exact mn_fit hf
  · have hS : S0 (xs.set k u) (xs.set k u).length = S0 xs xs.length + (u - xs.getD k 0) := by rw [List.length_set, S0_set xs k u hk, if_pos hk]
    have hn : nx p (xs.set k u) g k = xs.getD k 0 := by
      unfold nx
      rw [hS, put_get xs k k u hk, if_pos rfl, ← e0]
      unfold s0
      obtain ⟨q, hq⟩ := Fp.md_split (p := p) (S0 xs xs.length)
      refine Fp.md_eq (q := -q) hx0 hxk ?_
      rw [Int.mul_neg]; omega
    have hmd : md p (xs.set k u) g k = xs := by
      unfold md
      rw [hn]
      apply list_eq (by rw [List.length_set, List.length_set])
      intro j hj
      rw [List.length_set, List.length_set] at hj
      rw [put_get _ k j _ (by rw [List.length_set]; exact hk), put_get xs k j u hk]
      by_cases d : j = k
      · rw [if_pos d, d]
      · rw [if_neg d, if_neg d]
    have hno : fit p (xs.set k u) g h = false := by
      cases c : fit p (xs.set k u) g h
      · rfl
      · exfalso
        obtain ⟨a1, a2, -⟩ := (fit_iff hp).1 c
        have hu := a1 k (by rw [List.length_set]; exact hk)
        rw [put_get xs k k u hk, if_pos rfl] at hu
        have : (S0 xs xs.length + (u - xs.getD k 0)) % p = S0 xs xs.length % p := by
          unfold s0 at a2 e0
          rw [hS] at a2
          rw [a2, e0]
        rw [Int.emod_eq_emod_iff_emod_sub_eq_zero, show S0 xs xs.length + (u - xs.getD k 0) - S0 xs xs.length = u - xs.getD k 0 by omega] at this
        have h1 := Int.natAbs_dvd_natAbs.2 (Int.dvd_of_emod_eq_zero this)
        have h2 := Nat.le_of_dvd (by omega) h1
        omega
    have := mn_at (i := k) hp (by rw [List.length_set]; exact hl) hno (by rw [List.length_set]; exact hk) (by rw [hmd]; exact hf)
    rw [this, hmd]
end

/-- One cell of each sum struck. -/
theorem struck6 (g h a b : Int) {i j : Nat} (hi : i < 3) (hj : j < 3) : clE (((thrice [g, h]).set i a).set (3 + j) b) = 0 ∧ clW (((thrice [g, h]).set i a).set (3 + j) b) = [g, h] := by
  have := cl_struck (L := [g, h]) (O := [a, b]) (R := fun k => if k = 0 then i else j) (fun k => by split <;> assumption) (by simp)
  have e : bk [g, h] [a, b] (fun k => if k = 0 then i else j) [g, h].length = ((thrice [g, h]).set i a).set (3 + j) b := by
    show (((thrice [g, h]).set (3 * 0 + i) a).set (3 * 1 + j) b) = _
    rw [Nat.mul_zero, Nat.zero_add]
  rw [e] at this
  exact ⟨this.1, this.2.1⟩
theorem struck1 (g h u : Int) {q : Nat} (hq : q < 6) : clE ((thrice [g, h]).set q u) = 0 ∧ clW ((thrice [g, h]).set q u) = [g, h] := by
  have ht : thrice [g, h] = [g, g, g, h, h, h] := rfl
  by_cases c : q < 3
  · have := struck6 g h u h c (j := 0) (by omega)
    have e : ((thrice [g, h]).set q u).set (3 + 0) h = (thrice [g, h]).set q u := by
      obtain rfl | rfl | rfl : q = 0 ∨ q = 1 ∨ q = 2 := by omega
      all_goals rw [ht]; rfl
    rwa [e] at this
  · have := struck6 g h g u (i := 0) (by omega) (j := q - 3) (by omega)
    have e : ((thrice [g, h]).set 0 g).set (3 + (q - 3)) u = (thrice [g, h]).set q u := by
      rw [show 3 + (q - 3) = q by omega, ht]; rfl
    rwa [e] at this

section
variable {p : Int} {xs c : List Int}
theorem set_left {a b : List Int} {k : Nat} (h : k < a.length) (u : Int) : (a ++ b).set k u = a.set k u ++ b := by rw [List.set_append, if_pos h]
theorem set_right {a b : List Int} {k : Nat} (h : a.length ≤ k) (u : Int) : (a ++ b).set k u = a ++ b.set (k - a.length) u := by rw [List.set_append, if_neg (by omega)]

/-- Whatever becomes of one word, or cell, the codeword is told, and just that fix. -/
theorem fix_one (hk : kpE p xs = 0) (hx : Words xs) {k : Nat} (hl : k < (cw p xs).length) {u : Int} (u0 : 0 ≤ u) :
    fiE p ((cw p xs).set k u) = 0 ∧ fiL p ((cw p xs).set k u) = cw p xs ∧ fiF p ((cw p xs).set k u) = (if u ≠ (cw p xs).getD k 0 then [⟨(k : Int), u, (cw p xs).getD k 0⟩] else []) ∧ lkB p ((cw p xs).set k u) = decide (u = (cw p xs).getD k 0) := by
  obtain ⟨hp, h1, h2, -⟩ := kpE_zero.1 hk
  have key : fiE p ((cw p xs).set k u) = 0 ∧ fiL p ((cw p xs).set k u) = cw p xs ∧ fiF p ((cw p xs).set k u) = dif ((cw p xs).set k u) (cw p xs) (cw p xs).length := by
    by_cases c : k < xs.length
    · obtain ⟨c0, c1, -⟩ := cl_thrice (ws := [s0 p xs, s1 p xs]) (by simp)
      have e : (cw p xs).set k u = xs.set k u ++ thrice [s0 p xs, s1 p xs] := set_left c u
      rw [e]
      exact fi_near hk (by rw [List.length_set]) rfl c0 c1 (mn_near hp h2 hx (cw_fit hk) c u0)
    · rw [cw_len] at hl
      have e : (cw p xs).set k u = xs ++ (thrice [s0 p xs, s1 p xs]).set (k - xs.length) u := set_right (by omega) u
      obtain ⟨c0, c1⟩ := struck1 (s0 p xs) (s1 p xs) u (q := k - xs.length) (by omega)
      rw [e]
      exact fi_near hk rfl (by rw [List.length_set]; rfl) c0 c1 (mn_fit (cw_fit hk))
  obtain ⟨a, b, d⟩ := key
  rw [dif_set' _ _ _ hl] at d
  have d' : fiF p ((cw p xs).set k u) = (if u ≠ (cw p xs).getD k 0 then [⟨(k : Int), u, (cw p xs).getD k 0⟩] else []) := by
    rw [d]
    by_cases e : u ≠ (cw p xs).getD k 0
    · rw [if_pos ⟨hl, e⟩, if_pos e]
    · rw [if_neg (fun x => e x.2), if_neg e]
  refine ⟨a, b, d', ?_⟩
  rw [Bool.eq_iff_iff, decide_eq_true_iff, lk_fix, d']
  by_cases e : u = (cw p xs).getD k 0
  · rw [if_neg (fun x => x e)]; exact ⟨fun _ => e, fun _ => ⟨a, rfl⟩⟩
  · rw [if_pos e]; exact ⟨fun x => by simp at x, fun x => absurd x e⟩
/-- One cell of each sum may be whatever it may. -/
theorem fix_cells (hk : kpE p xs = 0) {i j : Nat} (hi : i < 3) (hj : j < 3) (a b : Int) :
    fiE p (((cw p xs).set (xs.length + i) a).set (xs.length + 3 + j) b) = 0 ∧ fiL p (((cw p xs).set (xs.length + i) a).set (xs.length + 3 + j) b) = cw p xs ∧ fiF p (((cw p xs).set (xs.length + i) a).set (xs.length + 3 + j) b) = dif (((cw p xs).set (xs.length + i) a).set (xs.length + 3 + j) b) (cw p xs) (cw p xs).length := by
  have e : ((cw p xs).set (xs.length + i) a).set (xs.length + 3 + j) b = xs ++ ((thrice [s0 p xs, s1 p xs]).set i a).set (3 + j) b := by
    show ((xs ++ thrice [s0 p xs, s1 p xs]).set (xs.length + i) a).set (xs.length + 3 + j) b = _
    rw [set_right (by omega), set_right (by omega), show xs.length + i - xs.length = i by omega, show xs.length + 3 + j - xs.length = 3 + j by omega]
  rw [e]
  obtain ⟨c0, c1⟩ := struck6 (s0 p xs) (s1 p xs) a b hi hj
  exact fi_near hk rfl (by rw [List.length_set, List.length_set]; rfl) c0 c1 (mn_fit (cw_fit hk))

theorem thrice_two {a b c d : Int} (h : thrice [a, b] = thrice [c, d]) : a = c ∧ b = d := by
  have h1 := congrArg (fun l => l.getD 0 0) h
  have h2 := congrArg (fun l => l.getD 3 0) h
  exact ⟨by simpa [thrice] using h1, by simpa [thrice] using h2⟩
/-- With two of its words changed Look is false. -/
theorem look_two (hk : kpE p xs = 0) (hx : Words xs) {k m : Nat} (hkl : k < xs.length) (hml : m < xs.length) (hne : k ≠ m) {a b : Int} (b0 : 0 ≤ b) (hb : b ≠ xs.getD m 0) :
    lkB p (((cw p xs).set k a).set m b) = false := by
  obtain ⟨hp, h1, h2, hi⟩ := kpE_zero.1 hk
  obtain ⟨p1, p2⟩ := Fp.kn_bd hp
  cases hl : lkB p (((cw p xs).set k a).set m b)
  · rfl
  · exfalso
    have e : ((cw p xs).set k a).set m b = (xs.set k a).set m b ++ thrice [s0 p xs, s1 p xs] := by
      show ((xs ++ thrice [s0 p xs, s1 p xs]).set k a).set m b = _
      rw [set_left hkl, set_left (by rw [List.length_set]; exact hml)]
    rw [e] at hl
    obtain ⟨ys, k1, k2⟩ := lk_iff.1 hl
    have e1 := congrArg hd k2
    have e2 := congrArg tl k2
    rw [hd_app rfl, cw_hd] at e1
    rw [tl_app rfl, cw_tl] at e2
    obtain ⟨q0, q1⟩ := thrice_two e2
    subst e1
    obtain ⟨-, -, -, hi2⟩ := kpE_zero.1 k1
    have hbm := (inp_iff hp).1 hi2 m (by rw [List.length_set, List.length_set]; exact hml)
    rw [put_get _ _ _ _ (by rw [List.length_set]; exact hml), if_pos rfl] at hbm
    have hxm := (inp_iff hp).1 hi m hml
    have hx0 := (hx m).1
    unfold s0 at q0
    unfold s1 at q1
    have l1 : ((xs.set k a).set m b).length = xs.length := by rw [List.length_set, List.length_set]
    have g1 : (xs.set k a).getD m 0 = xs.getD m 0 := by rw [put_get _ _ _ _ hkl, if_neg (fun e => hne e.symm)]
    rw [l1, S0_set _ _ _ (by rw [List.length_set]; exact hml), if_pos hml, S0_set _ _ _ hkl, if_pos hkl, g1, eq_comm, Int.emod_eq_emod_iff_emod_sub_eq_zero] at q0
    rw [l1, S1_set _ _ _ (by rw [List.length_set]; exact hml), if_pos hml, S1_set _ _ _ hkl, if_pos hkl, g1, eq_comm, Int.emod_eq_emod_iff_emod_sub_eq_zero] at q1
    have hd0 := Int.dvd_of_emod_eq_zero q0
    have hd1 := Int.dvd_of_emod_eq_zero q1
    have hd2 : p ∣ ((m : Int) - (k : Int)) * (b - xs.getD m 0) := by
      obtain ⟨z0, hz0⟩ := hd0
      obtain ⟨z1, hz1⟩ := hd1
      refine ⟨z1 - ((k : Int) + 1) * z0, ?_⟩
      generalize b - xs.getD m 0 = v at *
      generalize a - xs.getD k 0 = u at *
      generalize S0 xs xs.length = A at *
      generalize S1 xs xs.length = B at *
      generalize (k : Int) = K at *
      generalize (m : Int) = M at *
      grind
    have e0 := Int.emod_eq_zero_of_dvd hd2
    rw [Fp.mul_zero_iff hp] at e0
    rcases e0 with e0 | e0
    · have h3 := Int.natAbs_dvd_natAbs.2 (Int.dvd_of_emod_eq_zero e0)
      have h4 := Nat.le_of_dvd (by omega) h3
      omega
    · have h3 := Int.natAbs_dvd_natAbs.2 (Int.dvd_of_emod_eq_zero e0)
      have h4 := Nat.le_of_dvd (by omega) h3
      omega

/-- Of the fixes there is one word's at the most, and two cells'. -/
theorem fix_few (he : fiE p c = 0) : ((fiF p c).filter fun s => decide (s.ad < ((c.length - 6 : Nat) : Int))).length ≤ 1 ∧ (fiF p c).length ≤ ((fiF p c).filter fun s => decide (s.ad < ((c.length - 6 : Nat) : Int))).length + 2 := by
  obtain ⟨h0, h1, ys, hm⟩ := fi_zero he
  obtain ⟨k1, k2, -, k4, k5⟩ := fi_some h0 h1 hm
  obtain ⟨hp, h7, h8⟩ := lnE_zero.1 h0
  have ht := tl_len (c := c) (by omega)
  obtain ⟨w0, w1, w2⟩ := cl6 ht h1
  obtain ⟨k6, k7⟩ := fit_cw hp (by omega) (by omega) (mn_some hm).1
  have hn : (hd c).length = c.length - 6 := hd_len c
  rw [k5, k7]
  have hsp : dif c (ys ++ thrice [wd (tl c) 0, wd (tl c) 1]) c.length = dif (hd c) ys (c.length - 6) ++ (fxs (tl c) 2).map (mv (c.length - 6)) := by
    have e := dif_app (a := hd c) (a' := ys) (b := tl c) (b' := thrice [wd (tl c) 0, wd (tl c) 1]) hn k2 6
    rw [hd_tl, show c.length - 6 + 6 = c.length by omega] at e
    rw [e, show thrice [wd (tl c) 0, wd (tl c) 1] = thrice (wds (tl c) 2) from rfl, dif_thrice (n := 2) w2 2 (Nat.le_refl _)]
  rw [hsp]
  have f1 : (dif (hd c) ys (c.length - 6)).filter (fun s => decide (s.ad < ((c.length - 6 : Nat) : Int))) = dif (hd c) ys (c.length - 6) := by
    rw [List.filter_eq_self]
    intro s hs
    obtain ⟨j, hj, rfl, -⟩ := dif_mem _ hs
    simp only [decide_eq_true_eq]; omega
  have f2 : ((fxs (tl c) 2).map (mv (c.length - 6))).filter (fun s => decide (s.ad < ((c.length - 6 : Nat) : Int))) = [] := by
    rw [List.filter_eq_nil_iff]
    intro s hs
    obtain ⟨t, ht, rfl⟩ := List.mem_map.1 hs
    have := (fxs_bd ht).1
    unfold mv
    simp only [decide_eq_true_eq]; omega
  rw [List.filter_append, f1, f2, List.append_nil, List.length_append, List.length_map]
  have g2 := fxs_len (tl c) 2
  have g1 : (dif (hd c) ys (c.length - 6)).length ≤ 1 := by
    obtain ⟨-, ⟨rfl, -⟩ | ⟨-, i, hi, rfl⟩⟩ := mn_some hm
    · rw [(dif_eq hn hn).2 rfl]; simp
    · unfold md
      rw [dif_set _ _ _ hi]
      split <;> simp
  omega
end

end Cd
end Go.Proofs.Ytpdiilfpbkmebaa
