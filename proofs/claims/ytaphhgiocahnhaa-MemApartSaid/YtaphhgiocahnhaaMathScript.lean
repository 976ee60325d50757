/-
  Plain mathematics of events: what does nothing, what is struck, in whatever order, and twice. No program is named here.
-/
import Derived.Test.YtaphhgiocahnhaaEvent
namespace Go.Proofs.Ytaphhgiocahnhaa

/-- Exclusive or of two words. -/
def xr (a b : Int) : Int := ((a.toNat ^^^ b.toNat : Nat) : Int)
theorem xr_bd {a b : Int} (ha : a < 18446744073709551616) (hb : b < 18446744073709551616) : 0 ≤ xr a b ∧ xr a b < 18446744073709551616 := by
  unfold xr
  have : a.toNat ^^^ b.toNat < 2 ^ 64 := Nat.xor_lt_two_pow (by omega) (by omega)
  omega
theorem xr_swap (a b c : Int) : xr (xr a b) c = xr (xr a c) b := by
  unfold xr
  simp only [Int.toNat_natCast]
  rw [Nat.xor_assoc, Nat.xor_comm b.toNat, ← Nat.xor_assoc]
theorem xr_back {a : Int} (b : Int) (ha : 0 ≤ a) : xr (xr a b) b = a := by
  unfold xr
  simp only [Int.toNat_natCast]
  rw [Nat.xor_assoc, Nat.xor_self, Nat.xor_zero]
  omega
theorem xr_zero {a : Int} (ha : 0 ≤ a) : xr a 0 = a := by
  unfold xr
  simp only [Int.toNat_zero, Nat.xor_zero]
  omega
theorem xr_same {a b : Int} (ha : 0 ≤ a) (hb : 0 ≤ b) (h : xr a b = a) : b = 0 := by
  unfold xr at h
  have h' : a.toNat ^^^ b.toNat = a.toNat := by omega
  have h2 : a.toNat ^^^ (a.toNat ^^^ b.toNat) = a.toNat ^^^ a.toNat := by rw [h']
  rw [← Nat.xor_assoc, Nat.xor_self, Nat.zero_xor] at h2
  omega

/-- An event does nothing to so many words. -/
def nul (s : Ev) (n : Int) : Bool := s.msk == 0 || (decide (s.ad < 0) || decide (n ≤ s.ad))
theorem nul_false {s : Ev} {n : Int} (h : nul s n = false) : s.msk ≠ 0 ∧ 0 ≤ s.ad ∧ s.ad < n := by
  simp [nul] at h
  omega

/-- Words, struck by an event, and by all. -/
def hit (ws : List Int) (s : Ev) : List Int := if nul s ws.length then ws else ws.set s.ad.toNat (xr (ws.getD s.ad.toNat 0) s.msk)
def strike (es : List Ev) (ws : List Int) : List Int := es.foldl hit ws
theorem hit_nul {ws : List Int} {s : Ev} (h : nul s ws.length = true) : hit ws s = ws := by unfold hit; rw [if_pos h]
theorem hit_set {ws : List Int} {s : Ev} (h : nul s ws.length = false) : hit ws s = ws.set s.ad.toNat (xr (ws.getD s.ad.toNat 0) s.msk) := by unfold hit; rw [if_neg (by simp [h])]
theorem hit_len (ws : List Int) (s : Ev) : (hit ws s).length = ws.length := by unfold hit; split <;> simp
theorem strike_nil (ws : List Int) : strike [] ws = ws := rfl
theorem strike_cons (s : Ev) (es : List Ev) (ws : List Int) : strike (s :: es) ws = strike es (hit ws s) := rfl
theorem strike_one (s : Ev) (ws : List Int) : strike [s] ws = hit ws s := rfl
theorem strike_snoc (es : List Ev) (s : Ev) (ws : List Int) : strike (es ++ [s]) ws = hit (strike es ws) s := by unfold strike; rw [List.foldl_append]; rfl
theorem strike_len (es : List Ev) : ∀ ws : List Int, (strike es ws).length = ws.length := by
  induction es with
  | nil => intro ws; rfl
  | cons s es ih => intro ws; rw [strike_cons, ih, hit_len]
theorem getD_set (xs : List Int) (i j : Nat) (u : Int) : (xs.set i u).getD j 0 = if i = j ∧ j < xs.length then u else xs.getD j 0 := by
  simp only [List.getD_eq_getElem?_getD, List.getElem?_set]
  by_cases h : i = j
  · subst h
    by_cases h2 : i < xs.length
    · simp [h2]
    · simp [h2]
  · simp [h]
theorem Words.set {xs : List Int} (h : Words xs) (i : Nat) {u : Int} (h0 : 0 ≤ u) (h1 : u < 18446744073709551616) : Words (xs.set i u) := fun j => by
  rw [getD_set]
  split
  · exact ⟨h0, h1⟩
  · exact h j
theorem hit_words {ws : List Int} {s : Ev} (h : Words ws) (hs : EvOk s) : Words (hit ws s) := by
  cases hn : nul s ws.length
  · rw [hit_set hn]
    obtain ⟨u0, u1⟩ := h s.ad.toNat
    have := hs.2.2.2.2.2
    exact h.set _ (xr_bd u1 this.2).1 (xr_bd u1 this.2).2
  · rw [hit_nul hn]; exact h
theorem strike_words {es : List Ev} (hs : EvsOk es) : ∀ {ws : List Int}, Words ws → Words (strike es ws) := by
  induction es with
  | nil => intro ws h; exact h
  | cons s es ih => intro ws h; rw [strike_cons]; exact ih (fun t ht => hs t (by simp [ht])) (hit_words h (hs s (by simp)))
theorem ext_getD {xs ys : List Int} (hl : xs.length = ys.length) (h : ∀ j, j < xs.length → xs.getD j 0 = ys.getD j 0) : xs = ys := by
  apply List.ext_getElem hl
  intro j h1 h2
  have := h j h1
  simpa [h1, h2] using this
theorem hit_get (ws : List Int) (s : Ev) (j : Nat) : (hit ws s).getD j 0 = if nul s ws.length = false ∧ s.ad.toNat = j then xr (ws.getD j 0) s.msk else ws.getD j 0 := by
  cases hn : nul s ws.length
  · rw [hit_set hn, getD_set]
    obtain ⟨_, h1, h2⟩ := nul_false hn
    by_cases h : s.ad.toNat = j
    · subst h
      rw [if_pos ⟨rfl, by omega⟩, if_pos ⟨rfl, rfl⟩]
    · rw [if_neg (by omega), if_neg (by omega)]
  · rw [hit_nul hn, if_neg (by simp)]
theorem hit_hit {ws : List Int} (s : Ev) (h : Words ws) : hit (hit ws s) s = ws := by
  apply ext_getD (by rw [hit_len, hit_len])
  intro j _
  rw [hit_get, hit_get, hit_len]
  by_cases hc : nul s ws.length = false ∧ s.ad.toNat = j
  · rw [if_pos hc, if_pos hc, xr_back _ (h j).1]
  · rw [if_neg hc, if_neg hc]
theorem hit_comm (ws : List Int) (s t : Ev) : hit (hit ws s) t = hit (hit ws t) s := by
  apply ext_getD (by simp only [hit_len])
  intro j _
  rw [hit_get, hit_get, hit_get, hit_get, hit_len, hit_len]
  by_cases h1 : nul s ws.length = false ∧ s.ad.toNat = j <;> by_cases h2 : nul t ws.length = false ∧ t.ad.toNat = j <;> simp only [h1, h2, if_true, if_false, and_self]
  exact xr_swap _ _ _
theorem strike_hit (es : List Ev) : ∀ (ws : List Int) (s : Ev), strike es (hit ws s) = hit (strike es ws) s := by
  induction es with
  | nil => intro ws s; rfl
  | cons t es ih => intro ws s; rw [strike_cons, strike_cons, hit_comm, ih]
/-- What is struck twice is what it was. -/
theorem strike_back {es : List Ev} (hs : EvsOk es) : ∀ {ws : List Int}, Words ws → strike es (strike es ws) = ws := by
  induction es with
  | nil => intro ws _; rfl
  | cons s es ih =>
    intro ws h
    rw [strike_cons s es ws, strike_hit, strike_cons, hit_hit _ (strike_words (fun t ht => hs t (by simp [ht])) h)]
    exact ih (fun t ht => hs t (by simp [ht])) h
/-- In whatever order. -/
theorem strike_perm {es es' : List Ev} (h : es.Perm es') : ∀ ws : List Int, strike es ws = strike es' ws := by
  induction h with
  | nil => intro ws; rfl
  | cons s _ ih => intro ws; rw [strike_cons, strike_cons, ih]
  | swap s t l => intro ws; rw [strike_cons, strike_cons, strike_cons, strike_cons, hit_comm]
  | trans _ _ ih1 ih2 => intro ws; rw [ih1, ih2]

/-- Each event does nothing. -/
def quiet (es : List Ev) (n : Int) : Bool := es.all (nul · n)
theorem quiet_snoc (es : List Ev) (s : Ev) (n : Int) : quiet (es ++ [s]) n = (quiet es n && nul s n) := by simp [quiet]
theorem quiet_one (s : Ev) (n : Int) : quiet [s] n = nul s n := by simp [quiet]
theorem quiet_perm {es es' : List Ev} (h : es.Perm es') (n : Int) : quiet es n = quiet es' n := by
  unfold quiet
  rw [Bool.eq_iff_iff, List.all_eq_true, List.all_eq_true]
  exact ⟨fun hh s hs => hh s (h.mem_iff.2 hs), fun hh s hs => hh s (h.mem_iff.1 hs)⟩
theorem strike_quiet {es : List Ev} : ∀ {ws : List Int}, quiet es ws.length = true → strike es ws = ws := by
  induction es with
  | nil => intro ws _; rfl
  | cons s es ih =>
    intro ws h
    simp only [quiet, List.all_cons, Bool.and_eq_true] at h
    rw [strike_cons, hit_nul h.1]
    exact ih (by unfold quiet; exact h.2)
theorem hit_same {ws : List Int} {s : Ev} (h : Words ws) (hs : EvOk s) : decide (hit ws s = ws) = nul s ws.length := by
  cases hn : nul s ws.length
  · obtain ⟨h0, h1, h2⟩ := nul_false hn
    refine decide_eq_false fun e => h0 ?_
    have := congrArg (fun l => l.getD s.ad.toNat 0) e
    simp only [hit_get] at this
    rw [if_pos ⟨hn, trivial⟩] at this
    exact xr_same (h _).1 hs.2.2.2.2.2.1 this
  · exact decide_eq_true (hit_nul hn)

/-- What is wrong with so many events; with so many events and words. -/
def chk (n : Nat) : Int := if 1024 < n then 1 else 0
theorem chk_ok {n : Nat} (h : n ≤ 1024) : chk n = 0 := by unfold chk; rw [if_neg (by omega)]
theorem chk_bad {n : Nat} (h : 1024 < n) : chk n = 1 := by unfold chk; rw [if_pos h]
def stkE (n m : Nat) : Int := if 1024 < n ∨ 16384 < m then 1 else 0
theorem stkE_ok {n m : Nat} (h : n ≤ 1024) (h' : m ≤ 16384) : stkE n m = 0 := by unfold stkE; rw [if_neg (by omega)]
theorem stkE_bad {n m : Nat} (h : 1024 < n ∨ 16384 < m) : stkE n m = 1 := by unfold stkE; rw [if_pos h]

end Go.Proofs.Ytaphhgiocahnhaa
