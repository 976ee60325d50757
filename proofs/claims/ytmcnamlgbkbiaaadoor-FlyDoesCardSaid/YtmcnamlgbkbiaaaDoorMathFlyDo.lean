/-
  Two, three, four and five words, transformed with few products: it is the sum of all, each times its power of the root. Plain mathematics; no function of fly is named here.
-/
import Derived.Test.YtmcnamlgbkbiaaaDoorFlyOne
namespace Go.Proofs.YtmcnamlgbkbiaaaDoor.Fly

/-- All of a list together, counted by p. -/
def smL (p : Int) (xs : List Int) : Int := Fp.sum (el xs) xs.length % p
theorem smL_bd {p : Int} (h : Fp.kn p = true) (xs : List Int) : 0 ≤ smL p xs ∧ smL p xs < p := ⟨Fp.md_lo _ (Fp.kn_pos h), Fp.md_hi _ (Fp.kn_pos h)⟩
theorem smL_eqm (p : Int) (xs : List Int) : Fp.eqm p (smL p xs) (Fp.sum (el xs) xs.length) := Fp.eqm_md p _
theorem sub_eqm {p : Int} (h : Fp.kn p = true) (a b : Int) : Fp.eqm p (Fp.sub p a b) (a - b) := by unfold Fp.sub; rw [if_pos h]; exact Fp.eqm_md p _
theorem mul_eqm {p : Int} (h : Fp.kn p = true) (a b : Int) : Fp.eqm p (Fp.mul p a b) (a * b) := by rw [Fp.mul_kn _ _ h]; exact Fp.eqm_md p _
theorem eqm_sub {p a b c d : Int} (h : Fp.eqm p a b) (k : Fp.eqm p c d) : Fp.eqm p (a - c) (b - d) := by rw [Int.sub_eq_add_neg, Int.sub_eq_add_neg]; exact h.add k.neg
/-- What differs by a multiple of nothing is the same. -/
theorem eqm_times {p s a b : Int} (hs : Fp.eqm p s 0) (c : Int) (h : a - b = c * s) : Fp.eqm p a b := by
  refine Fp.eqm_zero_sub ?_
  rw [h]
  have := (Fp.eqm.rfl (p := p) (a := c)).mul hs
  rwa [Int.mul_zero] at this

section
variable {p : Int} {inv : Bool} {n : Nat}
/-- All powers of the root together are nothing. -/
theorem Rdx.geo (h : Rdx p n) (inv : Bool) : Fp.eqm p (Fp.sum (fun k => root p inv n ^ k) n) 0 := by
  have hl := h.lo
  exact Fp.geo_zero h.kn (a := root p inv n) (n := n) (((h.turns inv).pw _).2 (Nat.dvd_refl n)) (fun e => by
    have h2 := Nat.le_of_dvd (by omega) (((h.turns inv).pw 1).1 (by rw [Int.pow_succ, Int.pow_zero, Int.one_mul]; exact e))
    omega)

/-- A word times a point. -/
theorem tm_eqm (h : Fp.kn p = true) (k : Nat) {a b : Int} (ha : Fp.eqm p a b) : Fp.eqm p (Fp.mul p (pt p inv n k) a) (root p inv n ^ k * b) := (mul_eqm h _ _).trans ((pt_eqm h k).mul ha)
theorem sm2_eqm {a b a' b' : Int} (ha : Fp.eqm p a a') (hb : Fp.eqm p b b') : Fp.eqm p (smL p [a, b]) (a' + b') := by
  refine (smL_eqm p _).trans ?_
  show Fp.eqm p (0 + a + b) _
  rw [Int.zero_add]
  exact ha.add hb
theorem sm4_eqm {a b c d a' b' c' d' : Int} (ha : Fp.eqm p a a') (hb : Fp.eqm p b b') (hc : Fp.eqm p c c') (hd : Fp.eqm p d d') : Fp.eqm p (smL p [a, b, c, d]) (a' + b' + c' + d') := by
  refine (smL_eqm p _).trans ?_
  show Fp.eqm p (0 + a + b + c + d) _
  rw [Int.zero_add]
  exact ((ha.add hb).add hc).add hd
/-- A word of the transform is what comes to the same. -/
theorem word_of (h : Fp.kn p = true) {x : Nat → Int} {u : Nat} {v : Int} (hv : 0 ≤ v ∧ v < p) (he : Fp.eqm p (Fp.sum (fun t => x t * root p inv n ^ (t * u)) n) v) : doN p inv n x u = v := by
  refine same_of ((doN_eqm u).trans (Fp.eqm.trans (Fp.eqm.of ?_) he)) (doN_bd h u) hv
  unfold Fp.fw
  exact Fp.sum_congr fun j _ => by rw [ex_false]
theorem sub_in (h : Fp.kn p = true) (a b : Int) : 0 ≤ Fp.sub p a b ∧ Fp.sub p a b < p := by
  obtain ⟨x, -, y⟩ := Fp.sub_bd p a b
  exact ⟨x, y h⟩
end

section
variable {p : Int} {inv : Bool} {a b c d e : Int}
theorem do2 (h : Rdx p 2) (inv : Bool) (hf : Fine p [a, b]) : doL p inv [a, b] = [smL p [a, b], Fp.sub p a b] := by
  rw [hf.doL]
  show [doN p inv 2 (el [a, b]) 0, doN p inv 2 (el [a, b]) 1] = _
  have hs : Fp.eqm p (1 + root p inv 2 ^ 1) 0 := by
    have := h.geo inv
    simpa [Fp.sum] using this
  generalize hr : root p inv 2 = r at hs
  rw [doN_first, word_of h.kn (sub_in h.kn a b)]
  · rfl
  · rw [hr]
    refine Fp.eqm.trans ?_ (sub_eqm h.kn a b).symm
    refine eqm_times hs b ?_
    simp only [Fp.sum, el, List.getD_cons_zero, List.getD_cons_succ]
    grind

theorem do3 (h : Rdx p 3) (inv : Bool) (hf : Fine p [a, b, c]) :
    doL p inv [a, b, c] = [smL p [a, b, c], smL p [Fp.sub p a c, Fp.mul p (pt p inv 3 1) (Fp.sub p b c)], Fp.sub p (Fp.sub p a b) (Fp.mul p (pt p inv 3 1) (Fp.sub p b c))] := by
  rw [hf.doL]
  show [doN p inv 3 (el [a, b, c]) 0, doN p inv 3 (el [a, b, c]) 1, doN p inv 3 (el [a, b, c]) 2] = _
  have hs : Fp.eqm p (1 + root p inv 3 ^ 1 + root p inv 3 ^ 2) 0 := by
    have := h.geo inv
    simpa [Fp.sum] using this
  have ht := tm_eqm (inv := inv) (n := 3) h.kn 1 (sub_eqm h.kn b c)
  generalize hr : root p inv 3 = r at hs ht
  rw [doN_first, word_of h.kn (smL_bd h.kn [Fp.sub p a c, Fp.mul p (pt p inv 3 1) (Fp.sub p b c)]), word_of h.kn (sub_in h.kn (Fp.sub p a b) (Fp.mul p (pt p inv 3 1) (Fp.sub p b c)))]
  · rfl
  · rw [hr]
    refine Fp.eqm.trans ?_ ((sub_eqm h.kn _ _).trans (eqm_sub (sub_eqm h.kn a b) ht)).symm
    refine eqm_times hs (b + c * (r * (r - 1))) ?_
    simp only [Fp.sum, el, List.getD_cons_zero, List.getD_cons_succ]
    grind
  · rw [hr]
    refine Fp.eqm.trans ?_ (sm2_eqm (sub_eqm h.kn a c) ht).symm
    refine eqm_times hs c ?_
    simp only [Fp.sum, el, List.getD_cons_zero, List.getD_cons_succ]
    grind

theorem do4 (h : Rdx p 4) (inv : Bool) (hf : Fine p [a, b, c, d]) :
    doL p inv [a, b, c, d] = [smL p [smL p [a, c], smL p [b, d]], smL p [Fp.sub p a c, Fp.mul p (pt p inv 4 1) (Fp.sub p b d)], Fp.sub p (smL p [a, c]) (smL p [b, d]), Fp.sub p (Fp.sub p a c) (Fp.mul p (pt p inv 4 1) (Fp.sub p b d))] := by
  rw [hf.doL]
  show [doN p inv 4 (el [a, b, c, d]) 0, doN p inv 4 (el [a, b, c, d]) 1, doN p inv 4 (el [a, b, c, d]) 2, doN p inv 4 (el [a, b, c, d]) 3] = _
  have hs : Fp.eqm p (root p inv 4 ^ 2 + 1) 0 := by
    have := (Fp.Turns.half (m := 2) (h.turns inv)).add (Fp.eqm.rfl (p := p) (a := 1))
    exact this.trans (Fp.eqm.of (by decide))
  have ht := tm_eqm (inv := inv) (n := 4) h.kn 1 (sub_eqm h.kn b d)
  have he := sm2_eqm (Fp.eqm.rfl (p := p) (a := a)) (Fp.eqm.rfl (a := c))
  have ho := sm2_eqm (Fp.eqm.rfl (p := p) (a := b)) (Fp.eqm.rfl (a := d))
  generalize hr : root p inv 4 = r at hs ht
  rw [word_of h.kn (smL_bd h.kn [smL p [a, c], smL p [b, d]]), word_of h.kn (smL_bd h.kn [Fp.sub p a c, Fp.mul p (pt p inv 4 1) (Fp.sub p b d)]),
    word_of h.kn (sub_in h.kn (smL p [a, c]) (smL p [b, d])), word_of h.kn (sub_in h.kn (Fp.sub p a c) (Fp.mul p (pt p inv 4 1) (Fp.sub p b d)))]
  · rw [hr]
    refine Fp.eqm.trans ?_ ((sub_eqm h.kn _ _).trans (eqm_sub (sub_eqm h.kn a c) ht)).symm
    refine eqm_times hs (b * r + c * (r ^ 4 - r ^ 2 + 1) + d * (r * (r ^ 4 + 1) * (r ^ 2 - 1))) ?_
    simp only [Fp.sum, el, List.getD_cons_zero, List.getD_cons_succ]
    grind
  · rw [hr]
    refine Fp.eqm.trans ?_ ((sub_eqm h.kn _ _).trans (eqm_sub he ho)).symm
    refine eqm_times hs (b + c * (r ^ 2 - 1) + d * (r ^ 4 - r ^ 2 + 1)) ?_
    simp only [Fp.sum, el, List.getD_cons_zero, List.getD_cons_succ]
    grind
  · rw [hr]
    refine Fp.eqm.trans ?_ (sm2_eqm (sub_eqm h.kn a c) ht).symm
    refine eqm_times hs (c + d * r) ?_
    simp only [Fp.sum, el, List.getD_cons_zero, List.getD_cons_succ]
    grind
  · rw [hr]
    refine Fp.eqm.trans ?_ (sm2_eqm he ho).symm
    refine eqm_times hs 0 ?_
    simp only [Fp.sum, el, List.getD_cons_zero, List.getD_cons_succ]
    grind

/-- Four words, less the fifth, times three points. -/
def s5 (p : Int) (inv : Bool) (a b c d : Int) (i j k : Nat) : Int := smL p [a, Fp.mul p (pt p inv 5 i) b, Fp.mul p (pt p inv 5 j) c, Fp.mul p (pt p inv 5 k) d]
set_option maxHeartbeats 1000000 in
theorem do5 (h : Rdx p 5) (inv : Bool) (hf : Fine p [a, b, c, d, e]) :
    doL p inv [a, b, c, d, e] = [smL p [a, b, c, d, e], s5 p inv (Fp.sub p a e) (Fp.sub p b e) (Fp.sub p c e) (Fp.sub p d e) 1 2 3, s5 p inv (Fp.sub p a e) (Fp.sub p b e) (Fp.sub p c e) (Fp.sub p d e) 2 4 1,
      s5 p inv (Fp.sub p a e) (Fp.sub p b e) (Fp.sub p c e) (Fp.sub p d e) 3 1 4, s5 p inv (Fp.sub p a e) (Fp.sub p b e) (Fp.sub p c e) (Fp.sub p d e) 4 3 2] := by
  rw [hf.doL]
  show [doN p inv 5 (el [a, b, c, d, e]) 0, doN p inv 5 (el [a, b, c, d, e]) 1, doN p inv 5 (el [a, b, c, d, e]) 2, doN p inv 5 (el [a, b, c, d, e]) 3, doN p inv 5 (el [a, b, c, d, e]) 4] = _
  have hs : Fp.eqm p (1 + root p inv 5 ^ 1 + root p inv 5 ^ 2 + root p inv 5 ^ 3 + root p inv 5 ^ 4) 0 := by
    have := h.geo inv
    simpa [Fp.sum] using this
  have hq : ∀ i j k, Fp.eqm p (s5 p inv (Fp.sub p a e) (Fp.sub p b e) (Fp.sub p c e) (Fp.sub p d e) i j k) ((a - e) + root p inv 5 ^ i * (b - e) + root p inv 5 ^ j * (c - e) + root p inv 5 ^ k * (d - e)) := fun i j k =>
    sm4_eqm (sub_eqm h.kn a e) (tm_eqm h.kn i (sub_eqm h.kn b e)) (tm_eqm h.kn j (sub_eqm h.kn c e)) (tm_eqm h.kn k (sub_eqm h.kn d e))
  have hb : ∀ i j k, 0 ≤ s5 p inv (Fp.sub p a e) (Fp.sub p b e) (Fp.sub p c e) (Fp.sub p d e) i j k ∧ s5 p inv (Fp.sub p a e) (Fp.sub p b e) (Fp.sub p c e) (Fp.sub p d e) i j k < p := fun i j k => smL_bd h.kn _
  generalize hr : root p inv 5 = r at hs hq
  rw [doN_first, word_of h.kn (hb 1 2 3), word_of h.kn (hb 2 4 1), word_of h.kn (hb 3 1 4), word_of h.kn (hb 4 3 2)]
  · rfl
  · rw [hr]
    refine Fp.eqm.trans ?_ (hq 4 3 2).symm
    refine eqm_times hs (c * (r ^ 3 * (r - 1)) + d * (r ^ 2 * (r ^ 5 + 1) * (r - 1)) + e * (r * (r ^ 10 + r ^ 5 + 1) * (r - 1) + 1)) ?_
    simp only [Fp.sum, el, List.getD_cons_zero, List.getD_cons_succ]
    grind
  · rw [hr]
    refine Fp.eqm.trans ?_ (hq 3 1 4).symm
    refine eqm_times hs (c * (r * (r - 1)) + d * (r ^ 4 * (r - 1)) + e * (r ^ 2 * (r ^ 5 + 1) * (r - 1) + 1)) ?_
    simp only [Fp.sum, el, List.getD_cons_zero, List.getD_cons_succ]
    grind
  · rw [hr]
    refine Fp.eqm.trans ?_ (hq 2 4 1).symm
    refine eqm_times hs (d * (r * (r - 1)) + e * (r ^ 3 * (r - 1) + 1)) ?_
    simp only [Fp.sum, el, List.getD_cons_zero, List.getD_cons_succ]
    grind
  · rw [hr]
    refine Fp.eqm.trans ?_ (hq 1 2 3).symm
    refine eqm_times hs e ?_
    simp only [Fp.sum, el, List.getD_cons_zero, List.getD_cons_succ]
    grind
end

end Go.Proofs.YtmcnamlgbkbiaaaDoor.Fly
