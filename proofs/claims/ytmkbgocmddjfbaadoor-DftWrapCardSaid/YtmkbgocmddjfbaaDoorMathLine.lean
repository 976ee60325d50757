/-
  Layer 6's laws as facts on lists: back again, sums, products that go around; and the example that each law begins with.
-/
import Derived.Test.YtmkbgocmddjfbaaDoorWrap
import Derived.Test.YtmkbgocmddjfbaaDoorRefPow
namespace Go.Proofs.YtmkbgocmddjfbaaDoor
open Go.RowKit Go.Shelf

theorem getD_range (f : Nat → Int) {n k : Nat} (h : k < n) : ((List.range n).map f).getD k 0 = f k := by simp [h]
theorem nth_range (f : Nat → Int) {n k : Nat} (h : k < n) : nth ((List.range n).map f) k = f k := getD_range f h
theorem list_eq_range {xs : List Int} {n : Nat} {f : Nat → Int} (hl : xs.length = n) (hf : ∀ k, k < n → f k = xs.getD k 0) : (List.range n).map f = xs := by
  subst hl
  apply List.ext_getElem (by simp)
  intro k h1 h2
  have := hf k h2
  simp only [List.getElem_map, List.getElem_range]
  rw [this]
  simp [h2]

section
variable {p : Int} {xs ys : List Int} {neg : Bool}
theorem Line.fwd (h : Line p xs neg) : fwd p xs neg = (List.range xs.length).map (fwdN p xs neg) := by unfold Go.Proofs.YtmkbgocmddjfbaaDoor.fwd; rw [if_pos h.zero]
theorem Line.bwd (h : Line p xs neg) : bwd p xs neg = (List.range xs.length).map (bwdN p xs neg) := by unfold Go.Proofs.YtmkbgocmddjfbaaDoor.bwd; rw [if_pos h.zero]
theorem fwdN_bd (h : Fp.kn p = true) (k : Nat) : 0 ≤ fwdN p xs neg k ∧ fwdN p xs neg k < p := by obtain ⟨a, b, _⟩ := Fp.mod_bd h (Fp.fw (rtl p neg xs.length) neg xs.length (nth xs) k); exact ⟨a, b⟩
theorem bwdN_bd (h : Fp.kn p = true) (k : Nat) : 0 ≤ bwdN p xs neg k ∧ bwdN p xs neg k < p := by obtain ⟨a, _, b⟩ := Fp.mul_bd p (Fp.bw (bkl p neg xs.length) neg xs.length (nth xs) k % p) (Fp.inv p xs.length); exact ⟨a, b h⟩
theorem wrpN_bd (h : Fp.kn p = true) (k : Nat) : 0 ≤ wrpN p xs ys neg k ∧ wrpN p xs ys neg k < p := by obtain ⟨a, b, _⟩ := Fp.mod_bd h (Fp.wr neg xs.length (nth xs) (nth ys) k); exact ⟨a, b⟩
/-- A list of n numbers of p is a line as another of n. -/
theorem Line.map (h : Line p xs neg) {f : Nat → Int} (hf : ∀ k, 0 ≤ f k ∧ f k < p) : Line p ((List.range xs.length).map f) neg :=
  h.other (by simp) (fun j hj => by rw [getD_range f (by simpa using hj)]; exact (hf j).2)
theorem words_map {n : Nat} {f : Nat → Int} (h : Fp.kn p = true) (hf : ∀ k, 0 ≤ f k ∧ f k < p) : Words ((List.range n).map f) := fun j => by
  obtain ⟨p1, p2⟩ := Fp.kn_bd h
  by_cases hj : j < n
  · rw [getD_range f hj]; have := hf j; omega
  · simp [hj]
theorem Line.fwdLine (h : Line p xs neg) : Line p (Go.Proofs.YtmkbgocmddjfbaaDoor.fwd p xs neg) neg := by rw [h.fwd]; exact h.map (fwdN_bd h.kn)
theorem Line.bwdLine (h : Line p xs neg) : Line p (Go.Proofs.YtmkbgocmddjfbaaDoor.bwd p xs neg) neg := by rw [h.bwd]; exact h.map (bwdN_bd h.kn)
theorem Line.fwdLen (h : Line p xs neg) : (Go.Proofs.YtmkbgocmddjfbaaDoor.fwd p xs neg).length = xs.length := by rw [h.fwd]; simp
theorem Line.bwdLen (h : Line p xs neg) : (Go.Proofs.YtmkbgocmddjfbaaDoor.bwd p xs neg).length = xs.length := by rw [h.bwd]; simp
theorem Line.fwdWords (h : Line p xs neg) : Words (Go.Proofs.YtmkbgocmddjfbaaDoor.fwd p xs neg) := by rw [h.fwd]; exact words_map h.kn (fwdN_bd h.kn)
theorem Line.bwdWords (h : Line p xs neg) : Words (Go.Proofs.YtmkbgocmddjfbaaDoor.bwd p xs neg) := by rw [h.bwd]; exact words_map h.kn (bwdN_bd h.kn)

/-- What undoes the length. -/
theorem Line.inv_len (h : Line p xs neg) : Fp.eqm p ((xs.length : Int) * Fp.inv p xs.length) 1 := by
  obtain ⟨h1, h2⟩ := h.len
  obtain ⟨p1, p2⟩ := Fp.kn_bd h.kn
  have hz : Fp.red p (xs.length : Int) ≠ 0 := by
    have : Fp.red p (xs.length : Int) = (xs.length : Int) % p := by unfold Fp.red; rw [if_pos h.kn]
    rw [this, Int.emod_eq_of_lt (by omega) (by omega)]
    omega
  have := Fp.mul_inv h.kn hz
  rw [Fp.mul_kn _ _ h.kn, Int.mul_comm] at this
  unfold Fp.eqm
  rw [this, Int.emod_eq_of_lt (by omega) (by omega)]
theorem bwdN_eqm (h : Fp.kn p = true) (j : Nat) : Fp.eqm p (bwdN p xs neg j) (Fp.inv p xs.length * Fp.bw (bkl p neg xs.length) neg xs.length (nth xs) j) := by
  unfold bwdN
  rw [Fp.mul_kn _ _ h]
  refine (Fp.eqm_md p _).trans ?_
  rw [Int.mul_comm]
  exact Fp.eqm.rfl.mul (Fp.eqm_md p _)
theorem eq_of_eqm {a b : Int} (h : Fp.eqm p a b) (ha : 0 ≤ a ∧ a < p) (hb : 0 ≤ b ∧ b < p) : a = b := by
  unfold Fp.eqm at h
  rwa [Int.emod_eq_of_lt ha.1 ha.2, Int.emod_eq_of_lt hb.1 hb.2] at h

/-- Back from a transform is what it was. -/
theorem Line.back (h : Line p xs neg) (hw : Words xs) : Go.Proofs.YtmkbgocmddjfbaaDoor.bwd p (Go.Proofs.YtmkbgocmddjfbaaDoor.fwd p xs neg) neg = xs := by
  rw [h.fwdLine.bwd, h.fwdLen]
  refine list_eq_range rfl fun j hj => ?_
  refine eq_of_eqm ?_ (bwdN_bd h.kn j) ⟨(hw j).1, h.lt j hj⟩
  refine (bwdN_eqm h.kn j).trans ?_
  rw [h.fwdLen]
  have e1 : Fp.eqm p (Fp.bw (bkl p neg xs.length) neg xs.length (nth (Go.Proofs.YtmkbgocmddjfbaaDoor.fwd p xs neg)) j) (xs.length * nth xs j) := by
    refine (Fp.bw_mod (fun k hk => ?_) j).trans (Fp.bw_fw h.turns hj)
    rw [h.fwd, nth_range _ hk]
    exact Fp.eqm_md p _
  refine (Fp.eqm.rfl.mul e1).trans ?_
  rw [← Int.mul_assoc, Int.mul_comm (Fp.inv p xs.length)]
  have := h.inv_len.mul (Fp.eqm.rfl (p := p) (a := nth xs j))
  rwa [Int.one_mul] at this
theorem Line.forth (h : Line p xs neg) (hw : Words xs) : Go.Proofs.YtmkbgocmddjfbaaDoor.fwd p (Go.Proofs.YtmkbgocmddjfbaaDoor.bwd p xs neg) neg = xs := by
  rw [h.bwdLine.fwd, h.bwdLen]
  refine list_eq_range rfl fun j hj => ?_
  refine eq_of_eqm ?_ (fwdN_bd h.kn j) ⟨(hw j).1, h.lt j hj⟩
  unfold fwdN
  rw [h.bwdLen]
  refine (Fp.eqm_md p _).trans ?_
  have e1 : Fp.eqm p (Fp.fw (rtl p neg xs.length) neg xs.length (nth (Go.Proofs.YtmkbgocmddjfbaaDoor.bwd p xs neg)) j) (Fp.inv p xs.length * (xs.length * nth xs j)) := by
    refine (Fp.fw_mod (y := fun k => Fp.inv p xs.length * Fp.bw (bkl p neg xs.length) neg xs.length (nth xs) k) (fun k hk => ?_) j).trans ?_
    · rw [h.bwd, nth_range _ hk]
      exact bwdN_eqm h.kn k
    · rw [Fp.fw_mul]
      exact Fp.eqm.rfl.mul (Fp.fw_bw h.turns hj)
  refine e1.trans ?_
  rw [← Int.mul_assoc, Int.mul_comm (Fp.inv p xs.length)]
  have := h.inv_len.mul (Fp.eqm.rfl (p := p) (a := nth xs j))
  rwa [Int.one_mul] at this

/-- A line times a number, and another one to it. -/
def lin (p c : Int) (xs ys : List Int) (k : Nat) : Int := Fp.add p (Fp.mul p c (nth xs k)) (nth ys k)
theorem lin_bd (h : Fp.kn p = true) (c : Int) (k : Nat) : 0 ≤ lin p c xs ys k ∧ lin p c xs ys k < p := by obtain ⟨a, _, b⟩ := Fp.add_bd p (Fp.mul p c (nth xs k)) (nth ys k); exact ⟨a, b h⟩
theorem add_mul_eqm (h : Fp.kn p = true) (c a b : Int) : Fp.eqm p (Fp.add p (Fp.mul p c a) b) (c * a + b) := by
  rw [Fp.add_kn h, Fp.mul_kn _ _ h]
  exact (Fp.eqm_md p _).trans ((Fp.eqm_md p _).add Fp.eqm.rfl)
theorem Line.sumF (h : Line p xs neg) (hl : ys.length = xs.length) (c : Int) (k : Nat) :
    fwdN p ((List.range xs.length).map (lin p c xs ys)) neg k = Fp.add p (Fp.mul p c (fwdN p xs neg k)) (fwdN p ys neg k) := by
  obtain ⟨a1, _, a2⟩ := Fp.add_bd p (Fp.mul p c (fwdN p xs neg k)) (fwdN p ys neg k)
  refine eq_of_eqm ?_ (fwdN_bd h.kn k) ⟨a1, a2 h.kn⟩
  refine Fp.eqm.trans ?_ (add_mul_eqm h.kn _ _ _).symm
  unfold fwdN
  rw [List.length_map, List.length_range, hl]
  refine (Fp.eqm_md p _).trans ?_
  refine (Fp.fw_mod (y := fun j => c * nth xs j + nth ys j) (fun j hj => ?_) k).trans ?_
  · rw [nth_range _ hj]
    exact add_mul_eqm h.kn _ _ _
  · rw [Fp.fw_add (fun j => c * nth xs j), Fp.fw_mul]
    exact (Fp.eqm.rfl.mul (Fp.eqm_md p _).symm).add (Fp.eqm_md p _).symm
theorem Line.sumB (h : Line p xs neg) (hl : ys.length = xs.length) (c : Int) (k : Nat) :
    bwdN p ((List.range xs.length).map (lin p c xs ys)) neg k = Fp.add p (Fp.mul p c (bwdN p xs neg k)) (bwdN p ys neg k) := by
  obtain ⟨a1, _, a2⟩ := Fp.add_bd p (Fp.mul p c (bwdN p xs neg k)) (bwdN p ys neg k)
  refine eq_of_eqm ?_ (bwdN_bd h.kn k) ⟨a1, a2 h.kn⟩
  refine Fp.eqm.trans ?_ (add_mul_eqm h.kn _ _ _).symm
  refine (bwdN_eqm h.kn k).trans ?_
  rw [List.length_map, List.length_range]
  have e1 : Fp.eqm p (Fp.bw (bkl p neg xs.length) neg xs.length (nth ((List.range xs.length).map (lin p c xs ys))) k) (c * Fp.bw (bkl p neg xs.length) neg xs.length (nth xs) k + Fp.bw (bkl p neg xs.length) neg xs.length (nth ys) k) := by
    refine (Fp.bw_mod (y := fun j => c * nth xs j + nth ys j) (fun j hj => ?_) k).trans ?_
    · rw [nth_range _ hj]
      exact add_mul_eqm h.kn _ _ _
    · rw [Fp.bw_add (fun j => c * nth xs j), Fp.bw_mul]
      exact Fp.eqm.rfl
  refine (Fp.eqm.rfl.mul e1).trans ?_
  have e2 := bwdN_eqm (xs := xs) (neg := neg) h.kn k
  have e3 := bwdN_eqm (xs := ys) (neg := neg) h.kn k
  rw [hl] at e3
  refine Fp.eqm.trans (Fp.eqm.of ?_) ((Fp.eqm.rfl.mul e2).add e3).symm
  rw [Int.mul_add, Int.mul_left_comm]

/-- Products that go around. -/
theorem wrapE_zero (h : wrapE p xs ys neg = 0) : Line p xs neg ∧ Line p ys neg ∧ xs.length = ys.length := by
  rcases wrapE_cases p xs ys neg with ⟨e, h1⟩ | ⟨e, h1, h2⟩ | ⟨e, _⟩ | ⟨_, h1, h2, h3⟩
  · exact absurd (e.symm.trans h) h1
  · exact absurd (e.symm.trans h) h2
  · omega
  · exact ⟨lineE_zero h1, lineE_zero h2, h3⟩
theorem wrapE_comm (h : wrapE p xs ys neg = 0) : wrapE p ys xs neg = 0 := by
  obtain ⟨h1, h2, h3⟩ := wrapE_zero h
  unfold wrapE
  rw [h1.zero, h2.zero]
  simp [h3]
theorem wrapE_ne (h : wrapE p xs ys neg ≠ 0) : wrapE p ys xs neg ≠ 0 := fun e => h (wrapE_comm e)
theorem wrp_comm (h : wrapE p xs ys neg = 0) : wrp p xs ys neg = wrp p ys xs neg := by
  obtain ⟨h1, h2, h3⟩ := wrapE_zero h
  unfold wrp
  rw [if_pos h, if_pos (wrapE_comm h), h3]
  refine List.map_congr_left fun t _ => ?_
  unfold wrpN
  rw [h3, Fp.wr_comm]
theorem wrp_is (h : wrapE p xs ys neg = 0) : wrp p xs ys neg = (List.range xs.length).map (wrpN p xs ys neg) := by unfold wrp; rw [if_pos h]
theorem wrp_len (h : wrapE p xs ys neg = 0) : (wrp p xs ys neg).length = xs.length := by rw [wrp_is h]; simp
theorem wrp_line (h : wrapE p xs ys neg = 0) : Line p (wrp p xs ys neg) neg := by
  obtain ⟨h1, _, _⟩ := wrapE_zero h
  rw [wrp_is h]
  exact h1.map (wrpN_bd h1.kn)
theorem wrp_words (h : wrapE p xs ys neg = 0) : Words (wrp p xs ys neg) := by
  obtain ⟨h1, _, _⟩ := wrapE_zero h
  rw [wrp_is h]
  exact words_map h1.kn (wrpN_bd h1.kn)
theorem wrp_fwd (h : wrapE p xs ys neg = 0) (k : Nat) : fwdN p (wrp p xs ys neg) neg k = Fp.mul p (fwdN p xs neg k) (fwdN p ys neg k) := by
  obtain ⟨h1, h2, h3⟩ := wrapE_zero h
  obtain ⟨a1, _, a2⟩ := Fp.mul_bd p (fwdN p xs neg k) (fwdN p ys neg k)
  refine eq_of_eqm ?_ (fwdN_bd h1.kn k) ⟨a1, a2 h1.kn⟩
  rw [Fp.mul_kn _ _ h1.kn]
  refine Fp.eqm.trans ?_ (Fp.eqm_md p _).symm
  unfold fwdN
  rw [wrp_len h]
  refine (Fp.eqm_md p _).trans ?_
  refine (Fp.fw_mod (y := Fp.wr neg xs.length (nth xs) (nth ys)) (fun j hj => ?_) k).trans ?_
  · rw [wrp_is h, nth_range _ hj]
    exact Fp.eqm_md p _
  · refine (Fp.fw_wr h1.turns _ _ k).trans ?_
    rw [← h3]
    exact (Fp.eqm_md p _).symm.mul (Fp.eqm_md p _).symm
end

/-- The chapter's example. -/
theorem line_one : Line 998244353 [1, 0, 0, 0] false := ⟨by decide, by decide, by decide, fun j hj => by
  have : j = 0 ∨ j = 1 ∨ j = 2 ∨ j = 3 := by simp at hj; omega
  rcases this with rfl | rfl | rfl | rfl <;> decide⟩
theorem fwd_one : fwd 998244353 [1, 0, 0, 0] false = [1, 1, 1, 1] := by
  rw [line_one.fwd]
  have hk : ∀ k, fwdN 998244353 [1, 0, 0, 0] false k = 1 := fun k => by
    unfold fwdN
    generalize rtl 998244353 false ([1, 0, 0, 0] : List Int).length = w
    show Fp.fw w false 4 (nth [1, 0, 0, 0]) k % 998244353 = 1
    have : Fp.fw w false 4 (nth [1, 0, 0, 0]) k = 1 := by
      simp [Fp.fw, Fp.sum, nth, Fp.ex]
    rw [this]; decide
  have : (List.range ([1, 0, 0, 0] : List Int).length).map (fwdN 998244353 [1, 0, 0, 0] false) = (List.range 4).map (fun _ => 1) := List.map_congr_left fun k _ => hk k
  rw [this]
  decide

theorem row_reads (w : World) (t : TypeId) (a b c d : Int) : Reads .u64 (w.alloc (.cells #[.int .u64 a, .int .u64 b, .int .u64 c, .int .u64 d] t)) (w.heap.size + 1) (some ⟨w.heap.size, 0, none⟩) [a, b, c, d] := fun _ =>
  ⟨w.heap.size, 0, rfl, Nat.lt_succ_self _, fun j hj => by
    have : j = 0 ∨ j = 1 ∨ j = 2 ∨ j = 3 := by simp at hj; omega
    rcases this with rfl | rfl | rfl | rfl <;> simp⟩
theorem words_four {a b c d : Int} (ha : 0 ≤ a ∧ a < 18446744073709551616) (hb : 0 ≤ b ∧ b < 18446744073709551616) (hc : 0 ≤ c ∧ c < 18446744073709551616) (hd : 0 ≤ d ∧ d < 18446744073709551616) : Words [a, b, c, d] := fun j => by
  rcases j with _ | _ | _ | _ | j <;> simp [ha, hb, hc, hd]

theorem same_yes (x y : Option Addr) (n m cap cap' : Nat) (xs ys : List Int) (w : World) (B : Nat) (hx : Reads .u64 w B x xs) (hy : Reads .u64 w B y ys) (hn : xs.length = n) (hm : ys.length = m) (hl : n ≤ 140737488355328) (hl' : m ≤ 140737488355328) (he : xs = ys) :
    Calls Tryd.prog 14 #[.slice x n cap, .slice y m cap'] w (RetQ (.bool true) w) := by
  have := same_any x y n m cap cap' xs ys w B hx hy hn hm hl hl'
  rwa [decide_eq_true he] at this

theorem below_then {w w1 w2 : World} (h : Below w.heap.size w w1) (h2 : Below w1.heap.size w1 w2) : Below w.heap.size w w2 := h.trans (h2.mono h.size)
theorem Gl.then {w w1 : World} (h : Gl w) (hb : Below w.heap.size w w1) : Gl w1 := h.below h.lt hb

set_option maxHeartbeats 1000000 in
theorem live6_any (w : World) (hG : Gl w) : Calls Tryd.prog 7 #[] w (RetB (.bool true) w) := by
  have hb0 : Below w.heap.size w (w.alloc (.cells #[.int .u64 1, .int .u64 0, .int .u64 0, .int .u64 0] 22)) := (Below.refl _ w).alloc (Nat.le_refl _) _
  have HF := Lib.hid (forward_any 998244353 (some ⟨w.heap.size, 0, none⟩) 4 4 [1, 0, 0, 0] false (w.alloc (.cells #[.int .u64 1, .int .u64 0, .int .u64 0, .int .u64 0] 22)) (hG.then hb0) ((row_reads w 22 1 0 0 0).more (by simp)) rfl (words_four (by omega) (by omega) (by omega) (by omega)) (by unfold maxLen; omega))
  rw [fwd_one, line_one.zero] at HF
  have HB0 := Lib.hid hb0
  clear hb0 hG
  go_enter Tryd.func7, Tryd.ntmps7
  go_wp2_with (first
    | (go_at_call 8; refine HF.out.mono ?_; rintro e w' ⟨v, rfl, hO, hb⟩; obtain ⟨y, c, rfl, hc1, hc2, hrd, _⟩ := hO.form)
    | (go_at_call 14; refine (same_any y _ 4 4 c 4 [1, 1, 1, 1] [1, 1, 1, 1] _ (w'.heap.size + 1) ((hrd.below ((Below.refl _ w').alloc (Nat.le_refl _) _)).more (Nat.le_succ _)) (row_reads w' _ 1 1 1 1) rfl rfl (by omega) (by omega)).mono ?_; rw [decide_eq_true rfl]; rintro e w'' ⟨rfl, nd, rfl⟩))
  go_ret
  exact ⟨rfl, below_draws (below_al (below_then HB0.out hb) _) nd⟩

end Go.Proofs.YtmkbgocmddjfbaaDoor
