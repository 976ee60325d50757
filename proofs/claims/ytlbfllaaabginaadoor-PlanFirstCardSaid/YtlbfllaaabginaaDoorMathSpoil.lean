/-
  Of a request something is made wrong: which error it then has. No function of the program is named here.
-/
import Derived.Test.YtlbfllaaabginaaDoorReq
import Derived.Test.YtlbfllaaabginaaDoorAxRow
namespace Go.Proofs.YtlbfllaaabginaaDoor
open Go.RowKit

/-- What must hold of a request, one thing after the other. -/
def lev (q : Rq) (k : Nat) : Bool :=
  if k = 0 then !argB q else if k = 1 then Fp.kn q.p else if k = 2 then okB q.xa else if k = 3 then sizesB q.xa else if k = 4 then rootsB q.p q.xa
  else if k = 5 then decide ((q.m : Int) = q.b * (rqN q : Int)) else if k = 6 then Fp.isIn q.p (fun j => q.xs.getD j 0) q.xs.length else decide (1 ≤ q.k ∧ q.k ≤ 4)
theorem eight {k : Nat} (h : k < 8) : k = 0 ∨ k = 1 ∨ k = 2 ∨ k = 3 ∨ k = 4 ∨ k = 5 ∨ k = 6 ∨ k = 7 := by omega
/-- The first thing that does not hold is told. -/
theorem chkE_lev {q : Rq} {k : Nat} (hk : k < 8) (h : ∀ j, j < k → lev q j = true) (hn : lev q k = false) : chkE q = (k : Int) + 1 := by
  unfold chkE
  rcases eight hk with rfl | rfl | rfl | rfl | rfl | rfl | rfl | rfl
  · have e : argB q = true := by simpa [lev] using hn
    rw [if_pos e]; rfl
  all_goals
    have h0 : argB q = false := by simpa [lev] using h 0 (by omega)
    rw [if_neg (by simp [h0])]
  · have e : Fp.kn q.p = false := by simpa [lev] using hn
    rw [gridE_prime e, if_pos (by decide)]; rfl
  all_goals
    have h1 : Fp.kn q.p = true := by simpa [lev] using h 1 (by omega)
  · have e : okB q.xa = false := by simpa [lev] using hn
    have eg : gridE q.p q.xa = 3 := by unfold gridE; rw [if_neg (by simp [h1]), if_pos e]
    rw [eg, if_pos (by decide)]; rfl
  all_goals
    have h2 : okB q.xa = true := by simpa [lev] using h 2 (by omega)
  · have e : sizesB q.xa = false := by simpa [lev] using hn
    have eg : gridE q.p q.xa = 4 := by unfold gridE; rw [if_neg (by simp [h1]), if_neg (by simp [h2]), if_pos e]
    rw [eg, if_pos (by decide)]; rfl
  all_goals
    have h3 : sizesB q.xa = true := by simpa [lev] using h 3 (by omega)
  · have e : rootsB q.p q.xa = false := by simpa [lev] using hn
    have eg : gridE q.p q.xa = 5 := by unfold gridE; rw [if_neg (by simp [h1]), if_neg (by simp [h2]), if_neg (by simp [h3]), if_pos e]
    rw [eg, if_pos (by decide)]; rfl
  all_goals
    have h4 : rootsB q.p q.xa = true := by simpa [lev] using h 4 (by omega)
    have hg : gridE q.p q.xa = 0 := by unfold gridE; rw [if_neg (by simp [h1]), if_neg (by simp [h2]), if_neg (by simp [h3]), if_neg (by simp [h4])]
    rw [if_neg (by simp [hg])]
  · have e : (q.m : Int) ≠ q.b * (rqN q : Int) := by simpa [lev] using hn
    rw [if_pos e]; rfl
  all_goals
    have h5 : (q.m : Int) = q.b * (rqN q : Int) := by simpa [lev] using h 5 (by omega)
    rw [if_neg (by simp [h5])]
  · have e : Fp.isIn q.p (fun j => q.xs.getD j 0) q.xs.length = false := hn
    rw [if_pos e]; rfl
  · have h6 : Fp.isIn q.p (fun j => q.xs.getD j 0) q.xs.length = true := h 6 (by omega)
    have e : q.k < 1 ∨ 4 < q.k := by
      have : ¬ (1 ≤ q.k ∧ q.k ≤ 4) := by simpa [lev] using hn
      omega
    rw [if_neg (by rw [h6]; decide), if_pos e]; rfl
theorem Rok.lev {q : Rq} (h : Rok q) {k : Nat} (hk : k < 8) : lev q k = true := by
  rcases eight hk with rfl | rfl | rfl | rfl | rfl | rfl | rfl | rfl
  · simp only [Go.Proofs.YtlbfllaaabginaaDoor.lev, if_true]; rw [argB_ok h.b h.rt h.ag]; rfl
  · exact h.ax.kn
  · exact (okB_iff _).2 ⟨h.ax.ok, h.ax.is⟩
  · exact (sizesB_iff _).2 h.ax.sm
  · exact (rootsB_iff _ _).2 h.ax.dvd
  · simp only [Go.Proofs.YtlbfllaaabginaaDoor.lev, Nat.reduceEqDiff, if_false, if_true]; exact decide_eq_true h.len
  · exact h.is
  · simp only [Go.Proofs.YtlbfllaaabginaaDoor.lev, Nat.reduceEqDiff, if_false]; exact decide_eq_true h.k

/-- q' is q, of which something is made wrong, of the kind k. -/
structure Spl (k : Nat) (q q' : Rq) : Prop where
  p : q'.p = if k = 1 then 4 else if k = 4 then 998244353 else q.p
  xa : q'.xa = if k = 2 then [] else if k = 3 then hdA 7 q.xa else if k = 4 then hdA 3 q.xa else q.xa
  b : q'.b = if k = 0 then 0 else q.b
  xs : q'.xs = if k = 5 then q.xs ++ [0] else if k = 6 then q.xs.set 0 18446744073709551615 else q.xs
  k : q'.k = if k = 7 then 0 else q.k
  rt : q'.rt = q.rt
  ag : q'.ag = q.ag
  m : q'.m = q'.xs.length

/-- The axes behind the first one are few. -/
def Smal (xa : List Ax) : Prop := ∃ u r, xa = u :: r ∧ r.length ≤ 3 ∧ (∀ d ∈ szs r, 1 ≤ d) ∧ Sh.prod (szs r) ≤ 60 ∧ dims r = Sh.ints (szs r)
theorem Smal.head {xa : List Ax} (h : Smal xa) (z : Int) : Smal (hdA z xa) := by
  obtain ⟨u, r, rfl, h1⟩ := h
  exact ⟨⟨z, u.neg⟩, r, rfl, h1⟩
theorem Smal.ok {xa : List Ax} (h : Smal xa) {z : Nat} (h1 : 1 ≤ z) (h7 : z ≤ 7) : okB (hdA (z : Int) xa) = true := by
  obtain ⟨u, r, rfl, hl, hp, hpr, hd⟩ := h
  have e1 : szs (hdA (z : Int) (u :: r)) = z :: szs r := by simp [hdA, szs]
  have e2 : dims (hdA (z : Int) (u :: r)) = (z : Int) :: dims r := by simp [hdA, dims]
  refine (okB_iff _).2 ⟨?_, ?_⟩
  · rw [e1]
    refine ⟨by simp, by simp [szs_len]; omega, fun d hd => ?_, ?_⟩
    · rcases List.mem_cons.1 hd with rfl | hd
      · exact h1
      · exact hp d hd
    · show z * Sh.prod (szs r) ≤ 4096
      have := Nat.mul_le_mul h7 hpr
      omega
  · rw [e1, e2, hd]; rfl
theorem Smal.ne {xa : List Ax} (h : Smal xa) : 0 < xa.length := by obtain ⟨u, r, rfl, _⟩ := h; simp
theorem hdA_get (z : Int) {xa : List Ax} (h : 0 < xa.length) (k : Nat) : (hdA z xa).getD k noAx = if k = 0 then ⟨z, (xa.getD 0 noAx).neg⟩ else xa.getD k noAx := by
  match xa, h with
  | u :: r, _ => cases k <;> simp [hdA]
theorem sizes_hd {xa : List Ax} (h : 0 < xa.length) (hs : sizesB xa = true) {z : Int} (hz : Fac.sm z = true) : sizesB (hdA z xa) = true := by
  refine (sizesB_iff _).2 fun k hk => ?_
  rw [hdA_len] at hk
  unfold axS
  rw [hdA_get z h]
  split
  · exact hz
  · exact (sizesB_iff _).1 hs k hk
theorem sizes_bad {xa : List Ax} (h : 0 < xa.length) {z : Int} (hz : Fac.sm z = false) : sizesB (hdA z xa) = false := by
  refine b_false (sizesB_iff _) fun e => ?_
  have := e 0 (by rw [hdA_len]; exact h)
  unfold axS at this
  rw [hdA_get z h, if_pos rfl, hz] at this
  cases this
theorem roots_bad {xa : List Ax} (h : 0 < xa.length) : rootsB 998244353 (hdA 3 xa) = false := by
  refine b_false (rootsB_iff _ _) fun e => ?_
  have := e 0 (by rw [hdA_len]; exact h)
  unfold axR at this
  rw [hdA_get 3 h, if_pos rfl] at this
  cases hn : (xa.getD 0 noAx).neg <;> rw [hn] at this <;> exact absurd this (by decide)

/-- What is asked of a request of which something is made wrong. -/
structure Fin8 (k : Nat) (q : Rq) : Prop where
  lev : ∀ j, j < k → lev q j = true
  sm : k = 3 ∨ k = 4 → Smal q.xa
  ge : k = 5 → q.b * (rqN q : Int) ≤ (q.m : Int)
  ne : k = 6 → 0 < q.xs.length
section
variable {k : Nat} {q q' : Rq}
/-- What is asked ahead of it still holds. -/
theorem Fin8.ahead (h : Fin8 k q) (hk : k < 8) (hs : Spl k q q') (hm : q.xs.length = q.m) : ∀ j, j < k → Go.Proofs.YtlbfllaaabginaaDoor.lev q' j = true := by
  have h1 := hs.p
  have h2 := hs.xa
  have h3 := hs.b
  have h4 := hs.xs
  have h5 := hs.k
  have h6 := hs.rt
  have h7 := hs.ag
  have h8 := hs.m
  intro j hj
  have hl := h.lev j hj
  have hL := h.lev
  rcases eight hk with rfl | rfl | rfl | rfl | rfl | rfl | rfl | rfl
  · omega
  · obtain rfl : j = 0 := by omega
    simp at h3
    simpa [Go.Proofs.YtlbfllaaabginaaDoor.lev, argB, h3, h6, h7] using hl
  · simp at h1 h3
    obtain rfl | rfl : j = 0 ∨ j = 1 := by omega
    · simpa [Go.Proofs.YtlbfllaaabginaaDoor.lev, argB, h3, h6, h7] using hl
    · simpa [Go.Proofs.YtlbfllaaabginaaDoor.lev, h1] using hl
  · simp at h1 h2 h3
    obtain rfl | rfl | rfl : j = 0 ∨ j = 1 ∨ j = 2 := by omega
    · simpa [Go.Proofs.YtlbfllaaabginaaDoor.lev, argB, h3, h6, h7] using hl
    · simpa [Go.Proofs.YtlbfllaaabginaaDoor.lev, h1] using hl
    · show okB q'.xa = true
      rw [h2]
      exact (h.sm (.inl rfl)).ok (z := 7) (by omega) (by omega)
  · simp at h1 h2 h3
    obtain rfl | rfl | rfl | rfl : j = 0 ∨ j = 1 ∨ j = 2 ∨ j = 3 := by omega
    · simpa [Go.Proofs.YtlbfllaaabginaaDoor.lev, argB, h3, h6, h7] using hl
    · show Fp.kn q'.p = true
      rw [h1]; decide
    · show okB q'.xa = true
      rw [h2]
      exact (h.sm (.inr rfl)).ok (z := 3) (by omega) (by omega)
    · show sizesB q'.xa = true
      rw [h2]
      exact sizes_hd (h.sm (.inr rfl)).ne hl (by decide)
  · simp at h1 h2 h3
    obtain rfl | rfl | rfl | rfl | rfl : j = 0 ∨ j = 1 ∨ j = 2 ∨ j = 3 ∨ j = 4 := by omega
    · simpa [Go.Proofs.YtlbfllaaabginaaDoor.lev, argB, h3, h6, h7] using hl
    · simpa [Go.Proofs.YtlbfllaaabginaaDoor.lev, h1] using hl
    · simpa [Go.Proofs.YtlbfllaaabginaaDoor.lev, h2] using hl
    · simpa [Go.Proofs.YtlbfllaaabginaaDoor.lev, h2] using hl
    · simpa [Go.Proofs.YtlbfllaaabginaaDoor.lev, h1, h2] using hl
  · simp at h1 h2 h3 h4
    have h9 : q'.m = q.m := by rw [h8, h4, List.length_set, hm]
    have h10 : rqN q' = rqN q := by unfold rqN; rw [h2]
    obtain rfl | rfl | rfl | rfl | rfl | rfl : j = 0 ∨ j = 1 ∨ j = 2 ∨ j = 3 ∨ j = 4 ∨ j = 5 := by omega
    · simpa [Go.Proofs.YtlbfllaaabginaaDoor.lev, argB, h3, h6, h7] using hl
    · simpa [Go.Proofs.YtlbfllaaabginaaDoor.lev, h1] using hl
    · simpa [Go.Proofs.YtlbfllaaabginaaDoor.lev, h2] using hl
    · simpa [Go.Proofs.YtlbfllaaabginaaDoor.lev, h2] using hl
    · simpa [Go.Proofs.YtlbfllaaabginaaDoor.lev, h1, h2] using hl
    · simpa [Go.Proofs.YtlbfllaaabginaaDoor.lev, h3, h9, h10] using hl
  · simp at h1 h2 h3 h4
    have h9 : q'.m = q.m := by rw [h8, h4, hm]
    have h10 : rqN q' = rqN q := by unfold rqN; rw [h2]
    obtain rfl | rfl | rfl | rfl | rfl | rfl | rfl : j = 0 ∨ j = 1 ∨ j = 2 ∨ j = 3 ∨ j = 4 ∨ j = 5 ∨ j = 6 := by omega
    · simpa [Go.Proofs.YtlbfllaaabginaaDoor.lev, argB, h3, h6, h7] using hl
    · simpa [Go.Proofs.YtlbfllaaabginaaDoor.lev, h1] using hl
    · simpa [Go.Proofs.YtlbfllaaabginaaDoor.lev, h2] using hl
    · simpa [Go.Proofs.YtlbfllaaabginaaDoor.lev, h2] using hl
    · simpa [Go.Proofs.YtlbfllaaabginaaDoor.lev, h1, h2] using hl
    · simpa [Go.Proofs.YtlbfllaaabginaaDoor.lev, h3, h9, h10] using hl
    · show Fp.isIn q'.p (fun j => q'.xs.getD j 0) q'.xs.length = true
      rw [h1, h4]
      exact hl
/-- And it itself does not. -/
theorem Fin8.not (h : Fin8 k q) (hk : k < 8) (hs : Spl k q q') (hm : q.xs.length = q.m) : Go.Proofs.YtlbfllaaabginaaDoor.lev q' k = false := by
  have h1 := hs.p
  have h2 := hs.xa
  have h3 := hs.b
  have h4 := hs.xs
  have h5 := hs.k
  have h8 := hs.m
  rcases eight hk with rfl | rfl | rfl | rfl | rfl | rfl | rfl | rfl
  · simp at h3
    simp [Go.Proofs.YtlbfllaaabginaaDoor.lev, argB, h3]
  · simp at h1
    show Fp.kn q'.p = false
    rw [h1]; decide
  · simp at h2
    show okB q'.xa = false
    rw [h2]; decide
  · simp at h2
    show sizesB q'.xa = false
    rw [h2]
    exact sizes_bad (h.sm (.inl rfl)).ne (by decide)
  · simp at h1 h2
    show rootsB q'.p q'.xa = false
    rw [h1, h2]
    exact roots_bad (h.sm (.inr rfl)).ne
  · simp at h2 h3 h4
    have h9 : q'.m = q.m + 1 := by rw [h8, h4, List.length_append, hm]; rfl
    have h10 : rqN q' = rqN q := by unfold rqN; rw [h2]
    have := h.ge rfl
    simp only [Go.Proofs.YtlbfllaaabginaaDoor.lev, Nat.reduceEqDiff, if_false, if_true, h3, h9, h10]
    exact decide_eq_false (by omega)
  · simp at h1 h4
    have hkn : Fp.kn q.p = true := h.lev 1 (by omega)
    have hb := Fp.kn_bd hkn
    have hne := h.ne rfl
    show Fp.isIn q'.p (fun j => q'.xs.getD j 0) q'.xs.length = false
    cases e : Fp.isIn q'.p (fun j => q'.xs.getD j 0) q'.xs.length
    · rfl
    · rw [h1, h4] at e
      have := (Fp.isIn_iff hkn _).1 e 0 (by rw [List.length_set]; exact hne)
      rw [getD_put _ _ _ _ hne, if_pos rfl] at this
      omega
  · simp at h5
    simp only [Go.Proofs.YtlbfllaaabginaaDoor.lev, Nat.reduceEqDiff, if_false, h5]
    decide
theorem Fin8.told (h : Fin8 k q) (hk : k < 8) (hs : Spl k q q') (hm : q.xs.length = q.m) : chkE q' = (k : Int) + 1 := chkE_lev hk (h.ahead hk hs hm) (h.not hk hs hm)
theorem Rok.smal (h : Rok q) (h60 : rqN q ≤ 60) : Smal q.xa := by
  have ho := h.ax.ok
  have hd := h.ax.is
  have h1 := ho.one
  rw [szs_len] at h1
  unfold rqN at h60
  match hx : q.xa, h1 with
  | u :: r, _ =>
    rw [hx] at ho hd h60
    have e1 : szs (u :: r) = u.n.toNat :: szs r := rfl
    have h2 := ho.four
    have h3 := ho.pos
    rw [e1] at h2 h3 h60
    have h4 : 1 ≤ u.n.toNat := h3 _ List.mem_cons_self
    have h5 : Sh.prod (u.n.toNat :: szs r) = u.n.toNat * Sh.prod (szs r) := rfl
    rw [h5] at h60
    refine ⟨u, r, rfl, by simp [szs_len] at h2; omega, fun d hd => h3 d (List.mem_cons_of_mem _ hd), ?_, ?_⟩
    · exact Nat.le_trans (Nat.le_mul_of_pos_left _ h4) h60
    · have e2 : dims (u :: r) = u.n :: dims r := rfl
      have e3 : Sh.ints (u.n.toNat :: szs r) = (u.n.toNat : Int) :: Sh.ints (szs r) := rfl
      rw [e1, e2, e3] at hd
      exact (List.cons.inj hd).2
theorem Rok.fin8 (h : Rok q) (h60 : rqN q ≤ 60) (hm : q.xs.length = q.m) (hk : k < 8) : Fin8 k q := by
  refine ⟨fun j hj => h.lev (by omega), fun _ => h.smal h60, fun _ => by rw [h.len]; exact Int.le_refl _, fun _ => ?_⟩
  have h1 := h.pos.1
  have h2 := h.len
  have h3 : (1 : Int) * (rqN q : Int) ≤ q.b * (rqN q : Int) := Int.mul_le_mul_of_nonneg_right h.b.1 (by omega)
  omega
/-- Of what is wrong already something is made wrong that is named ahead of it. -/
theorem Rok.again (h : Rok q) (h60 : rqN q ≤ 60) (hm : q.xs.length = q.m) {a b : Nat} (ha : a ≤ b) (hb : b < 8) (hs : Spl b q q') : Fin8 a q' := by
  have hF := h.fin8 h60 hm hb
  have hl := hF.ahead hb hs hm
  have hs2 := hs.xa
  have h3 := hs.b
  have h4 := hs.xs
  have h8 := hs.m
  have hne : 0 < q.xs.length := (h.fin8 (k := 6) h60 hm (by omega)).ne rfl
  refine ⟨fun j hj => hl j (by omega), fun h34 => ?_, fun h5 => ?_, fun h6 => ?_⟩
  · have := h.smal h60
    rw [hs2, if_neg (by omega)]
    split
    · exact this.head 7
    · split
      · exact this.head 3
      · exact this
  · have h10 : rqN q' = rqN q := by unfold rqN; rw [hs2, if_neg (by omega), if_neg (by omega), if_neg (by omega)]
    rw [h10, h3, if_neg (by omega), h8, h4]
    have := h.len
    split
    · rw [List.length_append]; simp; omega
    · split
      · rw [List.length_set]; omega
      · omega
  · rw [h4, if_neg (by omega)]
    split
    · rw [List.length_set]; exact hne
    · exact hne
end

end Go.Proofs.YtlbfllaaabginaaDoor
