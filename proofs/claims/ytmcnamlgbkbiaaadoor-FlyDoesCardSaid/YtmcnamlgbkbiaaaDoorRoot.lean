/-
  What each function of package root comes to, over every input, in a world where the table of generators is as its own text lays it: nothing that was there is written.
-/
import Derived.Test.YtmcnamlgbkbiaaaDoorPower
import Derived.Test.YtmcnamlgbkbiaaaDoorMathRoot
import Derived.Test.YtmcnamlgbkbiaaaDoorSince
import Derived.Deep.RegionWith
namespace Go.Proofs.YtmcnamlgbkbiaaaDoor
open Go.RowKit

/-- The table of generators stands in its variable's own block, as it was laid. -/
def Gl (w : World) : Prop :=
  w.cell? ⟨2, 0, none⟩ = some (.int .u64 18446744069414584321) ∧ w.cell? ⟨2, 1, none⟩ = some (.int .u64 7) ∧
  w.cell? ⟨2, 2, none⟩ = some (.int .u64 998244353) ∧ w.cell? ⟨2, 3, none⟩ = some (.int .u64 3) ∧
  w.cell? ⟨2, 4, none⟩ = some (.int .u64 2013265921) ∧ w.cell? ⟨2, 5, none⟩ = some (.int .u64 31)
theorem Gl.lt {w : World} (h : Gl w) : 2 < w.heap.size := World.block_lt_of_cell? _ _ h.1
theorem Gl.below {w w' : World} {B : Nat} (h : Gl w) (hB : 2 < B) (hb : Below B w w') : Gl w' := by
  obtain ⟨h0, h1, h2, h3, h4, h5⟩ := h
  exact ⟨(hb.cell hB).trans h0, (hb.cell hB).trans h1, (hb.cell hB).trans h2, (hb.cell hB).trans h3, (hb.cell hB).trans h4, (hb.cell hB).trans h5⟩
theorem Gl.draws {w : World} (h : Gl w) (n : Nat) : Gl (w.drewN n) := h
theorem below_then {w w1 w2 : World} (h : Below w.heap.size w w1) (h2 : Below w1.heap.size w1 w2) : Below w.heap.size w w2 := h.trans (h2.mono h.size)
theorem Gl.then {w w1 : World} (h : Gl w) (hb : Below w.heap.size w w1) : Gl w1 := h.below h.lt hb

theorem tab_at (j a b : Int) (h : j = 0 ∧ a = 18446744069414584321 ∧ b = 7 ∨ j = 1 ∧ a = 998244353 ∧ b = 3 ∨ j = 2 ∧ a = 2013265921 ∧ b = 31) (w : World) :
    (Instr.index 73 (.agg #[.int .u64 18446744069414584321, .int .u64 7, .int .u64 998244353, .int .u64 3, .int .u64 2013265921, .int .u64 31]) (.int .i64 j)).run Tryd.prog w = .ok (.agg #[.int .u64 a, .int .u64 b]) w := by
  rcases h with ⟨rfl, rfl, rfl⟩ | ⟨rfl, rfl, rfl⟩ | ⟨rfl, rfl, rfl⟩ <;> kernel_rfl

theorem rgen_any (p : Int) (w : World) (hG : Gl w) :
    Calls Tryd.prog 56 #[.int .u64 p] w (RetB (.int .u64 (Fp.gen p)) w) := by
  obtain ⟨h0, h1, h2, h3, h4, h5⟩ := hG
  have i0 := tab_at 0 _ _ (.inl ⟨rfl, rfl, rfl⟩)
  have i1 := tab_at 1 _ _ (.inr (.inl ⟨rfl, rfl, rfl⟩))
  have i2 := tab_at 2 _ _ (.inr (.inr ⟨rfl, rfl, rfl⟩))
  by_cases e0 : p = 18446744069414584321
  · subst e0
    go_enter Tryd.func56, Tryd.ntmps56
    go_wp2
    refine wp_loop_rounds 1 ?_
    rw [rounds_succ]
    go_wp2
    go_ret
    exact ⟨rfl, below_al (Below.refl _ _) _⟩
  by_cases e1 : p = 998244353
  · subst e1
    clear e0
    go_enter Tryd.func56, Tryd.ntmps56
    go_wp2
    refine wp_loop_rounds 2 ?_
    rw [rounds_succ]
    go_wp2
    rw [rounds_succ]
    go_wp2
    go_ret
    exact ⟨rfl, below_al (below_al (Below.refl _ _) _) _⟩
  by_cases e2 : p = 2013265921
  · subst e2
    clear e0 e1
    go_enter Tryd.func56, Tryd.ntmps56
    go_wp2
    refine wp_loop_rounds 3 ?_
    rw [rounds_succ]
    go_wp2
    rw [rounds_succ]
    go_wp2
    rw [rounds_succ]
    go_wp2
    go_ret
    exact ⟨rfl, below_al (below_al (below_al (Below.refl _ _) _) _) _⟩
  have HE : Hid ((0 : Int) = (Fp.gen p : Int)) := Lib.hid (by unfold Fp.gen; rw [if_neg e0, if_neg e1, if_neg e2]; rfl)
  have d0 : ((18446744069414584321 : Int) == p) = false := beq_eq_false_iff_ne.2 (Ne.symm e0)
  have d1 : ((998244353 : Int) == p) = false := beq_eq_false_iff_ne.2 (Ne.symm e1)
  have d2 : ((2013265921 : Int) == p) = false := beq_eq_false_iff_ne.2 (Ne.symm e2)
  clear e0 e1 e2
  go_enter Tryd.func56, Tryd.ntmps56
  go_wp2
  refine wp_loop_rounds 4 ?_
  rw [rounds_succ]
  go_wp2
  rw [rounds_succ]
  go_wp2
  rw [rounds_succ]
  go_wp2
  rw [rounds_succ]
  go_wp2
  go_ret
  exact ⟨ret_u64 HE.out, below_al (below_al (below_al (Below.refl _ _) _) _) _⟩

theorem rootCheck_any (p n : Int) (w : World) (hn : -9223372036854775808 ≤ n ∧ n < 9223372036854775808) :
    Calls Tryd.prog 55 #[.int .u64 p, .int .i64 n] w fun e w' => e = .returned (.int .i64 (if Fp.kn p = false then 2 else if n < 1 ∨ 8192 < n then 1 else 0)) ∧ w = w' := by
  cases h : Fp.kn p
  · have H := Lib.hid h; clear h
    go_enter Tryd.func55, Tryd.ntmps55
    go_wp2_with (go_at_call 24; refine (known_no p _ H.out).mono ?_; rintro e w' ⟨rfl, rfl⟩)
    go_ret
    exact ⟨rfl, rfl⟩
  · have H := Lib.hid h; clear h
    by_cases h1 : n < 1
    · go_enter Tryd.func55, Tryd.ntmps55
      go_wp2_with (go_at_call 24; refine (known_yes p _ H.out).mono ?_; rintro e w' ⟨rfl, rfl⟩)
      go_ret
      exact ⟨rfl, rfl⟩
    by_cases h2 : 8192 < n
    · go_enter Tryd.func55, Tryd.ntmps55
      go_wp2_with (go_at_call 24; refine (known_yes p _ H.out).mono ?_; rintro e w' ⟨rfl, rfl⟩)
      go_ret
      exact ⟨rfl, rfl⟩
    · go_enter Tryd.func55, Tryd.ntmps55
      go_wp2_with (go_at_call 24; refine (known_yes p _ H.out).mono ?_; rintro e w' ⟨rfl, rfl⟩)
      go_ret
      exact ⟨rfl, rfl⟩

/-- What Root tells: an error's number, and the root. -/
def rootE (p n : Int) : Int := if Fp.kn p = false then 2 else if n < 1 ∨ 8192 < n then 1 else if (p - 1) % n ≠ 0 then 5 else 0
def rootN (p n : Int) : Int := if rootE p n = 0 then Fp.rt p n.toNat else 0
theorem rootE_cases (p n : Int) : Fp.kn p = false ∧ rootE p n = 2 ∨ Fp.kn p = true ∧ (n < 1 ∨ 8192 < n) ∧ rootE p n = 1 ∨ Fp.kn p = true ∧ 1 ≤ n ∧ n ≤ 8192 ∧ (p - 1) % n ≠ 0 ∧ rootE p n = 5 ∨ Fp.kn p = true ∧ 1 ≤ n ∧ n ≤ 8192 ∧ (p - 1) % n = 0 ∧ rootE p n = 0 := by
  unfold rootE
  cases h : Fp.kn p
  · simp
  · simp only [Bool.true_eq_false, if_false]
    by_cases h1 : n < 1 ∨ 8192 < n
    · simp [h1]
    · by_cases h2 : (p - 1) % n = 0
      · simp [h1, h2]; omega
      · simp [h1, h2]; omega
theorem rootN_bd (p n : Int) : 0 ≤ rootN p n ∧ rootN p n < 18446744069414584321 := by
  unfold rootN
  split
  · exact ⟨(Fp.rt_bd p n.toNat).1, (Fp.rt_bd p n.toNat).2.1⟩
  · omega
theorem root_exp {p n : Int} (h : Fp.kn p = true) (h1 : 1 ≤ n) : 0 ≤ (p - 1) / n ∧ (p - 1) / n < 18446744073709551616 ∧ ((p - 1) / n).toNat = (p.toNat - 1) / n.toNat := by
  obtain ⟨p1, p2⟩ := Fp.kn_bd h
  obtain ⟨q, rfl⟩ := Int.eq_ofNat_of_zero_le (show 0 ≤ p by omega)
  obtain ⟨m, rfl⟩ := Int.eq_ofNat_of_zero_le (show 0 ≤ n by omega)
  have e : ((q : Int) - 1) / (m : Int) = (((q - 1) / m : Nat) : Int) := by
    rw [Int.natCast_ediv]; congr 1; omega
  have hl := Nat.div_le_self (q - 1) m
  rw [e]
  have eq : ((q : Int)).toNat - 1 = q - 1 := by omega
  have em : ((m : Int)).toNat = m := by omega
  rw [eq, em]
  generalize (q - 1) / m = z at *
  exact ⟨by omega, by omega, by omega⟩
theorem tup_i {a b x : Int} (h : a = b) : Ending.returned (.tuple #[.int .u64 a, .int .i64 x]) = .returned (.tuple #[.int .u64 b, .int .i64 x]) := by rw [h]

set_option maxRecDepth 100000 in
theorem root_any (p n : Int) (w : World) (hG : Gl w) (hn : -9223372036854775808 ≤ n ∧ n < 9223372036854775808) :
    Calls Tryd.prog 38 #[.int .u64 p, .int .i64 n] w (RetB (.tuple #[.int .u64 (rootN p n), .int .i64 (rootE p n)]) w) := by
  have HC := Lib.hid (rootCheck_any p n)
  unfold rootN
  rcases rootE_cases p n with ⟨h, hE⟩ | ⟨h, h1, hE⟩ | ⟨h, h1, h2, h3, hE⟩ | ⟨h, h1, h2, h3, hE⟩
  · rw [hE, if_neg (by omega)]
    have ec : Hid ((if Fp.kn p = false then (2 : Int) else if n < 1 ∨ 8192 < n then 1 else 0) = 2) := Lib.hid (by rw [if_pos h])
    clear hE hG h
    go_enter Tryd.func38, Tryd.ntmps38
    go_wp2_with (go_at_call 55; refine (HC.out _ hn).mono ?_; rw [ec.out]; rintro e w' ⟨rfl, rfl⟩)
    go_ret2
    exact ⟨rfl, Below.refl _ _⟩
  · rw [hE, if_neg (by omega)]
    have ec : Hid ((if Fp.kn p = false then (2 : Int) else if n < 1 ∨ 8192 < n then 1 else 0) = 1) := Lib.hid (by rw [if_neg (by simp [h]), if_pos h1])
    clear hE hG h h1
    go_enter Tryd.func38, Tryd.ntmps38
    go_wp2_with (go_at_call 55; refine (HC.out _ hn).mono ?_; rw [ec.out]; rintro e w' ⟨rfl, rfl⟩)
    go_ret2
    exact ⟨rfl, Below.refl _ _⟩
  · rw [hE, if_neg (by omega)]
    have ec : Hid ((if Fp.kn p = false then (2 : Int) else if n < 1 ∨ 8192 < n then 1 else 0) = 0) := Lib.hid (by rw [if_neg (by simp [h]), if_neg (by omega)])
    obtain ⟨p1, p2⟩ := Fp.kn_bd h
    have d : ((p - 1) % n != 0) = true := by rw [bne_iff_ne]; exact h3
    clear hE hG h h3
    go_enter Tryd.func38, Tryd.ntmps38
    go_wp2_with (go_at_call 55; refine (HC.out _ hn).mono ?_; rw [ec.out]; rintro e w' ⟨rfl, rfl⟩)
    go_ret2
    exact ⟨rfl, Below.refl _ _⟩
  · rw [hE, if_pos rfl]
    have ec : Hid ((if Fp.kn p = false then (2 : Int) else if n < 1 ∨ 8192 < n then 1 else 0) = 0) := Lib.hid (by rw [if_neg (by simp [h]), if_neg (by omega)])
    obtain ⟨p1, p2⟩ := Fp.kn_bd h
    have d : ((p - 1) % n != 0) = false := by rw [h3]; rfl
    obtain ⟨x0, x1, x2⟩ := root_exp h h1
    obtain ⟨g0, g1⟩ := Fp.gen_bd p
    have HE : Hid (Fp.pw p (Fp.gen p) ((p - 1) / n).toNat = Fp.rt p n.toNat) := Lib.hid (by rw [x2]; rfl)
    have HG := Lib.hid hG
    clear hE hG h h3 x2
    go_enter Tryd.func38, Tryd.ntmps38
    go_wp2_with (go_at_call 55; refine (HC.out _ hn).mono ?_; rw [ec.out]; rintro e w' ⟨rfl, rfl⟩)
    refine wp_region_since (by kernel_rfl) (by kernel_rfl) ?_
    repeat (go_big_quiet_step (first
      | (go_at_call 56; rename_i s; exact since_call s (rgen_any _ _ (HG.out.below HG.out.lt s.below)))
      | (go_at_call 23; rename_i s; exact since_quiet s (pow_any _ _ _ _ (by omega) (by omega) (by omega) (by omega)))))
    refine wpQuiet_nil ?_
    rintro _ ⟨⟨W, hB⟩, rfl⟩
    go_wp2
    go_ret2
    exact ⟨tup_i HE.out, hB⟩

/-- What Order tells. -/
def orderE (p n : Int) : Int := if Fp.kn p = false then 2 else if n < 1 ∨ 8192 < n then 1 else 0
def orderB (p a n : Int) : Bool := if orderE p n = 0 then Fp.ord p a n.toNat else false
theorem orderE_cases (p n : Int) : orderE p n = 2 ∧ Fp.kn p = false ∨ orderE p n = 1 ∧ Fp.kn p = true ∧ (n < 1 ∨ 8192 < n) ∨ orderE p n = 0 ∧ Fp.kn p = true ∧ 1 ≤ n ∧ n ≤ 8192 := by
  unfold orderE
  cases h : Fp.kn p
  · simp
  · simp only [Bool.true_eq_false, if_false]
    by_cases h1 : n < 1 ∨ 8192 < n
    · simp [h1]
    · simp [h1]; omega
theorem tup_b {a b : Bool} {x : Int} (h : a = b) : Ending.returned (.tuple #[.bool a, .int .i64 x]) = .returned (.tuple #[.bool b, .int .i64 x]) := by rw [h]

/-- What Back tells. -/
def backN (p n : Int) : Int := if rootE p n = 0 then Fp.inv p (Fp.rt p n.toNat) else 0
theorem rt_dvd {p n : Int} (h : Fp.kn p = true) (h1 : 1 ≤ n) (h3 : (p - 1) % n = 0) : n.toNat ∣ p.toNat - 1 := by
  have hb := Fp.kn_bd h
  have := Int.dvd_of_emod_eq_zero h3
  rw [← Int.natCast_dvd_natCast]
  rwa [show ((n.toNat : Nat) : Int) = n by omega, show ((p.toNat - 1 : Nat) : Int) = p - 1 by omega]

theorem back_any (p n : Int) (w : World) (hG : Gl w) (hn : -9223372036854775808 ≤ n ∧ n < 9223372036854775808) :
    Calls Tryd.prog 42 #[.int .u64 p, .int .i64 n] w (RetB (.tuple #[.int .u64 (backN p n), .int .i64 (rootE p n)]) w) := by
  have HR := Lib.hid (root_any p n w hG hn); clear hG
  by_cases hE : rootE p n = 0
  · rcases rootE_cases p n with ⟨h, hE'⟩ | ⟨h, h1, hE'⟩ | ⟨h, h1, h2, h3, hE'⟩ | ⟨h, h1, h2, h3, -⟩
    · omega
    · omega
    · omega
    have hz := Fp.rt_ne h (rt_dvd h h1 h3) (by omega)
    obtain ⟨x0, x1, -⟩ := Fp.rt_bd p n.toNat
    unfold backN
    unfold rootN at HR
    rw [hE, if_pos rfl] at HR
    rw [hE, if_pos rfl]
    have HI := Lib.hid (fun W => inv_yes p (Fp.rt p n.toNat) W h x0 (by omega) hz)
    clear hE h h1 h2 h3 hz
    go_enter Tryd.func42, Tryd.ntmps42
    go_wp2_with (first
      | (go_at_call 38; refine HR.out.mono ?_; rintro e w1 ⟨rfl, hB⟩)
      | (go_at_call 43; refine (HI.out _).mono ?_; rintro e w' ⟨rfl, nd, rfl⟩))
    go_ret2
    exact ⟨rfl, below_draws hB _⟩
  · unfold backN
    unfold rootN at HR
    rw [if_neg hE] at HR
    rw [if_neg hE]
    have t : (rootE p n != 0) = true := by rw [bne_iff_ne]; exact hE
    clear hE
    go_enter Tryd.func42, Tryd.ntmps42
    go_wp2_with (go_at_call 38; refine HR.out.mono ?_; rintro e w1 ⟨rfl, hB⟩)
    go_ret2
    exact ⟨rfl, hB⟩

end Go.Proofs.YtmcnamlgbkbiaaaDoor
