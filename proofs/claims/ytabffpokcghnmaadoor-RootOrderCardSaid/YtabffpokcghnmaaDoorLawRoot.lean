/-
  The walks of three laws over package root: RootOrder, RootSteps, RootSum return true for every numbers, in a world where the table of generators is as its own text lays it; nothing that was there is written.
-/
import Derived.Test.YtabffpokcghnmaaDoorLawPow
import Derived.Test.YtabffpokcghnmaaDoorRoot
namespace Go.Proofs.YtabffpokcghnmaaDoor
open Go.RowKit

namespace Fp
theorem rt_one_two : rt 998244353 2 = 998244352 := by
  show pw 998244353 (gen 998244353) _ = _
  rw [pw_nat kn_one (by decide) (by decide), ← pwf_eq _ 64 _ _ (by decide)]
  decide +kernel
end Fp

theorem rlive_any (w : World) (hG : Gl w) : Calls Tryd.prog 7 #[] w (RetB (.bool true) w) := by
  have HR := Lib.hid (root_any 998244353 2 w hG (by omega))
  rw [show rootE 998244353 2 = 0 from by decide, show rootN 998244353 2 = 998244352 from by rw [rootN, if_pos (by decide)]; exact Fp.rt_one_two] at HR
  have HG := Lib.hid hG; clear hG
  go_enter Tryd.func7, Tryd.ntmps7
  go_wp2_with (first
    | (go_at_call 8; refine HR.out.mono ?_; rintro e w1 ⟨rfl, hB⟩)
    | (go_at_call 14; refine (rgen_any _ _ (HG.out.below HG.out.lt hB)).mono ?_; rintro e w2 ⟨rfl, hB2⟩))
  go_ret
  exact ⟨rfl, hB.trans (hB2.mono hB.size)⟩

theorem int_of {a : Int} (h : (Lit.int .i64 a).wf = true) : -9223372036854775808 ≤ a ∧ a < 9223372036854775808 := by
  have := bounds_i64 h
  omega
theorem word8_of {a : Int} (h : (Lit.int .u8 a).wf = true) : 0 ≤ a ∧ a < 256 := by
  have := bounds_u8 h
  omega
theorem word16_of {a : Int} (h : (Lit.int .u16 a).wf = true) : 0 ≤ a ∧ a < 65536 := by
  have := bounds_u16 h
  omega

/-- Behind one call, and another. -/
theorem below_then {w w1 w2 : World} (h : Below w.heap.size w w1) (h2 : Below w1.heap.size w1 w2) : Below w.heap.size w w2 := h.trans (h2.mono h.size)
theorem Gl.then {w w1 : World} (h : Gl w) (hb : Below w.heap.size w w1) : Gl w1 := h.below h.lt hb

set_option maxHeartbeats 1000000 in
set_option maxRecDepth 100000 in
theorem walk_RootOrder (p n m : Int) (_hp : (Lit.int .u64 p).wf = true) (hn : (Lit.int .i64 n).wf = true) (hm : (Lit.int .i64 m).wf = true) (w : World) (hG : Gl w) :
    Calls Tryd.prog 4 #[.int .u64 p, .int .i64 n, .int .i64 m] w fun e w' => e = .returned (.bool true) ∧ Below w.heap.size w w' := by
  have n1 := int_of hn
  have m1 := int_of hm
  clear hn hm
  have HG := Lib.hid hG; clear hG
  by_cases hE : rootE p n = 0
  · rcases rootE_cases p n with ⟨h, hE'⟩ | ⟨h, h1, hE'⟩ | ⟨h, h1, h2, h3, hE'⟩ | ⟨h, h1, h2, h3, -⟩
    · omega
    · omega
    · omega
    have hd := rt_dvd h h1 h3
    have hz := Fp.rt_ne h hd (by omega)
    obtain ⟨x0, x1, -⟩ := Fp.rt_bd p n.toNat
    obtain ⟨y0, y1, -⟩ := Fp.inv_bd p (Fp.rt p n.toNat)
    have eN : rootN p n = Fp.rt p n.toNat := by unfold rootN; rw [if_pos hE]
    have eB : backN p n = Fp.inv p (Fp.rt p n.toNat) := by unfold backN; rw [if_pos hE]
    have oE : orderE p n = 0 := by unfold orderE; rw [if_neg (by simp [h]), if_neg (by omega)]
    have o1 : orderB p (Fp.rt p n.toNat) n = true := by
      unfold orderB; rw [if_pos oE, Fp.ord_of (n := n.toNat) (by omega) (Fp.rt_pw h hd) (by omega)]; simp
    have o2 : orderB p (Fp.inv p (Fp.rt p n.toNat)) n = true := by
      unfold orderB; rw [if_pos oE, Fp.ord_of (n := n.toNat) (by omega) (fun k => (Fp.inv_pw h hz k).trans (Fp.rt_pw h hd k)) (by omega)]; simp
    have t : (Fp.mul p (Fp.rt p n.toNat) (Fp.inv p (Fp.rt p n.toNat)) == 1) = true := by rw [Fp.mul_comm, Fp.mul_inv h hz]; rfl
    obtain ⟨r, hr⟩ : ∃ r, r = Fp.rt p n.toNat := ⟨_, rfl⟩
    obtain ⟨v, hv⟩ : ∃ v, v = Fp.inv p (Fp.rt p n.toNat) := ⟨_, rfl⟩
    have o3 : orderE p m = 0 → orderB p r m = decide (m = n) := by
      intro oM
      unfold orderB
      rcases orderE_cases p m with ⟨e, -⟩ | ⟨e, -⟩ | ⟨e, -, m0, -⟩
      · omega
      · omega
      rw [if_pos oM, hr, Fp.ord_of (n := n.toNat) (by omega) (Fp.rt_pw h hd) (by omega)]
      simp; omega
    have HR := Lib.hid (fun W G => root_any p n W G n1)
    have HK := Lib.hid (fun W G => back_any p n W G n1)
    have H1 := Lib.hid (fun W => order_any p r n W (by rw [hr]; exact x0) (by rw [hr]; omega) n1)
    have H2 := Lib.hid (fun W => order_any p v n W (by rw [hv]; exact y0) (by rw [hv]; omega) n1)
    have H3 := Lib.hid (fun W => order_any p r m W (by rw [hr]; exact x0) (by rw [hr]; omega) m1)
    rw [← hv] at o2 eB t y0 y1
    rw [← hr] at o1 eN t x0 x1
    rw [eN, hE] at HR
    rw [eB, hE] at HK
    rw [o1, oE] at H1
    rw [o2, oE] at H2
    clear hE h h1 h2 h3 hd hz eN eB oE o1 o2 hr hv
    cases q : (orderE p m != 0)
    · have oM : orderE p m = 0 := by simpa using q
      have e3 := o3 oM
      have oM' : (orderE p m == 0) = true := by rw [oM]; rfl
      rw [oM, e3] at H3
      clear o3 oM oM' e3 q
      by_cases hmn : m = n
      · have d : (m == n) = true := by rw [hmn]; simp
        rw [decide_eq_true hmn] at H3
        clear hmn
        go_enter Tryd.func4, Tryd.ntmps4
        go_wp2_with fail
        refine (rlive_any _ HG.out).mono ?_; rintro e w1 ⟨rfl, b1⟩
        go_wp2_with fail
        refine (HR.out _ (HG.out.then b1)).mono ?_; rintro e w2 ⟨rfl, b2⟩
        go_wp2_with fail
        refine (HK.out _ ((HG.out.then b1).then b2)).mono ?_; rintro e w3 ⟨rfl, b3⟩
        go_wp2_with fail
        refine (H1.out _).mono ?_; rintro e w' ⟨rfl, d1, rfl⟩
        go_wp2_with fail
        refine (H2.out _).mono ?_; rintro e w' ⟨rfl, d2, rfl⟩
        go_wp2_with fail
        refine (H3.out _).mono ?_; rintro e w' ⟨rfl, d3, rfl⟩
        go_wp2_with (go_at_call 16; refine (mul_any _ _ _ _ (by omega) (by omega) (by omega) (by omega)).mono ?_; rintro e w' ⟨rfl, d4, rfl⟩)
        go_ret
        exact ⟨rfl, below_draws (below_then (below_then b1 b2) b3) _⟩
      · have d : (m == n) = false := beq_eq_false_iff_ne.2 hmn
        rw [decide_eq_false hmn] at H3
        clear hmn
        go_enter Tryd.func4, Tryd.ntmps4
        go_wp2_with fail
        refine (rlive_any _ HG.out).mono ?_; rintro e w1 ⟨rfl, b1⟩
        go_wp2_with fail
        refine (HR.out _ (HG.out.then b1)).mono ?_; rintro e w2 ⟨rfl, b2⟩
        go_wp2_with fail
        refine (HK.out _ ((HG.out.then b1).then b2)).mono ?_; rintro e w3 ⟨rfl, b3⟩
        go_wp2_with fail
        refine (H1.out _).mono ?_; rintro e w' ⟨rfl, d1, rfl⟩
        go_wp2_with fail
        refine (H2.out _).mono ?_; rintro e w' ⟨rfl, d2, rfl⟩
        go_wp2_with fail
        refine (H3.out _).mono ?_; rintro e w' ⟨rfl, d3, rfl⟩
        go_wp2_with (go_at_call 16; refine (mul_any _ _ _ _ (by omega) (by omega) (by omega) (by omega)).mono ?_; rintro e w' ⟨rfl, d4, rfl⟩)
        go_ret
        exact ⟨rfl, below_draws (below_then (below_then b1 b2) b3) _⟩
    · clear o3
      go_enter Tryd.func4, Tryd.ntmps4
      go_wp2_with fail
      refine (rlive_any _ HG.out).mono ?_; rintro e w1 ⟨rfl, b1⟩
      go_wp2_with fail
      refine (HR.out _ (HG.out.then b1)).mono ?_; rintro e w2 ⟨rfl, b2⟩
      go_wp2_with fail
      refine (HK.out _ ((HG.out.then b1).then b2)).mono ?_; rintro e w3 ⟨rfl, b3⟩
      go_wp2_with fail
      refine (H1.out _).mono ?_; rintro e w' ⟨rfl, d1, rfl⟩
      go_wp2_with fail
      refine (H2.out _).mono ?_; rintro e w' ⟨rfl, d2, rfl⟩
      go_wp2_with fail
      refine (H3.out _).mono ?_; rintro e w' ⟨rfl, d3, rfl⟩
      go_wp2_with (go_at_call 16; refine (mul_any _ _ _ _ (by omega) (by omega) (by omega) (by omega)).mono ?_; rintro e w' ⟨rfl, d4, rfl⟩)
      go_ret
      exact ⟨rfl, below_draws (below_then (below_then b1 b2) b3) _⟩
  · have HR := Lib.hid (fun W G => root_any p n W G n1)
    rw [show rootN p n = 0 from by unfold rootN; rw [if_neg hE]] at HR
    have t : (rootE p n != 0) = true := by rw [bne_iff_ne]; exact hE
    clear hE
    go_enter Tryd.func4, Tryd.ntmps4
    go_wp2_with fail
    refine (rlive_any _ HG.out).mono ?_; rintro e w1 ⟨rfl, b1⟩
    go_wp2_with fail
    refine (HR.out _ (HG.out.then b1)).mono ?_; rintro e w2 ⟨rfl, b2⟩
    go_wp2
    go_ret
    exact ⟨rfl, below_then b1 b2⟩

theorem prod8 {n m : Int} (n0 : 0 ≤ n) (n1 : n < 256) (m0 : 0 ≤ m) (m1 : m < 256) : 0 ≤ n * m ∧ n * m ≤ 65025 ∧ (n * m).toNat = n.toNat * m.toNat := by
  have h0 : 0 ≤ n * m := Int.mul_nonneg n0 m0
  have h1 : n * m ≤ 255 * 255 := Int.mul_le_mul (by omega) (by omega) m0 (by omega)
  exact ⟨h0, by omega, Int.toNat_mul n0 m0⟩

namespace Fp
/-- The power m of the root of n times m is the root of n. -/
theorem rt_steps {p : Int} {n m : Nat} (hm : 0 < m) (hd : n * m ∣ p.toNat - 1) : pw p (rt p (n * m)) m = rt p n := by
  unfold rt
  rw [← pw_mul]
  congr 1
  obtain ⟨c, hc⟩ := hd
  rcases Nat.eq_zero_or_pos n with e | hn
  · subst e; simp
  · rw [hc, Nat.mul_div_cancel_left _ (Nat.mul_pos hn hm), Nat.mul_assoc, Nat.mul_div_cancel_left _ hn, Nat.mul_comm]
end Fp

set_option maxHeartbeats 1000000 in
theorem walk_RootSteps (p n m : Int) (_hp : (Lit.int .u64 p).wf = true) (hn : (Lit.int .u8 n).wf = true) (hm : (Lit.int .u8 m).wf = true) (w : World) (hG : Gl w) :
    Calls Tryd.prog 5 #[.int .u64 p, .int .u8 n, .int .u8 m] w fun e w' => e = .returned (.bool true) ∧ Below w.heap.size w w' := by
  obtain ⟨n0, n1⟩ := word8_of hn
  obtain ⟨m0, m1⟩ := word8_of hm
  clear hn hm
  have HG := Lib.hid hG; clear hG
  obtain ⟨q0, q1, q2⟩ := prod8 n0 n1 m0 m1
  have HA := Lib.hid (fun W G => root_any p (n * m) W G (by omega))
  have HB := Lib.hid (fun W G => root_any p n W G (by omega))
  by_cases hE : rootE p (n * m) = 0
  · rcases rootE_cases p (n * m) with ⟨h, hE'⟩ | ⟨h, h1, hE'⟩ | ⟨h, h1, h2, h3, hE'⟩ | ⟨h, h1, h2, h3, -⟩
    · omega
    · omega
    · omega
    have nn : 1 ≤ n := by
      by_cases e : n < 1
      · obtain rfl : n = 0 := by omega
        simp at h1
      · omega
    have mm : 1 ≤ m := by
      by_cases e : m < 1
      · obtain rfl : m = 0 := by omega
        simp at h1
      · omega
    have hd := rt_dvd h h1 h3
    rw [q2] at hd
    have fE : rootE p n = 0 := by
      unfold rootE
      rw [if_neg (by simp [h]), if_neg (by omega), if_neg]
      simp only [ne_eq, Decidable.not_not]
      exact Int.emod_eq_zero_of_dvd (Int.dvd_trans (Int.dvd_mul_right n m) (Int.dvd_of_emod_eq_zero h3))
    have eA : rootN p (n * m) = Fp.rt p (n * m).toNat := by unfold rootN; rw [if_pos hE]
    have eB : rootN p n = Fp.rt p n.toNat := by unfold rootN; rw [if_pos fE]
    rw [eA, hE] at HA
    rw [eB, fE] at HB
    obtain ⟨x0, x1, -⟩ := Fp.rt_bd p (n * m).toNat
    have t : (Fp.pw p (Fp.rt p (n * m).toNat) m.toNat == Fp.rt p n.toNat) = true := by
      rw [q2, Fp.rt_steps (by omega) hd]; simp
    clear hE h h1 h2 h3 nn mm hd fE eA eB q2
    go_enter Tryd.func5, Tryd.ntmps5
    go_wp2_with fail
    refine (rlive_any _ HG.out).mono ?_; rintro e w1 ⟨rfl, b1⟩
    go_wp2_with fail
    refine (HA.out _ (HG.out.then b1)).mono ?_; rintro e w2 ⟨rfl, b2⟩
    go_wp2_with fail
    refine (HB.out _ ((HG.out.then b1).then b2)).mono ?_; rintro e w3 ⟨rfl, b3⟩
    go_wp2_with (go_at_call 17; refine (pow_any _ _ _ _ (by omega) (by omega) (by omega) (by omega)).mono ?_; rintro e w' ⟨rfl, d1, rfl⟩)
    go_ret
    exact ⟨rfl, below_draws (below_then (below_then b1 b2) b3) _⟩
  · rw [show rootN p (n * m) = 0 from by unfold rootN; rw [if_neg hE]] at HA
    have t : (rootE p (n * m) != 0) = true := by rw [bne_iff_ne]; exact hE
    clear hE
    go_enter Tryd.func5, Tryd.ntmps5
    go_wp2_with fail
    refine (rlive_any _ HG.out).mono ?_; rintro e w1 ⟨rfl, b1⟩
    go_wp2_with fail
    refine (HA.out _ (HG.out.then b1)).mono ?_; rintro e w2 ⟨rfl, b2⟩
    go_wp2_with fail
    refine (HB.out _ ((HG.out.then b1).then b2)).mono ?_; rintro e w3 ⟨rfl, b3⟩
    go_wp2
    go_ret
    exact ⟨rfl, below_then (below_then b1 b2) b3⟩

set_option maxHeartbeats 1000000 in
theorem walk_RootSum (p n k : Int) (_hp : (Lit.int .u64 p).wf = true) (hn : (Lit.int .u8 n).wf = true) (hk : (Lit.int .u16 k).wf = true) (w : World) (hG : Gl w) :
    Calls Tryd.prog 6 #[.int .u64 p, .int .u8 n, .int .u16 k] w fun e w' => e = .returned (.bool true) ∧ Below w.heap.size w w' := by
  obtain ⟨n0, n1⟩ := word8_of hn
  obtain ⟨k0, k1⟩ := word16_of hk
  clear hn hk
  have HG := Lib.hid hG; clear hG
  have HA := Lib.hid (fun W G => root_any p n W G (by omega))
  by_cases hE : rootE p n = 0
  · rcases rootE_cases p n with ⟨h, hE'⟩ | ⟨h, h1, hE'⟩ | ⟨h, h1, h2, h3, hE'⟩ | ⟨h, h1, h2, h3, -⟩
    · omega
    · omega
    · omega
    have hd := rt_dvd h h1 h3
    have eA : rootN p n = Fp.rt p n.toNat := by unfold rootN; rw [if_pos hE]
    rw [eA, hE] at HA
    obtain ⟨x0, x1, -⟩ := Fp.rt_bd p n.toNat
    obtain ⟨x, hx⟩ : ∃ x, x = Fp.pw p (Fp.rt p n.toNat) k.toNat := ⟨_, rfl⟩
    obtain ⟨y0, y1, -⟩ := Fp.pw_bd p (Fp.rt p n.toNat) k.toNat
    have HX := Lib.hid hx
    have hred : Fp.red p x = x := by rw [hx]; exact Fp.red_pw _ _ _
    have hxn : Fp.pw p x n.toNat = 1 := by
      rw [hx, ← Fp.pw_mul, Nat.mul_comm, Fp.pw_mul, (Fp.rt_pw h hd n.toNat).2 (Nat.dvd_refl _), Fp.pw_one_base h]
    have hx1 : x = 1 → k % n = 0 := by
      intro e
      have hdk := (Fp.rt_pw h hd k.toNat).1 (by rw [← hx]; exact e)
      have := Int.natCast_dvd_natCast.2 hdk
      rw [show ((n.toNat : Nat) : Int) = n by omega, show ((k.toNat : Nat) : Int) = k by omega] at this
      exact Int.emod_eq_zero_of_dvd this
    rw [← hx] at y0 y1
    obtain ⟨c, rfl⟩ := Int.eq_ofNat_of_zero_le n0
    rw [Int.toNat_natCast] at hxn HA HX x0 x1
    have hb := Fp.kn_bd h
    have HS1 : Hid (x = 1 → Fp.psum p x c = c) := Lib.hid (fun e => by rw [e]; exact Fp.psum_one h c (by omega))
    have HS0 : Hid (x ≠ 1 → Fp.psum p x c = 0) := Lib.hid (fun e => Fp.psum_zero h hxn (by rw [hred]; exact e))
    have HK := Lib.hid hx1
    have HN := Lib.hid hxn
    have H := Lib.hid h
    clear hE h h2 h3 hd eA hx hred hxn hx1 hb
    go_enter Tryd.func6, Tryd.ntmps6
    go_wp2_with fail
    refine (rlive_any _ HG.out).mono ?_; rintro e w1 ⟨rfl, b1⟩
    go_wp2_with fail
    refine (HA.out _ (HG.out.then b1)).mono ?_; rintro e w2 ⟨rfl, b2⟩
    go_wp2_with fail
    refine (pow_any _ _ _ _ (by omega) (by omega) (by omega) (by omega)).mono ?_; rintro e w' ⟨rfl, d1, rfl⟩
    rw [← HX.out]
    go_wp2_with fail
    have HB := Lib.hid (below_then b1 b2)
    go_loopw [10, 11, 31] (fun s y i wr => ∃ j q : Nat, j ≤ c ∧ i = .int .u8 j ∧ s = .int .u64 (Fp.psum p x j) ∧ y = .int .u64 (Fp.pw p x j) ∧ wr = w2.drewN q) (fun _ _ i _ => c - (intOf i).toNat)
    case atStart => exact ⟨0, _, Nat.zero_le _, rfl, rfl, by rw [Fp.pw_zero, Fp.red_one H.out], rfl⟩
    case round =>
      obtain ⟨j, q, hj, rfl, rfl, rfl, rfl⟩ := hrel
      obtain ⟨s0, s1, _⟩ := Fp.psum_bd p x j
      obtain ⟨z0, z1, _⟩ := Fp.pw_bd p x j
      by_cases hlt : j < c
      · have HP : Hid (Fp.psum p x (j + 1) = Fp.add p (Fp.psum p x j) (Fp.pw p x j)) := Lib.hid rfl
        have HS := Lib.hid (Fp.pw_succ p x j)
        go_wp2_with (first
          | (go_at_call 18; refine (add_any _ _ _ _ (by omega) (by omega) (by omega) (by omega)).mono ?_; rintro e w' ⟨rfl, nd, rfl⟩)
          | (go_at_call 16; refine (mul_any _ _ _ _ (by omega) (by omega) (by omega) (by omega)).mono ?_; rintro e w' ⟨rfl, nd, rfl⟩))
        go_roundw
        case rel => exact ⟨j + 1, _, by omega, by go_num, by rw [HP.out], by rw [HS.out], rfl⟩
        case measure => simp [intOf]; omega
      · obtain rfl : j = c := by omega
        by_cases hx1 : x = 1
        · have e1 := HS1.out hx1
          have e2 := HK.out hx1
          have t1 : (x == 1) = true := by rw [hx1]; rfl
          have t2 : (Fp.psum p x j == (j : Int)) = true := by rw [e1]; simp
          have t3 : (k % (j : Int) == 0) = true := by rw [e2]; rfl
          clear e1 e2 hx1
          go_wp2
          go_ret
          exact ⟨rfl, below_draws HB.out _⟩
        · have e1 := HS0.out hx1
          have t1 : (x == 1) = false := beq_eq_false_iff_ne.2 hx1
          have t2 : (Fp.psum p x j == 0) = true := by rw [e1]; rfl
          have t3 : (Fp.pw p x j == 1) = true := by rw [HN.out]; rfl
          clear e1 hx1
          go_wp2
          go_ret
          exact ⟨rfl, below_draws HB.out _⟩
  · rw [show rootN p n = 0 from by unfold rootN; rw [if_neg hE]] at HA
    have t : (rootE p n != 0) = true := by rw [bne_iff_ne]; exact hE
    clear hE
    go_enter Tryd.func6, Tryd.ntmps6
    go_wp2_with fail
    refine (rlive_any _ HG.out).mono ?_; rintro e w1 ⟨rfl, b1⟩
    go_wp2_with fail
    refine (HA.out _ (HG.out.then b1)).mono ?_; rintro e w2 ⟨rfl, b2⟩
    go_wp2
    go_ret
    exact ⟨rfl, below_then b1 b2⟩

end Go.Proofs.YtabffpokcghnmaaDoor
