/-
  What geom.Sum comes to, over every input: the sum of powers by a prime, or why not; and the chapter's example.
-/
import Derived.Test.YtancfpekiecoiaaMathGeom
import Derived.Test.YtancfpekiecoiaaRows2
import Derived.Deep.RegionWith
namespace Go.Proofs.Ytancfpekiecoiaa
open Go.RowKit

set_option maxHeartbeats 1000000 in
theorem gsum_any (p : Int) (h : Fp.kn p = true) : ∀ (n : Nat) (z : Int) (w : World), 0 ≤ z → z < 18446744073709551616 → n ≤ 65536 →
    Calls Try.prog 21 #[.int .u64 p, .int .u64 z, .int .i64 (n : Int)] w (RetQ (.int .u64 (Fp.gsum p z n)) w) := by
  intro n
  induction n using Nat.strongRecOn with
  | _ n ih =>
    intro z w z0 z1 hn
    have IH := Lib.hid ih; clear ih
    have H := Lib.hid h; clear h
    by_cases h0 : n = 0
    · subst h0
      have he := Lib.hid (Fp.gsum_zero H.out z)
      go_enter Try.func21, Try.ntmps21
      go_wp2
      go_ret
      exact ⟨ret_u64 he.out.symm, 0, rfl⟩
    · have d0 : ((n : Int) == 0) = false := beq_eq_false_iff_ne.2 (by omega)
      by_cases h1 : n % 2 = 1
      · obtain ⟨m, rfl⟩ : ∃ m, n = m + 1 := ⟨n - 1, by omega⟩
        have e1 : (((m + 1 : Nat) : Int)).tmod 2 = 1 := by rw [Int.tmod_eq_emod_of_nonneg (by omega)]; omega
        have e2 : ((m + 1 : Nat) : Int) - 1 = (m : Int) := by omega
        have he := Lib.hid (Fp.gsum_one H.out z m)
        obtain ⟨v0, v1, -⟩ := Fp.gsum_bd p z m
        obtain ⟨u0, u1, -⟩ := Fp.mul_bd p z (Fp.gsum p z m)
        go_enter Try.func21, Try.ntmps21
        go_wp2_with (first
          | (go_at_call 21; refine (IH.out m (by omega) z _ z0 z1 (by omega)).mono ?_; rintro e w' ⟨rfl, n1, rfl⟩)
          | (go_at_call 17; refine (mul_any _ _ _ _ (by omega) (by omega) v0 (by omega)).mono ?_; rintro e w' ⟨rfl, n2, rfl⟩)
          | (go_at_call 16; refine (add_any _ _ _ _ (by omega) (by omega) (by omega) (by omega)).mono ?_; rintro e w' ⟨rfl, n3, rfl⟩))
        go_ret
        exact ⟨ret_u64 he.out, _, rfl⟩
      · obtain ⟨m, rfl⟩ : ∃ m, n = 2 * m := ⟨n / 2, by omega⟩
        have e1 : (((2 * m : Nat) : Int)).tmod 2 = 0 := by rw [Int.tmod_eq_emod_of_nonneg (by omega)]; omega
        have e2 : (((2 * m : Nat) : Int)).tdiv 2 = (m : Int) := by rw [Int.tdiv_eq_ediv_of_nonneg (by omega)]; omega
        have he := Lib.hid (Fp.gsum_even H.out z m)
        obtain ⟨a0, a1, -⟩ := Fp.add_bd p 1 z
        obtain ⟨u0, u1, -⟩ := Fp.mul_bd p z z
        obtain ⟨v0, v1, -⟩ := Fp.gsum_bd p (Fp.mul p z z) m
        go_enter Try.func21, Try.ntmps21
        go_wp2_with (first
          | (go_at_call 21; refine (IH.out m (by omega) _ _ u0 (by omega) (by omega)).mono ?_; rintro e w' ⟨rfl, n1, rfl⟩)
          | (go_at_call_of 17 (Value.int .u64 (Fp.add p 1 z)); refine (mul_any _ _ _ _ a0 (by omega) v0 (by omega)).mono ?_; rintro e w' ⟨rfl, n2, rfl⟩)
          | (go_at_call 17; refine (mul_any _ _ _ _ z0 z1 z0 z1).mono ?_; rintro e w' ⟨rfl, n2, rfl⟩)
          | (go_at_call 16; refine (add_any _ _ _ _ (by omega) (by omega) (by omega) (by omega)).mono ?_; rintro e w' ⟨rfl, n3, rfl⟩))
        go_ret
        exact ⟨ret_u64 he.out, _, rfl⟩

/-- What is wrong with a prime and how many there are to be. -/
def sumE (p n : Int) : Int := if Fp.kn p = true then if n < 0 ∨ 65536 < n then 1 else 0 else 2
/-- The sum, or 0. -/
def sumN (p z n : Int) : Int := if sumE p n = 0 then Fp.gsum p z n.toNat else 0
theorem sumE_ok {p n : Int} (h : Fp.kn p = true) (h0 : 0 ≤ n) (h1 : n ≤ 65536) : sumE p n = 0 := by unfold sumE; rw [if_pos h, if_neg (by omega)]
theorem sumE_no {p n : Int} (h : Fp.kn p = false) : sumE p n = 2 := by unfold sumE; rw [if_neg (by simp [h])]
theorem sumE_bad {p n : Int} (h : Fp.kn p = true) (hn : n < 0 ∨ 65536 < n) : sumE p n = 1 := by unfold sumE; rw [if_pos h, if_pos hn]
theorem sumN_ok {p z n : Int} (h : sumE p n = 0) : sumN p z n = Fp.gsum p z n.toNat := by unfold sumN; rw [if_pos h]
theorem sumN_no {p z n : Int} (h : sumE p n ≠ 0) : sumN p z n = 0 := by unfold sumN; rw [if_neg h]
theorem sumN_bd (p z n : Int) : 0 ≤ sumN p z n ∧ sumN p z n < 18446744069414584321 := by
  unfold sumN; split
  · obtain ⟨a, b, -⟩ := Fp.red_bd p (Fp.gs z n.toNat); exact ⟨a, b⟩
  · omega

set_option maxRecDepth 100000 in
set_option maxHeartbeats 1000000 in
theorem Sum_any (p z n : Int) (w : World) (z0 : 0 ≤ z) (z1 : z < 18446744073709551616) (n0 : -9223372036854775808 ≤ n) (n1 : n < 9223372036854775808) :
    Calls Try.prog 8 #[.int .u64 p, .int .u64 z, .int .i64 n] w (RetQ (.tuple #[.int .u64 (sumN p z n), .int .i64 (sumE p n)]) w) := by
  cases h : Fp.kn p
  · rw [sumN_no (by rw [sumE_no h]; decide), sumE_no h]
    have H := Lib.hid h; clear h
    go_enter Try.func8, Try.ntmps8
    go_wp2_with (go_at_call 14; refine (known_no p _ H.out).mono ?_; rintro e w' ⟨rfl, rfl⟩)
    go_ret2
    exact ⟨rfl, 0, rfl⟩
  · by_cases hb : n < 0 ∨ 65536 < n
    · rw [sumN_no (by rw [sumE_bad h hb]; decide), sumE_bad h hb]
      have H := Lib.hid h; clear h
      by_cases h0 : n < 0
      · go_enter Try.func8, Try.ntmps8
        go_wp2_with (go_at_call 14; refine (known_yes p _ H.out).mono ?_; rintro e w' ⟨rfl, rfl⟩)
        go_ret2
        exact ⟨rfl, 0, rfl⟩
      · have h1 : 65536 < n := by omega
        clear hb
        go_enter Try.func8, Try.ntmps8
        go_wp2_with (go_at_call 14; refine (known_yes p _ H.out).mono ?_; rintro e w' ⟨rfl, rfl⟩)
        go_ret2
        exact ⟨rfl, 0, rfl⟩
    · have hE := sumE_ok (n := n) h (by omega) (by omega)
      rw [sumN_ok hE, hE]
      obtain ⟨m, rfl⟩ := Int.eq_ofNat_of_zero_le (by omega : 0 ≤ n)
      have hm : m ≤ 65536 := by omega
      rw [show ((m : Int)).toNat = m from Int.toNat_natCast m]
      have H := Lib.hid h
      clear hb hE h n0 n1
      go_enter Try.func8, Try.ntmps8
      go_wp2_with (first
        | (go_at_call 14; refine (known_yes p _ H.out).mono ?_; rintro e w' ⟨rfl, rfl⟩)
        | (go_at_call 21; refine (gsum_any p H.out m z _ z0 z1 hm).mono ?_; rintro e w' ⟨rfl, n1, rfl⟩))
      go_ret2
      exact ⟨rfl, _, rfl⟩

theorem live8_num : sumN 998244353 2 4 = 15 := by decide +kernel
theorem live8_any (w : World) : Calls Try.prog 7 #[] w (RetQ (.bool true) w) := by
  have hS := Lib.hid (fun W => Sum_any 998244353 2 4 W (by omega) (by omega) (by omega) (by omega))
  rw [live8_num, sumE_ok (by decide) (by omega) (by omega)] at hS
  go_enter Try.func7, Try.ntmps7
  go_wp2_with (go_at_call 8; refine (hS.out _).mono ?_; rintro e w' ⟨rfl, n1, rfl⟩)
  go_ret
  exact ⟨rfl, _, rfl⟩

end Go.Proofs.Ytancfpekiecoiaa
