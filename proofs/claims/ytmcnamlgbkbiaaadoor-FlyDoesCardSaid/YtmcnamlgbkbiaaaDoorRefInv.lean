/-
  What the document's own answers of layer 2 come to that tell numbers (brackenref02's Pow and Inv), and power.Inv and it in one form each.
-/
import Derived.Test.YtmcnamlgbkbiaaaDoorRef
import Derived.Test.YtmcnamlgbkbiaaaDoorPower
namespace Go.Proofs.YtmcnamlgbkbiaaaDoor
open Go.RowKit

theorem rpow_le (k : Nat) : ∀ (p a n : Int) (w : World), 0 ≤ a → a < 18446744073709551616 → 0 ≤ n → n < 18446744073709551616 → n < ((2 ^ k : Nat) : Int) →
    Calls Tryd.prog 30 #[.int .u64 p, .int .u64 a, .int .u64 n] w fun e w' => e = .returned (.int .u64 (Fp.pw p a n.toNat)) ∧ w = w' := by
  induction k with
  | zero =>
    intro p a n w a0 a1 n0 n1 hk
    obtain rfl : n = 0 := by simp at hk; omega
    have HE : Hid (Fp.red p 1 = Fp.pw p a 0) := Lib.hid (Fp.pw_zero p a).symm
    go_enter Tryd.func30, Tryd.ntmps30
    go_wp2_with (go_at_call 47; refine (rreduce_any _ _ _ (by omega) (by omega)).mono ?_; rintro e w' ⟨rfl, rfl⟩)
    go_ret
    exact ⟨ret_u64 HE.out, rfl⟩
  | succ k ih =>
    intro p a n w a0 a1 n0 n1 hk
    have IH := Lib.hid ih; clear ih
    by_cases hz : n = 0
    · subst hz
      have HE : Hid (Fp.red p 1 = Fp.pw p a 0) := Lib.hid (Fp.pw_zero p a).symm
      go_enter Tryd.func30, Tryd.ntmps30
      go_wp2_with (go_at_call 47; refine (rreduce_any _ _ _ (by omega) (by omega)).mono ?_; rintro e w' ⟨rfl, rfl⟩)
      go_ret
      exact ⟨ret_u64 HE.out, rfl⟩
    · have hz' : (n == 0) = false := beq_eq_false_iff_ne.2 hz
      have hk2 : n / 2 < ((2 ^ k : Nat) : Int) := by rw [Nat.pow_succ] at hk; omega
      have HK := Lib.hid hk2; clear hk hk2
      obtain ⟨x0, x1, _⟩ := Fp.pw_bd p a (n / 2).toNat
      obtain ⟨y0, y1, _⟩ := Fp.mul_bd p (Fp.pw p a (n / 2).toNat) (Fp.pw p a (n / 2).toNat)
      have e1 : Fp.mul p (Fp.pw p a (n / 2).toNat) (Fp.pw p a (n / 2).toNat) = Fp.pw p a ((n / 2).toNat + (n / 2).toNat) := (Fp.pw_add _ _ _ _).symm
      by_cases hodd : n % 2 = 1
      · have HE : Hid (Fp.mul p (Fp.mul p (Fp.pw p a (n / 2).toNat) (Fp.pw p a (n / 2).toNat)) a = Fp.pw p a n.toNat) := Lib.hid (by
          rw [e1, ← Fp.pw_succ]; congr 1; omega)
        have ho : (n % 2 == 1) = true := by rw [hodd]; rfl
        clear e1 hodd hz
        obtain ⟨h2, hh2⟩ : ∃ h2, h2 = Fp.pw p a (n / 2).toNat := ⟨_, rfl⟩
        rw [← hh2] at x0 x1 y0 y1 HE
        have HH := Lib.hid hh2; clear hh2
        go_enter Tryd.func30, Tryd.ntmps30
        go_wp2_with fail
        refine (IH.out p a (n / 2) _ a0 a1 (by omega) (by omega) HK.out).mono ?_
        rintro e w' ⟨rfl, rfl⟩
        rw [← HH.out]
        go_wp2_with (go_at_call 34; refine (rmul_any _ _ _ _ (by omega) (by omega) (by omega) (by omega)).mono ?_; rintro e w' ⟨rfl, rfl⟩)
        go_ret
        exact ⟨ret_u64 HE.out, rfl⟩
      · have HE : Hid (Fp.mul p (Fp.pw p a (n / 2).toNat) (Fp.pw p a (n / 2).toNat) = Fp.pw p a n.toNat) := Lib.hid (by
          rw [e1]; congr 1; omega)
        have ho : (n % 2 == 1) = false := beq_eq_false_iff_ne.2 hodd
        clear e1 hodd hz
        obtain ⟨h2, hh2⟩ : ∃ h2, h2 = Fp.pw p a (n / 2).toNat := ⟨_, rfl⟩
        rw [← hh2] at x0 x1 y0 y1 HE
        have HH := Lib.hid hh2; clear hh2
        go_enter Tryd.func30, Tryd.ntmps30
        go_wp2_with fail
        refine (IH.out p a (n / 2) _ a0 a1 (by omega) (by omega) HK.out).mono ?_
        rintro e w' ⟨rfl, rfl⟩
        rw [← HH.out]
        go_wp2_with (go_at_call 34; refine (rmul_any _ _ _ _ (by omega) (by omega) (by omega) (by omega)).mono ?_; rintro e w' ⟨rfl, rfl⟩)
        go_ret
        exact ⟨ret_u64 HE.out, rfl⟩

theorem rpow_any (p a n : Int) (w : World) (a0 : 0 ≤ a) (a1 : a < 18446744073709551616) (n0 : 0 ≤ n) (n1 : n < 18446744073709551616) :
    Calls Tryd.prog 30 #[.int .u64 p, .int .u64 a, .int .u64 n] w fun e w' => e = .returned (.int .u64 (Fp.pw p a n.toNat)) ∧ w = w' :=
  rpow_le 64 p a n w a0 a1 n0 n1 (by simpa using n1)

theorem rinv_noprime (p a : Int) (w : World) (h : Fp.kn p = false) :
    Calls Tryd.prog 29 #[.int .u64 p, .int .u64 a] w fun e w' => e = .returned (.tuple #[.int .u64 0, .int .i64 2]) ∧ w = w' := by
  have H := Lib.hid h; clear h
  go_enter Tryd.func29, Tryd.ntmps29
  go_wp2_with (go_at_call 27; refine (rknown_no p _ H.out).mono ?_; rintro e w' ⟨rfl, rfl⟩)
  go_ret2
  exact ⟨rfl, rfl⟩

theorem rinv_zero (p a : Int) (w : World) (h : Fp.kn p = true) (a0 : 0 ≤ a) (a1 : a < 18446744073709551616) (hz : Fp.red p a = 0) :
    Calls Tryd.prog 29 #[.int .u64 p, .int .u64 a] w fun e w' => e = .returned (.tuple #[.int .u64 0, .int .i64 9]) ∧ w = w' := by
  have H := Lib.hid h; clear h
  have t : (Fp.red p a == 0) = true := by rw [hz]; rfl
  clear hz
  go_enter Tryd.func29, Tryd.ntmps29
  go_wp2_with (first
    | (go_at_call 27; refine (rknown_yes p _ H.out).mono ?_; rintro e w' ⟨rfl, rfl⟩)
    | (go_at_call 47; refine (rreduce_any _ _ _ (by omega) (by omega)).mono ?_; rintro e w' ⟨rfl, rfl⟩))
  go_ret2
  exact ⟨rfl, rfl⟩

theorem rinv_yes (p a : Int) (w : World) (h : Fp.kn p = true) (a0 : 0 ≤ a) (a1 : a < 18446744073709551616) (hz : Fp.red p a ≠ 0) :
    Calls Tryd.prog 29 #[.int .u64 p, .int .u64 a] w fun e w' => e = .returned (.tuple #[.int .u64 (Fp.inv p a), .int .i64 0]) ∧ w = w' := by
  obtain ⟨p1, p2⟩ := Fp.kn_bd h
  have hn := Lib.hid (inv_num (a := a) h)
  have H := Lib.hid h; clear h
  have t : (Fp.red p a == 0) = false := beq_eq_false_iff_ne.2 hz
  clear hz
  go_enter Tryd.func29, Tryd.ntmps29
  go_wp2_with (first
    | (go_at_call 27; refine (rknown_yes p _ H.out).mono ?_; rintro e w' ⟨rfl, rfl⟩)
    | (go_at_call 47; refine (rreduce_any _ _ _ (by omega) (by omega)).mono ?_; rintro e w' ⟨rfl, rfl⟩)
    | (go_at_call 30; refine (rpow_any _ _ _ _ (by omega) (by omega) (by omega) (by omega)).mono ?_; rintro e w' ⟨rfl, rfl⟩))
  go_ret2
  exact ⟨tup_ret (congrArg (Value.int .u64) hn.out) rfl, rfl⟩

/-! What Inv tells, in one form. -/
def invN (p a : Int) : Int := if Fp.kn p = false then 0 else if Fp.red p a = 0 then 0 else Fp.inv p a
def invE (p a : Int) : Int := if Fp.kn p = false then 2 else if Fp.red p a = 0 then 9 else 0

theorem inv_any (p a : Int) (w : World) (a0 : 0 ≤ a) (a1 : a < 18446744073709551616) :
    Calls Tryd.prog 43 #[.int .u64 p, .int .u64 a] w (RetQ (.tuple #[.int .u64 (invN p a), .int .i64 (invE p a)]) w) := by
  unfold invN invE
  cases h : Fp.kn p
  · simp only [if_true]; exact inv_noprime p a w h
  · by_cases hz : Fp.red p a = 0
    · simp only [Bool.true_eq_false, if_false, if_pos hz]; exact inv_zero p a w h a0 a1 hz
    · simp only [Bool.true_eq_false, if_false, if_neg hz]; exact inv_yes p a w h a0 a1 hz

theorem rinv_any (p a : Int) (w : World) (a0 : 0 ≤ a) (a1 : a < 18446744073709551616) :
    Calls Tryd.prog 29 #[.int .u64 p, .int .u64 a] w (RetQ (.tuple #[.int .u64 (invN p a), .int .i64 (invE p a)]) w) := by
  unfold invN invE
  cases h : Fp.kn p
  · simp only [if_true]; exact (rinv_noprime p a w h).mono fun e w' ⟨he, hw⟩ => ⟨he, 0, hw.symm⟩
  · by_cases hz : Fp.red p a = 0
    · simp only [Bool.true_eq_false, if_false, if_pos hz]; exact (rinv_zero p a w h a0 a1 hz).mono fun e w' ⟨he, hw⟩ => ⟨he, 0, hw.symm⟩
    · simp only [Bool.true_eq_false, if_false, if_neg hz]; exact (rinv_yes p a w h a0 a1 hz).mono fun e w' ⟨he, hw⟩ => ⟨he, 0, hw.symm⟩

end Go.Proofs.YtmcnamlgbkbiaaaDoor
