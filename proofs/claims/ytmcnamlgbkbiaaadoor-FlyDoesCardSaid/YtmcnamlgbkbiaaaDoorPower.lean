/-
  What power.Pow and power.Inv come to, over every input: the numbers of XMathPow.
-/
import Derived.Test.YtmcnamlgbkbiaaaDoorMul
import Derived.Test.YtmcnamlgbkbiaaaDoorMathPow
import Derived.WalkSmall
namespace Go.Proofs.YtmcnamlgbkbiaaaDoor
open Go.RowKit

theorem pow_no (p a n : Int) (w : World) (h : Fp.kn p = false) :
    Calls Tryd.prog 23 #[.int .u64 p, .int .u64 a, .int .u64 n] w (RetQ (.int .u64 0) w) := by
  have H := Lib.hid h; clear h
  go_enter Tryd.func23, Tryd.ntmps23
  go_wp2_with (go_at_call 24; refine (known_no p _ H.out).mono ?_; rintro e w' ⟨rfl, rfl⟩)
  go_ret
  exact ⟨rfl, 0, rfl⟩

set_option maxHeartbeats 400000 in
theorem pow_yes (p a n : Int) (w : World) (h : Fp.kn p = true) (a0 : 0 ≤ a) (a1 : a < 18446744073709551616) (n0 : 0 ≤ n) (n1 : n < 18446744073709551616) :
    Calls Tryd.prog 23 #[.int .u64 p, .int .u64 a, .int .u64 n] w (RetQ (.int .u64 (Fp.pw p a n.toNat)) w) := by
  have H := Lib.hid h; clear h
  go_enter Tryd.func23, Tryd.ntmps23
  go_wp2_with (go_at_call 24; refine (known_yes p _ H.out).mono ?_; rintro e w' ⟨rfl, rfl⟩)
  go_loopw [1, 2, 7] (fun b m x wr => ∃ (y mm z : Int) (k : Nat), b = .int .u64 y ∧ m = .int .u64 mm ∧ x = .int .u64 z ∧ 0 ≤ y ∧ y < 18446744073709551616 ∧ 0 ≤ mm ∧ mm < 18446744073709551616 ∧ 0 ≤ z ∧ z < 18446744073709551616 ∧ wr = w.drewN k ∧ Hid (Fp.red p (z * y ^ mm.toNat) = Fp.pw p a n.toNat ∧ Fp.red p z = z)) (fun _ m _ _ => (intOf m).toNat)
  case atStart => exact ⟨a, n, 1, 0, rfl, rfl, rfl, a0, a1, n0, n1, by omega, by omega, rfl, Lib.hid ⟨by rw [Int.one_mul]; rfl, Fp.red_one H.out⟩⟩
  case round =>
    obtain ⟨y, mm, z, k, rfl, rfl, rfl, y0, y1, m0, m1, z0, z1, rfl, HR⟩ := hrel
    by_cases hlt : 0 < mm
    · have hand := and_one_u64 mm m0 (by omega)
      obtain ⟨u0, u1, _⟩ := Fp.mul_bd p y y
      obtain ⟨v0, v1, _⟩ := Fp.mul_bd p z y
      by_cases hodd : mm % 2 = 1
      · have HN : Hid (Fp.red p (Fp.mul p z y * Fp.mul p y y ^ (mm / 2).toNat) = Fp.pw p a n.toNat) := Lib.hid (by
          rw [← HR.out.1, show (mm / 2).toNat = mm.toNat / 2 by omega]; exact Fp.sq_odd p z y mm.toNat (by omega))
        go_wp2_with (go_at_call 19; refine (mul_any _ _ _ _ (by omega) (by omega) (by omega) (by omega)).mono ?_; rintro e w' ⟨rfl, n, rfl⟩)
        go_roundw
        case rel => exact ⟨_, mm / 2, _, _, rfl, rfl, rfl, by omega, by omega, by omega, by omega, by omega, by omega, rfl, Lib.hid ⟨HN.out, Fp.red_mul _ _ _⟩⟩
        case measure => simp [intOf]; omega
      · have hodd' : (mm % 2 == 1) = false := by simpa using hodd
        have HN : Hid (Fp.red p (z * Fp.mul p y y ^ (mm / 2).toNat) = Fp.pw p a n.toNat) := Lib.hid (by
          rw [← HR.out.1, show (mm / 2).toNat = mm.toNat / 2 by omega]; exact Fp.sq_even p z y mm.toNat (by omega))
        go_wp2_with (go_at_call 19; refine (mul_any _ _ _ _ (by omega) (by omega) (by omega) (by omega)).mono ?_; rintro e w' ⟨rfl, n, rfl⟩)
        go_roundw
        case rel => exact ⟨_, mm / 2, _, _, rfl, rfl, rfl, by omega, by omega, by omega, by omega, by omega, by omega, rfl, Lib.hid ⟨HN.out, HR.out.2⟩⟩
        case measure => simp [intOf]; omega
    · have hz : Hid (z = Fp.pw p a n.toNat) := Lib.hid (by
        obtain ⟨e1, e2⟩ := HR.out
        rw [show mm.toNat = 0 by omega, Int.pow_zero, Int.mul_one, e2] at e1; exact e1)
      go_wp2
      go_ret
      exact ⟨ret_u64 hz.out, _, rfl⟩

theorem pow_any (p a n : Int) (w : World) (a0 : 0 ≤ a) (a1 : a < 18446744073709551616) (n0 : 0 ≤ n) (n1 : n < 18446744073709551616) :
    Calls Tryd.prog 23 #[.int .u64 p, .int .u64 a, .int .u64 n] w (RetQ (.int .u64 (Fp.pw p a n.toNat)) w) := by
  cases h : Fp.kn p
  · rw [Fp.pw_no _ _ h]; exact pow_no p a n w h
  · exact pow_yes p a n w h a0 a1 n0 n1

/-! power.Inv: by what is no prime; of what is 0; of all else. -/
theorem inv_noprime (p a : Int) (w : World) (h : Fp.kn p = false) :
    Calls Tryd.prog 43 #[.int .u64 p, .int .u64 a] w (RetQ (.tuple #[.int .u64 0, .int .i64 2]) w) := by
  have H := Lib.hid h; clear h
  go_enter Tryd.func43, Tryd.ntmps43
  go_wp2_with (go_at_call 24; refine (known_no p _ H.out).mono ?_; rintro e w' ⟨rfl, rfl⟩)
  go_ret2
  exact ⟨rfl, 0, rfl⟩

theorem inv_zero (p a : Int) (w : World) (h : Fp.kn p = true) (a0 : 0 ≤ a) (a1 : a < 18446744073709551616) (hz : Fp.red p a = 0) :
    Calls Tryd.prog 43 #[.int .u64 p, .int .u64 a] w (RetQ (.tuple #[.int .u64 0, .int .i64 9]) w) := by
  have H := Lib.hid h; clear h
  have t : (Fp.red p a == 0) = true := by rw [hz]; rfl
  clear hz
  go_enter Tryd.func43, Tryd.ntmps43
  go_wp2_with (first
    | (go_at_call 24; refine (known_yes p _ H.out).mono ?_; rintro e w' ⟨rfl, rfl⟩)
    | (go_at_call 59; refine (reduce_any _ _ _ (by omega) (by omega)).mono ?_; rintro e w' ⟨rfl, rfl⟩))
  go_ret2
  exact ⟨rfl, 0, rfl⟩

theorem tup_ret {a b : Value} {e f : Value} (h : a = b) (k : e = f) : Ending.returned (.tuple #[a, e]) = .returned (.tuple #[b, f]) := by rw [h, k]
theorem inv_num {p a : Int} (h : Fp.kn p = true) : Fp.pw p a (p - 2).toNat = Fp.inv p a := by
  unfold Fp.inv; rw [show (p - 2).toNat = p.toNat - 2 by have := Fp.kn_bd h; omega]

theorem inv_yes (p a : Int) (w : World) (h : Fp.kn p = true) (a0 : 0 ≤ a) (a1 : a < 18446744073709551616) (hz : Fp.red p a ≠ 0) :
    Calls Tryd.prog 43 #[.int .u64 p, .int .u64 a] w (RetQ (.tuple #[.int .u64 (Fp.inv p a), .int .i64 0]) w) := by
  obtain ⟨p1, p2⟩ := Fp.kn_bd h
  have hn := Lib.hid (inv_num (a := a) h)
  have H := Lib.hid h; clear h
  have t : (Fp.red p a == 0) = false := beq_eq_false_iff_ne.2 hz
  clear hz
  go_enter Tryd.func43, Tryd.ntmps43
  go_wp2_with (first
    | (go_at_call 24; refine (known_yes p _ H.out).mono ?_; rintro e w' ⟨rfl, rfl⟩)
    | (go_at_call 59; refine (reduce_any _ _ _ (by omega) (by omega)).mono ?_; rintro e w' ⟨rfl, rfl⟩)
    | (go_at_call 23; refine (pow_any _ _ _ _ (by omega) (by omega) (by omega) (by omega)).mono ?_; rintro e w' ⟨rfl, n, rfl⟩))
  go_ret2
  exact ⟨tup_ret (congrArg (Value.int .u64) hn.out) rfl, _, rfl⟩

end Go.Proofs.YtmcnamlgbkbiaaaDoor
