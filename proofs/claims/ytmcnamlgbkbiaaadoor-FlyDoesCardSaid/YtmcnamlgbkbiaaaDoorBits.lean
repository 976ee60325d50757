/-
  What math/bits.Mul64 and Rem64 come to, where field.Mul calls them: the product of two words in two words; what is left over of two words by one of the three primes.
-/
import Derived.Test.YtmcnamlgbkbiaaaDoorField
import Derived.Lib.Mul64
import Derived.KernelRfl
import Derived.Laws.Bits64b
namespace Go.Proofs.YtmcnamlgbkbiaaaDoor
open Go.RowKit

namespace Wd
theorem maskN (a : Nat) (ha : a < 18446744073709551616) : bits .and .u64 (a : Int) 4294967295 = ((a % 4294967296 : Nat) : Int) := by
  have h := bits_and_u64_nat a 4294967295 ha (by omega)
  rw [show a &&& 4294967295 = a % 4294967296 from Nat.and_two_pow_sub_one_eq_mod a 32] at h
  exact h
theorem divN (a : Nat) : (a : Int) / 4294967296 = ((a / 4294967296 : Nat) : Int) := by omega
theorem mulN (a b : Nat) : (a : Int) * (b : Int) = ((a * b : Nat) : Int) := (Int.natCast_mul a b).symm
theorem addN (a b : Nat) : (a : Int) + (b : Int) = ((a + b : Nat) : Int) := (Int.natCast_add a b).symm
theorem wrapN (a : Nat) (ha : a < 18446744073709551616) : IntKind.u64.wrap (a : Int) = (a : Int) := by rw [IntKind.wrap_u64]; omega
theorem wrapM (a : Nat) : IntKind.u64.wrap (a : Int) = ((a % 18446744073709551616 : Nat) : Int) := by rw [IntKind.wrap_u64]; omega
end Wd

theorem ret_i64 {a b : Int} (h : a = b) : Ending.returned (.int .i64 a) = .returned (.int .i64 b) := by rw [h]
theorem tup_u64 {a b c d : Int} (h : a = c) (h' : b = d) : Ending.returned (.tuple #[.int .u64 a, .int .u64 b]) = .returned (.tuple #[.int .u64 c, .int .u64 d]) := by rw [h, h']

set_option maxHeartbeats 1000000 in
theorem mul64_nat (x y : Nat) (hx : x < 18446744073709551616) (hy : y < 18446744073709551616) (w : World) :
    Calls Tryd.prog 35 #[.int .u64 x, .int .u64 y] w fun e w' => e = .returned (.tuple #[.int .u64 ((x * y / 18446744073709551616 : Nat) : Int), .int .u64 ((x * y % 18446744073709551616 : Nat) : Int)]) ∧ w = w' := by
  obtain ⟨bd, bt, bw, hhi⟩ := Lib.mul64_hi x y hx hy
  have ba := Lib.half_mul_le (a := x / 4294967296) (b := y / 4294967296) (by omega) (by omega)
  have bb := Lib.half_mul_le (a := x / 4294967296) (b := y % 4294967296) (by omega) (by omega)
  have bc := Lib.half_mul_le (a := x % 4294967296) (b := y / 4294967296) (by omega) (by omega)
  have ba' : x / 4294967296 * (y / 4294967296) < 18446744073709551616 := by omega
  have bb' : x / 4294967296 * (y % 4294967296) < 18446744073709551616 := by omega
  have bc' : x % 4294967296 * (y / 4294967296) < 18446744073709551616 := by omega
  have bh1 : x / 4294967296 * (y / 4294967296) + (x / 4294967296 * (y % 4294967296) + x % 4294967296 * (y % 4294967296) / 4294967296) / 4294967296 < 18446744073709551616 := by omega
  have bh : x / 4294967296 * (y / 4294967296) + (x / 4294967296 * (y % 4294967296) + x % 4294967296 * (y % 4294967296) / 4294967296) / 4294967296 + ((x / 4294967296 * (y % 4294967296) + x % 4294967296 * (y % 4294967296) / 4294967296) % 4294967296 + x % 4294967296 * (y / 4294967296)) / 4294967296 < 18446744073709551616 := by omega
  have HH := Lib.hid hhi; clear hhi
  have HB := Lib.hid (And.intro bd (And.intro bb' (And.intro bt (And.intro bc' (And.intro bw (And.intro ba' (And.intro bh1 bh)))))))
  clear bd bb' bt bc' bw ba' bh1 bh ba bb bc
  go_enter Tryd.func35, Tryd.ntmps35
  go_wp2
  go_ret2
  obtain ⟨bd, bb', bt, bc', bw, ba', bh1, bh⟩ := HB.out
  refine ⟨tup_u64 ?_ ?_, rfl⟩
  · simp only [Wd.maskN x hx, Wd.maskN y hy, Wd.divN, Wd.mulN, Wd.addN, Wd.wrapN _ bd, Wd.wrapN _ bb', Wd.wrapN _ bt, Wd.maskN _ bt, Wd.wrapN _ bc', Wd.wrapN _ bw, Wd.wrapN _ ba', Wd.wrapN _ bh1, Wd.wrapN _ bh]
    rw [HH.out]
  · rw [Wd.mulN, Wd.wrapM]

set_option maxRecDepth 100000 in
theorem len_P0 (w : World) : Calls Tryd.prog 66 #[.int .u64 18446744069414584321] w fun e w' => e = .returned (.int .i64 64) ∧ w = w' := by
  go_enter Tryd.func66, Tryd.ntmps66
  go_wp2
  go_ret
  exact ⟨ret_i64 (by kernel_rfl), rfl⟩
theorem lead_P0 (w : World) : Calls Tryd.prog 63 #[.int .u64 18446744069414584321] w fun e w' => e = .returned (.int .i64 0) ∧ w = w' := by
  go_enter Tryd.func63, Tryd.ntmps63
  go_wp2_with (go_at_call 66; refine (len_P0 _).mono ?_; rintro e w' ⟨rfl, rfl⟩)
  go_ret
  exact ⟨rfl, rfl⟩

theorem div_low (lo y : Int) (w : World) (l0 : 0 ≤ lo) (l1 : lo < 18446744073709551616) (y0 : 1 ≤ y) (y1 : y < 18446744073709551616) :
    Calls Tryd.prog 53 #[.int .u64 0, .int .u64 lo, .int .u64 y] w (RetQ (.tuple #[.int .u64 (lo / y), .int .u64 (lo % y)]) w) := by
  have q0 : 0 ≤ lo / y := Int.ediv_nonneg l0 (by omega)
  have q1 : lo / y ≤ lo := Int.ediv_le_self _ l0
  have r0 := Fp.md_lo lo (p := y) (by omega)
  have r1 := Fp.md_hi lo (p := y) (by omega)
  go_enter Tryd.func53, Tryd.ntmps53
  go_wp2
  go_quiet (fail)
  go_wp2
  go_ret2
  exact ⟨rfl, _, rfl⟩

namespace Wd
theorem or_zero (hi lo : Int) (h0 : 0 ≤ hi) (h1 : hi < 18446744073709551616) (l0 : 0 ≤ lo) (l1 : lo < 18446744073709551616) : bits .or .u64 hi (lo / 18446744073709551616) = hi := by
  obtain ⟨n, rfl⟩ := Int.eq_ofNat_of_zero_le h0
  rw [show lo / 18446744073709551616 = ((0 : Nat) : Int) by omega]
  rw [bits_or_u64_nat n 0 (by omega) (by omega)]
  simp
theorem mask_int (lo : Int) (l0 : 0 ≤ lo) (l1 : lo < 18446744073709551616) : bits .and .u64 lo 4294967295 = lo % 4294967296 := by
  obtain ⟨n, rfl⟩ := Int.eq_ofNat_of_zero_le l0
  rw [maskN n (by omega)]; omega
theorem mask_P0 : bits .and .u64 18446744069414584321 4294967295 = 1 := by
  have := mask_int 18446744069414584321 (by omega) (by omega)
  rw [this]; omega
theorem quo1 (hi : Int) (h0 : 0 ≤ hi) (h1 : hi < 18446744073709551616) : IntKind.u64.wrap (hi.tdiv 4294967295) = hi / 4294967295 := by
  rw [IntKind.wrap_u64, Int.tdiv_eq_ediv_of_nonneg h0]; omega
theorem rem1 (hi : Int) (_h0 : 0 ≤ hi) (_h1 : hi < 18446744073709551616) : IntKind.u64.wrap (hi - IntKind.u64.wrap (hi / 4294967295 * 4294967295)) = hi % 4294967295 := by
  rw [IntKind.wrap_u64, IntKind.wrap_u64]; omega
end Wd

/-- It returns some quotient and the rest r, and has done nothing else. -/
def RemQ (r : Int) (w : World) (e : Ending) (w' : World) : Prop := ∃ q : Int, e = .returned (.tuple #[.int .u64 q, .int .u64 r]) ∧ w = w'

set_option maxHeartbeats 400000 in
theorem div_P0 (hi lo : Int) (w : World) (h0 : 1 ≤ hi) (h1 : hi < 18446744069414584321) (l0 : 0 ≤ lo) (l1 : lo < 18446744073709551616) :
    Calls Tryd.prog 53 #[.int .u64 hi, .int .u64 lo, .int .u64 18446744069414584321] w (RemQ ((hi * 18446744073709551616 + lo) % 18446744069414584321) w) := by
  go_enter Tryd.func53, Tryd.ntmps53
  go_wp2_with (go_at_call 63; refine (lead_P0 _).mono ?_; rintro e w' ⟨rfl, rfl⟩)
  simp only [Wd.or_zero hi lo (by omega) (by omega) l0 l1, Wd.mask_P0, Wd.mask_int lo l0 l1, Wd.quo1 hi (by omega) (by omega), Wd.rem1 hi (by omega) (by omega), show decide ((18446744069414584321 : Int) ≤ hi) = false by simp; omega]
  go_loop [15, 16] (fun a b => ∃ q r : Int, 0 ≤ q ∧ q ≤ 4294967296 ∧ 0 ≤ r ∧ r < 4294967296 ∧ q * 4294967295 + r ≤ hi ∧ hi ≤ q * 4294967295 + r ∧ hi * 4294967296 + lo / 4294967296 < (q + 1) * 18446744069414584321 ∧ a = .int .u64 q ∧ b = .int .u64 r) (fun a _ => (intOf a).toNat)
  case atStart => exact ⟨hi / 4294967295, hi % 4294967295, by omega, by omega, by omega, by omega, by omega, by omega, by omega, rfl, rfl⟩
  case round =>
    obtain ⟨q, r, q0, q1, r0, r1, e0, e1, hq, rfl, rfl⟩ := hrel
    by_cases c1 : 4294967296 ≤ q
    · go_wp2
      go_round
      case rel => exact ⟨q - 1, r + 4294967295, by omega, by omega, by omega, by omega, by omega, by omega, by omega, rfl, rfl⟩
      case measure => simp [intOf]; omega
    · by_cases c2 : 4294967296 * r + lo / 4294967296 < q
      · go_wp2
        go_round
        case rel => exact ⟨q - 1, r + 4294967295, by omega, by omega, by omega, by omega, by omega, by omega, by omega, rfl, rfl⟩
        case measure => simp [intOf]; omega
      · go_wp2
        obtain ⟨v, hv⟩ : ∃ v, IntKind.u64.wrap (IntKind.u64.wrap (IntKind.u64.wrap (hi * 4294967296) + lo / 4294967296) - IntKind.u64.wrap (q * 18446744069414584321)) = v := ⟨_, rfl⟩
        have v1 : v ≤ hi * 4294967296 + lo / 4294967296 - q * 18446744069414584321 := by rw [← hv]; simp only [IntKind.wrap_u64]; omega
        have v2 : hi * 4294967296 + lo / 4294967296 - q * 18446744069414584321 ≤ v := by rw [← hv]; simp only [IntKind.wrap_u64]; omega
        have v3 : 0 ≤ v := by omega
        have v4 : v < 18446744069414584321 := by omega
        simp only [hv, Wd.quo1 v (by omega) (by omega), Wd.rem1 v (by omega) (by omega)]
        clear hv
        go_loop [18, 16] (fun a b => ∃ q' r' : Int, 0 ≤ q' ∧ q' ≤ 4294967296 ∧ 0 ≤ r' ∧ r' < 4294967296 ∧ q' * 4294967295 + r' ≤ v ∧ v ≤ q' * 4294967295 + r' ∧ v * 4294967296 + lo % 4294967296 < (q' + 1) * 18446744069414584321 ∧ a = .int .u64 q' ∧ b = .int .u64 r') (fun a _ => (intOf a).toNat)
        case atStart => exact ⟨v / 4294967295, v % 4294967295, by omega, by omega, by omega, by omega, by omega, by omega, by omega, rfl, rfl⟩
        case round =>
          obtain ⟨q', r', q0', q1', r0', r1', e0', e1', hq', rfl, rfl⟩ := hrel
          by_cases c1' : 4294967296 ≤ q'
          · go_wp2
            go_round
            case rel => exact ⟨q' - 1, r' + 4294967295, by omega, by omega, by omega, by omega, by omega, by omega, by omega, rfl, rfl⟩
            case measure => simp [intOf]; omega
          · by_cases c2' : 4294967296 * r' + lo % 4294967296 < q'
            · go_wp2
              go_round
              case rel => exact ⟨q' - 1, r' + 4294967295, by omega, by omega, by omega, by omega, by omega, by omega, by omega, rfl, rfl⟩
              case measure => simp [intOf]; omega
            · go_wp2
              go_ret2
              refine ⟨_, tup_u64 rfl ?_, rfl⟩
              simp only [IntKind.wrap_u64]
              omega

/-- Rem64 of two words whose high one is 0. -/
theorem rem_low (lo y : Int) (w : World) (l0 : 0 ≤ lo) (l1 : lo < 18446744073709551616) (y0 : 1 ≤ y) (y1 : y < 18446744073709551616) :
    Calls Tryd.prog 36 #[.int .u64 0, .int .u64 lo, .int .u64 y] w (RetQ (.int .u64 (lo % y)) w) := by
  go_enter Tryd.func36, Tryd.ntmps36
  go_wp2_with (go_at_call 53; refine (div_low lo y _ l0 l1 y0 y1).mono ?_; rintro e w' ⟨rfl, n, rfl⟩)
  go_ret
  exact ⟨rfl, n, rfl⟩

/-- Rem64 by P0. -/
theorem rem_P0 (hi lo : Int) (w : World) (h0 : 0 ≤ hi) (h1 : hi < 18446744069414584321) (l0 : 0 ≤ lo) (l1 : lo < 18446744073709551616) :
    Calls Tryd.prog 36 #[.int .u64 hi, .int .u64 lo, .int .u64 18446744069414584321] w (RetQ (.int .u64 ((hi * 18446744073709551616 + lo) % 18446744069414584321)) w) := by
  by_cases hz : hi = 0
  · subst hz
    have := rem_low lo 18446744069414584321 w l0 l1 (by omega) (by omega)
    rw [show ((0 : Int) * 18446744073709551616 + lo) = lo by omega]
    exact this
  · have h2 : 1 ≤ hi := by omega
    have e1 := Lib.hid (Int.emod_eq_of_lt h0 h1)
    clear hz
    go_enter Tryd.func36, Tryd.ntmps36
    go_wp2_with fail
    rw [e1.out]
    refine (div_P0 hi lo _ h2 h1 l0 l1).mono ?_
    rintro e w' ⟨q, rfl, rfl⟩
    go_wp2
    go_ret
    exact ⟨rfl, 0, rfl⟩

end Go.Proofs.YtmcnamlgbkbiaaaDoor
