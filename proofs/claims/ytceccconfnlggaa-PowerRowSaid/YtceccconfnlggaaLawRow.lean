/-
  The walk of the law PowerRow: it returns true for every two words and every byte.
-/
import Derived.Test.YtceccconfnlggaaPowers
import Derived.Test.YtceccconfnlggaaLawPow
namespace Go.Proofs.Ytceccconfnlggaa
open Go.RowKit

theorem byte_of {a : Int} (h : (Lit.int .u8 a).wf = true) : 0 ≤ a ∧ a < 256 := by
  have := bounds_u8 h
  omega
theorem pws_get (p a : Int) {n j : Nat} (hj : j < n) : (pws p a n).getD j 0 = Fp.pw p a j := by simp [pws, hj]

set_option maxHeartbeats 1000000 in
theorem walk_PowerRow (p a many : Int) (_hp : (Lit.int .u64 p).wf = true) (ha : (Lit.int .u64 a).wf = true) (hm : (Lit.int .u8 many).wf = true) (w : World) :
    Calls Try.prog 7 #[.int .u64 p, .int .u64 a, .int .u8 many] w fun e w' => e = .returned (.bool true) ∧ Below w.heap.size w w' := by
  obtain ⟨a0, a1⟩ := word_of ha
  obtain ⟨m0, m1⟩ := byte_of hm
  clear ha hm
  cases h : Fp.kn p
  · have D := Lib.hid (fun n => draws_below w.heap.size w n)
    have H := Lib.hid h; clear h
    go_enter Try.func7, Try.ntmps7
    go_wp2_with (first
      | (go_at_call 8; refine (plive_any _).mono ?_; rintro e w' ⟨rfl, nd, rfl⟩)
      | (go_at_call 19; refine (known_no _ _ H.out).mono ?_; rintro e w' ⟨rfl, rfl⟩)
      | (go_at_call 13; refine (powers_noprime _ _ _ _ H.out).mono ?_; rintro e w' ⟨rfl, n, rfl⟩))
    go_ret
    exact ⟨rfl, D.out _⟩
  · obtain ⟨n, rfl⟩ := Int.eq_ofNat_of_zero_le m0
    have hn : n < 256 := by omega
    have H := Lib.hid h; clear h
    go_enter Try.func7, Try.ntmps7
    go_wp2_with (go_at_call 8; refine (plive_any _).mono ?_; rintro e w' ⟨rfl, nd, rfl⟩)
    refine (powers_yes p a n _ H.out a0 a1 (by omega)).mono ?_
    rintro e w1 ⟨v, rfl, hO, hB⟩
    obtain ⟨x, cap, rfl, hcap, hmax, hR, -⟩ := hO.form
    rw [pws_len] at hcap ⊢
    have HR := Lib.hid hR; clear hR hO
    have hD : Below w.heap.size w w1 := below_of_draws hB
    clear hB
    go_wp2_with fail
    go_loopw [33] (fun i wr => ∃ k m : Nat, k ≤ n ∧ i = .int .i64 k ∧ wr = w1.drewN m) (fun i _ => n - (intOf i).toNat)
    case atStart => exact ⟨0, 0, Nat.zero_le _, rfl, rfl⟩
    case round =>
      obtain ⟨k, m, hk, rfl, rfl⟩ := hrel
      by_cases hlt : k < n
      · obtain ⟨b, off, rfl, hb, hc⟩ := HR.out (by rw [pws_len]; omega)
        have c1 := hc k (by rw [pws_len]; omega)
        rw [pws_get _ _ hlt] at c1
        have c2 := hc (k - 1) (by rw [pws_len]; omega)
        rw [pws_get _ _ (by omega)] at c2
        obtain ⟨x0, x1, _⟩ := Fp.pw_bd p a (k - 1)
        have t0 : k = 0 → (Fp.pw p a k != 1) = false := fun e => by rw [e, Fp.pw_zero, Fp.red_one H.out]; rfl
        have t1 : 0 < k → (Fp.pw p a k != Fp.mul p (Fp.pw p a (k - 1)) a) = false := fun e => by rw [← Fp.pw_succ, Nat.sub_add_cancel e]; simp
        clear hc HR
        by_cases hz : k = 0
        · have t2 := t0 hz
          have hz' : ((k : Int) == 0) = true := by rw [hz]; rfl
          have hz2 : ¬ 0 < k := by omega
          clear t0 t1 hz
          go_wp2_with (go_at_call 15; refine (pow_any _ _ _ _ (by omega) (by omega) (by omega) (by omega)).mono ?_; rintro e w' ⟨rfl, nd, rfl⟩)
          go_roundw
          case rel => exact ⟨k + 1, _, by omega, by go_num, rfl⟩
          case measure => simp [intOf]; omega
        · have t2 := t1 (by omega)
          have hz' : ((k : Int) == 0) = false := by rw [beq_eq_false_iff_ne]; omega
          have hz2 : 0 < k := by omega
          clear t0 t1 hz
          go_wp2_with (first
            | (go_at_call 15; refine (pow_any _ _ _ _ (by omega) (by omega) (by omega) (by omega)).mono ?_; rintro e w' ⟨rfl, nd, rfl⟩)
            | (go_at_call 18; refine (mul_any _ _ _ _ (by omega) (by omega) (by omega) (by omega)).mono ?_; rintro e w' ⟨rfl, nd, rfl⟩))
          go_roundw
          case rel => exact ⟨k + 1, _, by omega, by go_num, rfl⟩
          case measure => simp [intOf]; omega
      · clear HR
        go_wp2
        go_ret
        exact ⟨rfl, below_draws hD _⟩

end Go.Proofs.Ytceccconfnlggaa
