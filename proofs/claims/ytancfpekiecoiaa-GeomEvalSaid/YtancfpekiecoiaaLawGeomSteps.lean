/-
  The walk of the law GeomSteps: it returns true for every two words and every two bytes; nothing that was there is written.
-/
import Derived.Test.YtancfpekiecoiaaGeomSum
import Derived.Test.YtancfpekiecoiaaRows2
namespace Go.Proofs.Ytancfpekiecoiaa
open Go.RowKit

theorem Sum_no (p z n : Int) (w : World) (h : Fp.kn p = false) (z0 : 0 ≤ z) (z1 : z < 18446744073709551616) (n0 : -9223372036854775808 ≤ n) (n1 : n < 9223372036854775808) :
    Calls Try.prog 8 #[.int .u64 p, .int .u64 z, .int .i64 n] w (RetQ (.tuple #[.int .u64 0, .int .i64 2]) w) := by
  have := Sum_any p z n w z0 z1 n0 n1
  rwa [sumN_no (by rw [sumE_no h]; decide), sumE_no h] at this

theorem Sum_yes (p z n : Int) (k : Nat) (w : World) (h : Fp.kn p = true) (z0 : 0 ≤ z) (z1 : z < 18446744073709551616) (hn : n = (k : Int)) (hk : k ≤ 65536) :
    Calls Try.prog 8 #[.int .u64 p, .int .u64 z, .int .i64 n] w (RetQ (.tuple #[.int .u64 (Fp.gsum p z k), .int .i64 0]) w) := by
  subst hn
  have := Sum_any p z (k : Int) w z0 z1 (by omega) (by omega)
  have hE := sumE_ok (n := (k : Int)) h (by omega) (by omega)
  rwa [sumN_ok hE, hE, Int.toNat_natCast] at this

set_option maxRecDepth 100000 in
set_option maxHeartbeats 2000000 in
theorem walk_GeomSteps (p z n m : Int) (_hp : (Lit.int .u64 p).wf = true) (hz : (Lit.int .u64 z).wf = true) (hn : (Lit.int .u8 n).wf = true) (hm : (Lit.int .u8 m).wf = true) (w : World) :
    Calls Try.prog 4 #[.int .u64 p, .int .u64 z, .int .u8 n, .int .u8 m] w fun e w' => e = .returned (.bool true) ∧ Below w.heap.size w w' := by
  have zb := bounds_u64 hz
  have z0 : 0 ≤ z := by omega
  have z1 : z < 18446744073709551616 := by omega
  obtain ⟨n0, n1⟩ := u8_of hn
  obtain ⟨m0, m1⟩ := u8_of hm
  obtain ⟨a, rfl⟩ := Int.eq_ofNat_of_zero_le n0
  obtain ⟨b, rfl⟩ := Int.eq_ofNat_of_zero_le m0
  have D := Lib.hid (fun n => draws_below w.heap.size w n)
  clear hz hn hm zb n0 m0
  cases h : Fp.kn p
  · have S := Lib.hid (fun W n n0 n1 => Sum_no p z n W h z0 z1 n0 n1)
    have H := Lib.hid h; clear h
    go_enter Try.func4, Try.ntmps4
    go_wp2_with (first
      | (go_at_call 7; refine (live8_any _).mono ?_; rintro e w' ⟨rfl, nd, rfl⟩)
      | (go_at_call 8; refine (S.out _ _ (by omega) (by omega)).mono ?_; rintro e w' ⟨rfl, nd, rfl⟩)
      | (go_at_call 14; refine (known_no p _ H.out).mono ?_; rintro e w' ⟨rfl, rfl⟩))
    go_ret
    exact ⟨rfl, D.out _⟩
  · have S := Lib.hid (fun W n k (hn : n = ((k : Nat) : Int)) hk => Sum_yes p z n k W h z0 z1 hn hk)
    have f0 := Fp.gsum_next h z a
    have f1 := Fp.gsum_tele h z a
    have f2 := Fp.gsum_add h z a b
    obtain ⟨A0, A1, -⟩ := Fp.gsum_bd p z a
    obtain ⟨C0, C1, -⟩ := Fp.gsum_bd p z b
    obtain ⟨X0, X1, -⟩ := Fp.pw_bd p z a
    obtain ⟨A, hA⟩ : ∃ A, A = Fp.gsum p z a := ⟨_, rfl⟩
    obtain ⟨B, hB⟩ : ∃ B, B = Fp.gsum p z (a + 1) := ⟨_, rfl⟩
    obtain ⟨C, hC⟩ : ∃ C, C = Fp.gsum p z b := ⟨_, rfl⟩
    obtain ⟨E, hE⟩ : ∃ E, E = Fp.gsum p z (a + b) := ⟨_, rfl⟩
    obtain ⟨X, hX⟩ : ∃ X, X = Fp.pw p z a := ⟨_, rfl⟩
    have S1 := Lib.hid (fun W => S.out W (a : Int) a rfl (by omega))
    have S2 := Lib.hid (fun W => S.out W ((a : Int) + 1) (a + 1) (by omega) (by omega))
    have S3 := Lib.hid (fun W => S.out W (b : Int) b rfl (by omega))
    have S4 := Lib.hid (fun W => S.out W ((a : Int) + (b : Int)) (a + b) (by omega) (by omega))
    have P1 := Lib.hid (fun W => pow_any p z (a : Int) W z0 z1 (by omega) (by omega))
    rw [Int.toNat_natCast] at P1
    rw [← hA] at f0 f1 f2 A0 A1 S1
    rw [← hB] at f0 S2
    rw [← hC] at f2 C0 C1 S3
    rw [← hE] at f2 S4
    rw [← hX] at f1 f2 X0 X1 P1
    have t0 : (B != Fp.add p (Fp.mul p A z) 1) = false := by rw [f0]; simp
    have t1 : (Fp.mul p A (Fp.sub p z 1) == Fp.sub p X 1) = true := by rw [f1]; simp
    have t2 : (E == Fp.add p A (Fp.mul p X C)) = true := by rw [f2]; simp
    obtain ⟨u0, u1, -⟩ := Fp.mul_bd p A z
    obtain ⟨v0, v1, -⟩ := Fp.sub_bd p z 1
    obtain ⟨y0, y1, -⟩ := Fp.mul_bd p X C
    clear f0 f1 f2 hA hB hC hE hX S h
    go_enter Try.func4, Try.ntmps4
    go_wp2_with (go_at_call 7; refine (live8_any _).mono ?_; rintro e w' ⟨rfl, nd, rfl⟩)
    refine (S1.out _).mono ?_; rintro e w' ⟨rfl, n1, rfl⟩
    go_wp2_with fail
    refine (S2.out _).mono ?_; rintro e w' ⟨rfl, n2, rfl⟩
    go_wp2_with fail
    refine (S3.out _).mono ?_; rintro e w' ⟨rfl, n3, rfl⟩
    go_wp2_with fail
    refine (S4.out _).mono ?_; rintro e w' ⟨rfl, n4, rfl⟩
    go_wp2_with (first
      | (go_at_call 15; refine (P1.out _).mono ?_; rintro e w' ⟨rfl, n5, rfl⟩)
      | (go_at_call 17; refine (mul_any _ _ _ _ (by omega) (by omega) (by omega) (by omega)).mono ?_; rintro e w' ⟨rfl, n6, rfl⟩)
      | (go_at_call 16; refine (add_any _ _ _ _ (by omega) (by omega) (by omega) (by omega)).mono ?_; rintro e w' ⟨rfl, n7, rfl⟩)
      | (go_at_call 18; refine (sub_any _ _ _ _ (by omega) (by omega) (by omega) (by omega)).mono ?_; rintro e w' ⟨rfl, n8, rfl⟩))
    go_ret
    exact ⟨rfl, D.out _⟩

end Go.Proofs.Ytancfpekiecoiaa
