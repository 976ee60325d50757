/-
  What each function of the document's answer for layer 1 comes to: the same numbers as package field's.
-/
import Derived.Test.YtmcnamlgbkbiaaaDoorIn
import Derived.Test.YtmcnamlgbkbiaaaDoorMul
namespace Go.Proofs.YtmcnamlgbkbiaaaDoor
open Go.RowKit

theorem rknown_yes (p : Int) (w : World) (h : Fp.kn p = true) :
    Calls Tryd.prog 27 #[.int .u64 p] w fun e w' => e = .returned (.bool true) ∧ w = w' := by
  rcases Fp.kn_cases h with h | h | h <;> subst h
  all_goals
    go_enter Tryd.func27, Tryd.ntmps27
    go_wp2
    go_ret
    exact ⟨rfl, rfl⟩

theorem rknown_no (p : Int) (w : World) (h : Fp.kn p = false) :
    Calls Tryd.prog 27 #[.int .u64 p] w fun e w' => e = .returned (.bool false) ∧ w = w' := by
  simp only [Fp.kn, Bool.or_eq_false_iff] at h
  obtain ⟨⟨h1, h2⟩, h3⟩ := h
  go_enter Tryd.func27, Tryd.ntmps27
  go_wp2
  go_ret
  exact ⟨rfl, rfl⟩

theorem rreduce_any (p a : Int) (w : World) (a0 : 0 ≤ a) (a1 : a < 18446744073709551616) :
    Calls Tryd.prog 47 #[.int .u64 p, .int .u64 a] w fun e w' => e = .returned (.int .u64 (Fp.red p a)) ∧ w = w' := by
  cases h : Fp.kn p
  · have he := Lib.hid (Fp.red_no a h)
    have H := Lib.hid h; clear h
    go_enter Tryd.func47, Tryd.ntmps47
    go_wp2_with (go_at_call 27; refine (rknown_no p _ H.out).mono ?_; rintro e w' ⟨rfl, rfl⟩)
    go_ret
    exact ⟨ret_u64 he.out.symm, rfl⟩
  · have hr : Hid (Fp.red p a = a % p) := Lib.hid (by unfold Fp.red; rw [if_pos h])
    obtain ⟨b1, b2⟩ := Fp.kn_bd h
    have l1 := Fp.md_lo a (Fp.kn_pos h)
    have l2 := Fp.md_hi a (Fp.kn_pos h)
    have H := Lib.hid h; clear h
    go_enter Tryd.func47, Tryd.ntmps47
    go_wp2_with (go_at_call 27; refine (rknown_yes p _ H.out).mono ?_; rintro e w' ⟨rfl, rfl⟩)
    go_ret
    exact ⟨ret_u64 hr.out.symm, rfl⟩

/-- plus, of two numbers of p. -/
theorem plus_any (p a b : Int) (w : World) (h : Fp.kn p = true) (a0 : 0 ≤ a) (a1 : a < p) (b0 : 0 ≤ b) (b1 : b < p) :
    Calls Tryd.prog 52 #[.int .u64 p, .int .u64 a, .int .u64 b] w fun e w' => e = .returned (.int .u64 ((a + b) % p)) ∧ w = w' := by
  obtain ⟨p1, p2⟩ := Fp.kn_bd h
  have ea := Int.emod_eq_of_lt a0 a1
  have eb := Int.emod_eq_of_lt b0 b1
  by_cases hl : a < p - b
  · have he := Lib.hid (Fp.add_low (a := a) (b := b) (Fp.kn_pos h) (by rw [ea, eb]; exact hl))
    rw [ea, eb] at he
    clear ea eb h
    go_enter Tryd.func52, Tryd.ntmps52
    go_wp2
    go_ret
    exact ⟨ret_u64 he.out, rfl⟩
  · have he := Lib.hid (Fp.add_high (a := a) (b := b) (Fp.kn_pos h) (by rw [ea, eb]; omega))
    rw [ea, eb] at he
    clear ea eb h
    go_enter Tryd.func52, Tryd.ntmps52
    go_wp2
    go_ret
    exact ⟨ret_u64 he.out, rfl⟩

theorem flip_same {P : Program} {f : FuncId} {args : Array Value} {w : World} {v : Ending} (h : Calls P f args w fun e w' => e = v ∧ w = w') : Calls P f args w fun e w' => e = v ∧ w' = w :=
  h.mono fun _ _ ⟨h1, h2⟩ => ⟨h1, h2.symm⟩

theorem radd_any (p a b : Int) (w : World) (a0 : 0 ≤ a) (a1 : a < 18446744073709551616) (b0 : 0 ≤ b) (b1 : b < 18446744073709551616) :
    Calls Tryd.prog 33 #[.int .u64 p, .int .u64 a, .int .u64 b] w (RetQ (.int .u64 (Fp.add p a b)) w) := by
  cases h : Fp.kn p
  · have he := Lib.hid (Fp.red_no (a + b) h)
    have H := Lib.hid h; clear h
    go_enter Tryd.func33, Tryd.ntmps33
    go_wp2_with (go_at_call 27; refine (rknown_no p _ H.out).mono ?_; rintro e w' ⟨rfl, rfl⟩)
    go_ret
    exact ⟨ret_u64 he.out.symm, 0, rfl⟩
  · have hr : Hid (Fp.add p a b = (a % p + b % p) % p) := Lib.hid (by unfold Fp.add; rw [if_pos h, Int.add_emod])
    obtain ⟨p1, p2⟩ := Fp.kn_bd h
    have l1 := Fp.md_lo a (Fp.kn_pos h)
    have l2 := Fp.md_hi a (Fp.kn_pos h)
    have l3 := Fp.md_lo b (Fp.kn_pos h)
    have l4 := Fp.md_hi b (Fp.kn_pos h)
    have H := Lib.hid h; clear h
    go_enter Tryd.func33, Tryd.ntmps33
    go_wp2_with (go_at_call 27; refine (rknown_yes p _ H.out).mono ?_; rintro e w' ⟨rfl, rfl⟩)
    go_quiet ((go_at_call 52; exact Calls.quiet_of_same (flip_same (plus_any p _ _ _ H.out l1 l2 l3 l4))))
    go_wp2
    go_ret
    exact ⟨ret_u64 hr.out.symm, _, rfl⟩

namespace Fp
/-- 2 to the power n, as a plain number. -/
def tw (n : Nat) : Int := ((2 ^ n : Nat) : Int)
theorem tw_pos (n : Nat) : 1 ≤ tw n := by unfold tw; have := Nat.two_pow_pos n; omega
theorem tw_succ (n : Nat) : tw (n + 1) = 2 * tw n := by unfold tw; rw [Nat.pow_succ]; omega
theorem tw_half (n : Nat) : tw (n + 1) / 2 = tw n := by rw [tw_succ]; omega
theorem tw_63 : tw 63 = 9223372036854775808 := by decide
theorem tw_64 : tw 64 = 18446744073709551616 := by decide
theorem tw_le {m n : Nat} (h : m ≤ n) : tw m ≤ tw n := by unfold tw; have := Nat.pow_le_pow_right (n := 2) (by omega) h; omega
/-- What is made of the highest k of 64 bits of b: a times them, by p. -/
def part (p a b : Int) (k : Nat) : Int := (a * (b / tw (64 - k))) % p
theorem part_zero (p a b : Int) (b0 : 0 ≤ b) (b1 : b < 18446744073709551616) : part p a b 0 = 0 := by
  unfold part
  rw [show (64 - 0 : Nat) = 64 from rfl, tw_64, show b / 18446744073709551616 = 0 by omega]; simp
theorem part_all (p a b : Int) : part p a b 64 = (a * b) % p := by
  unfold part
  rw [show (64 - 64 : Nat) = 0 from rfl, show tw 0 = 1 from rfl, Int.ediv_one]
theorem part_step (p a b : Int) (k : Nat) (hk : k < 64) (_b0 : 0 ≤ b) :
    (b % tw (64 - k) < tw (63 - k) → (part p a b k + part p a b k) % p = part p a b (k + 1) ∧ b % tw (63 - k) = b % tw (64 - k)) ∧
    (tw (63 - k) ≤ b % tw (64 - k) → ((part p a b k + part p a b k) % p + a) % p = part p a b (k + 1) ∧ b % tw (63 - k) = b % tw (64 - k) - tw (63 - k)) := by
  have e1 : 64 - k = (63 - k) + 1 := by omega
  have e2 : 64 - (k + 1) = 63 - k := by omega
  unfold part
  rw [e2, e1, tw_succ]
  have ht := tw_pos (63 - k)
  generalize tw (63 - k) = t at *
  have hq := Int.mul_ediv_add_emod b (2 * t)
  have r0 := md_lo b (p := 2 * t) (by omega)
  have r1 := md_hi b (p := 2 * t) (by omega)
  generalize b / (2 * t) = q at *
  generalize b % (2 * t) = r at *
  constructor
  · intro hl
    have hb : b = r + t * (2 * q) := by rw [← hq, Int.mul_comm 2 t, Int.mul_assoc]; omega
    have h1 : b / t = 2 * q := by rw [hb, Int.add_mul_ediv_left _ _ (by omega), Int.ediv_eq_zero_of_lt r0 hl]; omega
    have h2 : b % t = r := by rw [hb, Int.add_mul_emod_self_left, Int.emod_eq_of_lt r0 hl]
    refine ⟨?_, h2⟩
    rw [h1, Int.emod_add_emod, Int.add_emod_emod]
    congr 1; rw [Int.mul_left_comm]; omega
  · intro hl
    have hb : b = (r - t) + t * (2 * q + 1) := by rw [← hq, Int.mul_comm 2 t, Int.mul_add, Int.mul_assoc]; omega
    have h1 : b / t = 2 * q + 1 := by rw [hb, Int.add_mul_ediv_left _ _ (by omega), Int.ediv_eq_zero_of_lt (by omega) (by omega)]; omega
    have h2 : b % t = r - t := by rw [hb, Int.add_mul_emod_self_left, Int.emod_eq_of_lt (by omega) (by omega)]
    refine ⟨?_, h2⟩
    rw [h1, Int.emod_add_emod, Int.add_assoc, Int.emod_add_emod, Int.add_left_comm, Int.emod_add_emod]
    congr 1; rw [Int.mul_add, Int.mul_left_comm, Int.mul_one]; omega
end Fp

set_option maxHeartbeats 400000 in
theorem rmul_yes (p a b : Int) (w : World) (h : Fp.kn p = true) (a0 : 0 ≤ a) (a1 : a < 18446744073709551616) (b0 : 0 ≤ b) (b1 : b < 18446744073709551616) :
    Calls Tryd.prog 34 #[.int .u64 p, .int .u64 a, .int .u64 b] w fun e w' => e = .returned (.int .u64 (Fp.mul p a b)) ∧ w = w' := by
  have hr : Hid (Fp.mul p a b = (a % p * (b % p)) % p) := Lib.hid (by unfold Fp.mul; rw [if_pos h, Int.mul_emod])
  obtain ⟨p1, p2⟩ := Fp.kn_bd h
  have l1 := Fp.md_lo a (Fp.kn_pos h)
  have l2 := Fp.md_hi a (Fp.kn_pos h)
  have l3 := Fp.md_lo b (Fp.kn_pos h)
  have l4 := Fp.md_hi b (Fp.kn_pos h)
  by_cases hs : p < 4294967296
  · have s0 : 0 ≤ a % p * (b % p) := Int.mul_nonneg l1 l3
    have s1 : a % p * (b % p) ≤ 4294967296 * 4294967296 - 8589934591 := by
      have : a % p * (b % p) ≤ 4294967295 * 4294967295 := Int.mul_le_mul (by omega) (by omega) l3 (by omega)
      omega
    have s2 := Fp.md_lo (a % p * (b % p)) (Fp.kn_pos h)
    have s3 := Fp.md_hi (a % p * (b % p)) (Fp.kn_pos h)
    have H := Lib.hid h; clear h
    go_enter Tryd.func34, Tryd.ntmps34
    go_wp2_with (go_at_call 27; refine (rknown_yes p _ H.out).mono ?_; rintro e w' ⟨rfl, rfl⟩)
    go_ret
    exact ⟨ret_u64 hr.out.symm, rfl⟩
  · have hz := Lib.hid (Fp.part_zero p (a % p) (b % p) l3 (by omega))
    have hall := Lib.hid (Fp.part_all p (a % p) (b % p))
    have H := Lib.hid h; clear h
    have hp0 : 0 < p := by omega
    go_enter Tryd.func34, Tryd.ntmps34
    go_wp2_with (go_at_call 27; refine (rknown_yes p _ H.out).mono ?_; rintro e w' ⟨rfl, rfl⟩)
    go_loop [2, 7, 8, 25] (fun bb out bit i => ∃ (k : Nat) (x o t : Int), k ≤ 64 ∧ i = .int .i64 k ∧ bb = .int .u64 x ∧ out = .int .u64 o ∧ bit = .int .u64 t ∧ 0 ≤ t ∧ t ≤ 9223372036854775808 ∧ 0 ≤ o ∧ o < p ∧ 0 ≤ x ∧ x < 18446744073709551616 ∧ Hid (x = b % p % Fp.tw (64 - k) ∧ o = Fp.part p (a % p) (b % p) k ∧ (k < 64 → t = Fp.tw (63 - k)))) (fun _ _ _ i => 64 - (intOf i).toNat)
    case atStart =>
      refine ⟨0, b % p, 0, 9223372036854775808, by omega, rfl, rfl, rfl, rfl, by omega, by omega, by omega, by omega, by omega, by omega, Lib.hid ⟨?_, hz.out.symm, fun _ => by rw [Fp.tw_63]⟩⟩
      rw [show (64 - 0 : Nat) = 64 from rfl, Fp.tw_64, Int.emod_eq_of_lt l3 (by omega)]
    case round =>
      obtain ⟨k, x, o, t, hk, rfl, rfl, rfl, rfl, t0, t1, o0, o1, x0, x1, HR⟩ := hrel
      by_cases hlt : k < 64
      · have u0 := Fp.md_lo (o + o) hp0
        have u1 := Fp.md_hi (o + o) hp0
        have v0 := Fp.md_lo (o + o + a) hp0
        have v1 := Fp.md_hi (o + o + a) hp0
        have t2 : x < 2 * t := by
          obtain ⟨e1, -, e3⟩ := HR.out
          have := Fp.md_hi (p := Fp.tw (64 - k)) (b % p) (by have := Fp.tw_pos (64 - k); omega)
          rw [e1, e3 hlt, ← Fp.tw_succ, show 63 - k + 1 = 64 - k by omega]; exact this
        have HN : Hid (k + 1 < 64 → t / 2 = Fp.tw (63 - (k + 1))) := Lib.hid (fun hk1 => by rw [HR.out.2.2 hlt, show 63 - k = (63 - (k + 1)) + 1 by omega, Fp.tw_half])
        by_cases hc : t ≤ x
        · have HS : Hid ((o + o + a) % p = Fp.part p (a % p) (b % p) (k + 1) ∧ b % p % Fp.tw (64 - (k + 1)) = x - t) := by
            obtain ⟨e1, e2, e3⟩ := HR.out
            have st := (Fp.part_step p (a % p) (b % p) k hlt l3).2
            rw [← e1, ← e2, ← e3 hlt, Int.emod_add_emod, Int.add_emod_emod] at st
            rw [show 64 - (k + 1) = 63 - k by omega, ← e3 hlt]
            exact Lib.hid (st hc)
          go_wp2_with (go_at_call 52; refine (plus_any p _ _ _ H.out (by omega) (by omega) (by omega) (by omega)).mono ?_; rintro e w' ⟨rfl, rfl⟩)
          go_round
          case rel => exact ⟨k + 1, x - t, _, t / 2, by omega, by go_num, rfl, rfl, rfl, by omega, by omega, v0, v1, by omega, by omega, Lib.hid ⟨HS.out.2.symm, HS.out.1, HN.out⟩⟩
          case measure => simp [intOf]; omega
        · have HS : Hid ((o + o) % p = Fp.part p (a % p) (b % p) (k + 1) ∧ b % p % Fp.tw (64 - (k + 1)) = x) := by
            obtain ⟨e1, e2, e3⟩ := HR.out
            have st := (Fp.part_step p (a % p) (b % p) k hlt l3).1
            rw [← e1, ← e2, ← e3 hlt] at st
            rw [show 64 - (k + 1) = 63 - k by omega, ← e3 hlt]
            exact Lib.hid (st (by omega))
          go_wp2_with (go_at_call 52; refine (plus_any p _ _ _ H.out (by omega) (by omega) (by omega) (by omega)).mono ?_; rintro e w' ⟨rfl, rfl⟩)
          go_round
          case rel => exact ⟨k + 1, x, _, t / 2, by omega, by go_num, rfl, rfl, rfl, by omega, by omega, u0, u1, by omega, by omega, Lib.hid ⟨HS.out.2.symm, HS.out.1, HN.out⟩⟩
          case measure => simp [intOf]; omega
      · obtain rfl : k = 64 := by omega
        have he : Hid (o = Fp.mul p a b) := Lib.hid (by rw [HR.out.2.1, hall.out, hr.out])
        go_wp2
        go_ret
        exact ⟨ret_u64 he.out, rfl⟩

theorem rmul_any (p a b : Int) (w : World) (a0 : 0 ≤ a) (a1 : a < 18446744073709551616) (b0 : 0 ≤ b) (b1 : b < 18446744073709551616) :
    Calls Tryd.prog 34 #[.int .u64 p, .int .u64 a, .int .u64 b] w fun e w' => e = .returned (.int .u64 (Fp.mul p a b)) ∧ w = w' := by
  cases h : Fp.kn p
  · have he := Lib.hid (Fp.red_no (a * b) h)
    have H := Lib.hid h; clear h
    go_enter Tryd.func34, Tryd.ntmps34
    go_wp2_with (go_at_call 27; refine (rknown_no p _ H.out).mono ?_; rintro e w' ⟨rfl, rfl⟩)
    go_ret
    exact ⟨ret_u64 he.out.symm, rfl⟩
  · exact rmul_yes p a b w h a0 a1 b0 b1

theorem rin_nil (p : Int) (x : Option Addr) (cap : Nat) (w : World) :
    Calls Tryd.prog 32 #[.int .u64 p, .slice x 0 cap] w fun e w' => e = .returned (.bool (Fp.kn p)) ∧ w = w' := by
  cases h : Fp.kn p
  · have H := Lib.hid h; clear h
    go_enter Tryd.func32, Tryd.ntmps32
    go_wp2
    refine wp_loop_rounds 1 ?_
    rw [rounds_succ]
    go_wp2_with (go_at_call 27; refine (rknown_no _ _ H.out).mono ?_; rintro e w' ⟨rfl, rfl⟩)
    go_ret
    exact ⟨rfl, rfl⟩
  · have H := Lib.hid h; clear h
    go_enter Tryd.func32, Tryd.ntmps32
    go_wp2
    refine wp_loop_rounds 1 ?_
    rw [rounds_succ]
    go_wp2_with (go_at_call 27; refine (rknown_yes _ _ H.out).mono ?_; rintro e w' ⟨rfl, rfl⟩)
    go_ret
    exact ⟨rfl, rfl⟩

theorem rin_row (p : Int) (b off len cap : Nat) (f : Nat → Int) (w : World) (hl : (len : Int) ≤ 9223372036854775807)
    (hcell : ∀ j, j < len → w.cell? ⟨b, off + j, none⟩ = some (.int .u64 (f j))) :
    Calls Tryd.prog 32 #[.int .u64 p, .slice (some ⟨b, off, none⟩) len cap] w fun e w' => e = .returned (.bool (Fp.isIn p f len)) ∧ w = w' := by
  have HC := Lib.hid hcell; clear hcell
  go_enter Tryd.func32, Tryd.ntmps32
  go_wp2
  go_loop [9] (fun i => ∃ k : Nat, k ≤ len ∧ i = .int .i64 k ∧ Hid (∀ j, j < k → f j < p)) (fun i => len - (intOf i).toNat)
  case atStart => exact ⟨0, Nat.zero_le _, rfl, Lib.hid (fun j hj => by omega)⟩
  case round =>
    obtain ⟨k, hk, rfl, HA⟩ := hrel
    by_cases hlt : k < len
    · have hc := HC.out k hlt
      by_cases hv : f k < p
      · go_wp2
        go_round
        case rel => exact ⟨k + 1, by omega, by go_num, Lib.hid (fun j hj => by by_cases e : j = k; exact e ▸ hv; exact HA.out j (by omega))⟩
        case measure => simp [intOf]; omega
      · have he := Lib.hid (Fp.isIn_at hv len hlt)
        go_wp2
        go_ret
        exact ⟨ret_bool he.out.symm, rfl⟩
    · cases h : Fp.kn p
      · have he := Lib.hid (Fp.isIn_no (f := f) h len)
        have H := Lib.hid h; clear h
        go_wp2_with (go_at_call 27; refine (rknown_no _ _ H.out).mono ?_; rintro e w' ⟨rfl, rfl⟩)
        go_ret
        exact ⟨ret_bool he.out.symm, rfl⟩
      · have he := Lib.hid (Fp.isIn_yes (f := f) h len (fun j hj => HA.out j (by omega)))
        have H := Lib.hid h; clear h
        go_wp2_with (go_at_call 27; refine (rknown_yes _ _ H.out).mono ?_; rintro e w' ⟨rfl, rfl⟩)
        go_ret
        exact ⟨ret_bool he.out.symm, rfl⟩

end Go.Proofs.YtmcnamlgbkbiaaaDoor
