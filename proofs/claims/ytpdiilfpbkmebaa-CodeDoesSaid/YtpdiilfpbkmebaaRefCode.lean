/-
  What the document's Sums, Put, Look and right of layer 14 come to (brackenref14): the same.
-/
import Derived.Test.YtpdiilfpbkmebaaCodeLive
import Derived.Test.YtpdiilfpbkmebaaRef
import Derived.Test.YtpdiilfpbkmebaaLawCodeOne
namespace Go.Proofs.Ytpdiilfpbkmebaa
open Go.RowKit

theorem rcin_any (p : Int) (x : Option Addr) (n cap : Nat) (xs : List Int) (w : World) (B : Nat) (hx : Reads .u64 w B x xs) (hn : xs.length = n) (hl : n ≤ 140737488355328) :
    Calls Try.prog 33 #[.int .u64 p, .slice x n cap] w fun e w' => e = .returned (.bool (Cd.inp p xs)) ∧ w = w' := by
  subst hn
  by_cases h0 : 0 < xs.length
  · obtain ⟨b, off, rfl, -, hc⟩ := hx h0
    exact rin_row p b off xs.length cap (fun j => xs.getD j 0) w (by omega) hc
  · obtain rfl : xs = [] := List.length_eq_zero_iff.1 (by omega)
    exact rin_nil p x cap w

set_option maxHeartbeats 1000000 in
theorem rsums_no (p : Int) (x : Option Addr) (n cap : Nat) (w : World) (h : Fp.kn p = false) :
    Calls Try.prog 12 #[.int .u64 p, .slice x n cap] w (RetAr w 0 0 2) := by
  have H := Lib.hid h; clear h
  have HA := Lib.hid (Ar.new w 0 0)
  have HB := Lib.hid (below_al (Below.refl _ w) (.cells #[.int .u64 0, .int .u64 0] 25))
  have k0 := HA.out.c0
  have k1 := HA.out.c1
  have f0 := HA.out.fr 0
  have f1 := HA.out.fr 1
  go_enter Try.func12, Try.ntmps12
  go_wp2_with (go_at_call 28; refine (rknown_no p _ H.out).mono ?_; rintro e w' ⟨rfl, rfl⟩)
  refine bodyPost_ret (results_ar rfl _ _ w.heap.size _ _ rfl HA.out) rfl ?_
  exact ⟨rfl, HB.out⟩

set_option maxHeartbeats 1000000 in
theorem rsums_many (p : Int) (x : Option Addr) (n cap : Nat) (w : World) (h : Fp.kn p = true) (hn : 4096 < n) :
    Calls Try.prog 12 #[.int .u64 p, .slice x n cap] w (RetAr w 0 0 1) := by
  have H := Lib.hid h; clear h
  have hd : decide ((4096 : Int) < (n : Int)) = true := by simp; omega
  have HA := Lib.hid (Ar.new w 0 0)
  have HB := Lib.hid (below_al (Below.refl _ w) (.cells #[.int .u64 0, .int .u64 0] 25))
  have k0 := HA.out.c0
  have k1 := HA.out.c1
  have f0 := HA.out.fr 0
  have f1 := HA.out.fr 1
  go_enter Try.func12, Try.ntmps12
  go_wp2_with (go_at_call 28; refine (rknown_yes p _ H.out).mono ?_; rintro e w' ⟨rfl, rfl⟩)
  refine bodyPost_ret (results_ar rfl _ _ w.heap.size _ _ rfl HA.out) rfl ?_
  exact ⟨rfl, HB.out⟩

set_option maxRecDepth 100000 in
set_option maxHeartbeats 4000000 in
theorem rsums_ok (p : Int) (x : Option Addr) (n cap : Nat) (xs : List Int) (w : World) (h : Fp.kn p = true) (hx : Reads .u64 w w.heap.size x xs) (hn : xs.length = n) (hm : n ≤ 4096) (hw : Words xs) :
    Calls Try.prog 12 #[.int .u64 p, .slice x n cap] w (RetAr w (Cd.S0 xs n % p) (Cd.S1 xs n % p) 0) := by
  have hmx : Try.prog.follows .mixedOrders = true := by kernel_rfl
  have H := Lib.hid h
  have hd : decide ((4096 : Int) < (n : Int)) = false := by simp; omega
  obtain ⟨wz, hwz⟩ : ∃ wz, wz = (w.alloc (.cells #[.int .u64 0, .int .u64 0] 25)).alloc (.cells #[.int .u64 0, .int .u64 0] 25) := ⟨_, rfl⟩
  have hB0 : Below w.heap.size w wz := by rw [hwz]; exact below_al (below_al (Below.refl _ _) _) _
  have hA1 : Ar wz w.heap.size 0 0 := by rw [hwz]; exact (Ar.new w 0 0).then (below_al (Below.refl _ _) _)
  have hA2 : Ar wz (w.heap.size + 1) 0 0 := by
    have := Ar.new (w.alloc (.cells #[.int .u64 0, .int .u64 0] 25)) 0 0
    rw [World.size_alloc] at this
    rw [hwz]; exact this
  have HI0 : Hid (Ar wz w.heap.size 0 0 ∧ Ar wz (w.heap.size + 1) (Cd.S0 xs 0 % p) (Cd.S1 xs 0 % p) ∧ Below w.heap.size w wz) := Lib.hid ⟨hA1, by simpa [Cd.S0, Cd.S1] using hA2, hB0⟩
  have HX := Lib.hid hx
  have HW := Lib.hid hw
  have HN := Lib.hid hn
  have HS0 := Lib.hid (fun k => S0_step h xs k)
  have HS1 := Lib.hid (fun k => S1_step h xs k)
  have HM := Lib.hid (fun a => And.intro (md_word h (Cd.S0 xs a)) (md_word h (Cd.S1 xs a)))
  clear hx hw hn h hB0 hA1 hA2
  go_enter Try.func12, Try.ntmps12
  go_wp2_with (go_at_call 28; refine (rknown_yes p _ H.out).mono ?_; rintro e w' ⟨rfl, rfl⟩)
  rw [← hwz]
  clear hwz
  go_loopw [19] (fun i wr => ∃ k : Nat, k ≤ n ∧ i = .int .i64 (k : Int) ∧ Hid (Ar wr w.heap.size 0 0 ∧ Ar wr (w.heap.size + 1) (Cd.S0 xs k % p) (Cd.S1 xs k % p) ∧ Below w.heap.size w wr)) (fun i _ => n - (intOf i).toNat)
  case atStart => exact ⟨0, Nat.zero_le _, rfl, HI0⟩
  case round =>
    obtain ⟨k, hk, rfl, HI⟩ := hrel
    clear HI0
    by_cases hlt : k < n
    · have hdk : decide (k < n) = true := by simpa using hlt
      obtain ⟨b, off, rfl, hb, hc⟩ := HX.out (by have := HN.out; omega)
      have hx1 := (HI.out.2.2.cell (p := ⟨b, off + k, none⟩) hb).trans (hc k (by have := HN.out; omega))
      obtain ⟨u0, u1⟩ := HW.out k
      obtain ⟨⟨s00, s01⟩, s10, s11⟩ := HM.out k
      have hT0 := HS0.out k
      have hT1 := HS1.out k
      obtain ⟨u, hu⟩ : ∃ u, u = xs.getD k 0 := ⟨_, rfl⟩
      obtain ⟨s, hs⟩ : ∃ s, s = Cd.S0 xs k % p := ⟨_, rfl⟩
      obtain ⟨t, ht⟩ : ∃ t, t = Cd.S1 xs k % p := ⟨_, rfl⟩
      rw [← hu] at hx1 u0 u1 hT0 hT1
      rw [← hs] at s00 s01 hT0 HI
      rw [← ht] at s10 s11 hT1 HI
      have hT1' : Fp.add p t (Fp.mul p u ((k : Int) + 1)) = Cd.S1 xs (k + 1) % p := by rw [Fp.mul_comm p u]; exact hT1
      have HT0 := Lib.hid hT0
      have HT1 := Lib.hid hT1'
      obtain ⟨m0, m1, -⟩ := Fp.mul_bd p u ((k : Int) + 1)
      have k0 := HI.out.2.1.c0
      have k1 := HI.out.2.1.c1
      have f0 := HI.out.2.1.fr 0
      have f1 := HI.out.2.1.fr 1
      clear hc hu hs ht hT0 hT1 hT1'
      go_wp2_with (go_at_call 29; refine (radd_any _ _ _ _ (by omega) (by omega) (by omega) (by omega)).mono ?_; rintro e w' ⟨rfl, n1, rfl⟩)
      have hA1 := (HI.out.2.1.draws n1).set0 (Fp.add p s u)
      have hAz := (HI.out.1.draws n1).apart (p := ⟨w.heap.size + 1, 0, none⟩) (by dsimp only; omega) (.int .u64 (Fp.add p s u))
      have hB1 := (below_draws HI.out.2.2 n1).setCell (p := ⟨w.heap.size + 1, 0, none⟩) (by dsimp only; omega) (.int .u64 (Fp.add p s u))
      obtain ⟨W1, hW1⟩ : ∃ W1, W1 = (wr.drewN n1).setCell ⟨w.heap.size + 1, 0, none⟩ (.int .u64 (Fp.add p s u)) := ⟨_, rfl⟩
      rw [← hW1] at hA1 hAz hB1 ⊢
      have j1 := hA1.c1
      have g1 := hA1.fr 1
      have HA1 := Lib.hid hA1
      have HAz := Lib.hid hAz
      have HB1 := Lib.hid hB1
      clear hW1 hA1 hAz hB1 HI k0 k1 f0 f1
      refine region_quiet_tail 10 hmx (by kernel_rfl) ?_
      simp only [List.take_succ_cons, List.take_zero, List.drop_succ_cons, List.drop_zero]
      repeat (go_big_quiet_step (first
        | (go_at_call 30; exact Calls.quiet_of_same (flip_same (rmul_any _ _ _ _ (by omega) (by omega) (by omega) (by omega))))
        | (go_at_call 29; exact Calls.quiet_of (radd_any _ _ _ _ (by omega) (by omega) (by omega) (by omega)))))
      refine wpQuiet_nil ?_
      rintro w' ⟨nq, rfl⟩
      go_wp2
      go_roundw
      case rel => exact ⟨k + 1, by omega, by go_num, Lib.hid ⟨(HAz.out.draws nq).apart (p := ⟨w.heap.size + 1, 1, none⟩) (by dsimp only; omega) _, by rw [← HT0.out, ← HT1.out]; exact (HA1.out.draws nq).set1 _, (below_draws HB1.out nq).setCell (p := ⟨w.heap.size + 1, 1, none⟩) (by dsimp only; omega) _⟩⟩
      case measure => simp [intOf]; omega
    · obtain rfl : k = n := by omega
      have hdk : decide (k < k) = false := by simp
      have k0 := HI.out.2.1.c0
      have k1 := HI.out.2.1.c1
      have j0 := HI.out.1.c0
      have j1 := HI.out.1.c1
      have f0 := HI.out.1.fr 0
      have f1 := HI.out.1.fr 1
      go_wp2
      refine bodyPost_ret (results_ar rfl _ _ w.heap.size _ _ rfl (HI.out.1.set _ _)) rfl ?_
      exact ⟨rfl, below_set2 HI.out.2.2 (Nat.le_refl _) _ _⟩

/-- Sums, of whatever words. -/
theorem rsums14_any (p : Int) (x : Option Addr) (n cap : Nat) (xs : List Int) (w : World) (hx : Reads .u64 w w.heap.size x xs) (hn : xs.length = n) (hw : Words xs) :
    Calls Try.prog 12 #[.int .u64 p, .slice x n cap] w (RetAr w (Cd.sm0 p xs) (Cd.sm1 p xs) (Cd.smE p n)) := by
  subst hn
  cases h : Fp.kn p
  · have e : Cd.smE p xs.length = 2 := by unfold Cd.smE; rw [if_pos h]
    unfold Cd.sm0 Cd.sm1
    rw [e, if_neg (by decide), if_neg (by decide)]
    exact rsums_no p x _ cap w h
  · by_cases h2 : 4096 < xs.length
    · have e : Cd.smE p xs.length = 1 := by unfold Cd.smE; rw [if_neg (by rw [h]; decide), if_pos h2]
      unfold Cd.sm0 Cd.sm1
      rw [e, if_neg (by decide), if_neg (by decide)]
      exact rsums_many p x _ cap w h h2
    · have e : Cd.smE p xs.length = 0 := by unfold Cd.smE; rw [if_neg (by rw [h]; decide), if_neg h2]
      unfold Cd.sm0 Cd.sm1
      rw [e, if_pos rfl, if_pos rfl]
      exact rsums_ok p x _ cap xs w h hx rfl (by omega) hw

set_option maxHeartbeats 2000000 in
theorem rkput_no (p : Int) (x : Option Addr) (n cap : Nat) (xs : List Int) (w : World) (hx : Reads .u64 w w.heap.size x xs) (hn : xs.length = n) (hl : n ≤ 140737488355328) (h0 : Cd.kpE p xs ≠ 0) :
    Calls Try.prog 14 #[.int .u64 p, .slice x n cap] w (RetP w [] (Cd.kpE p xs)) := by
  have HI := Lib.hid (rcin_any p x n cap xs w w.heap.size hx hn hl)
  cases hk : Fp.kn p
  · have e1 : Cd.kpE p xs = 2 := by unfold Cd.kpE; rw [if_pos hk]
    have H := Lib.hid hk
    rw [e1]
    clear hx hn hk e1 h0
    go_enter Try.func14, Try.ntmps14
    go_wp2_with (go_at_call 28; refine (rknown_no p _ H.out).mono ?_; rintro e w' ⟨rfl, rfl⟩)
    go_ret2
    exact ⟨_, rfl, Owns.nil, Below.refl _ _⟩
  · have h' : ¬ Fp.kn p = false := by rw [hk]; decide
    have H := Lib.hid hk
    by_cases h1 : n = 0
    · have e1 : Cd.kpE p xs = 1 := by unfold Cd.kpE; rw [if_neg h', if_neg (by omega), if_pos (by omega)]
      have d1 : decide ((n : Int) < 1) = true := by simp; omega
      rw [e1]
      clear hx hn hk e1 h0 h' h1
      go_enter Try.func14, Try.ntmps14
      go_wp2_with (go_at_call 28; refine (rknown_yes p _ H.out).mono ?_; rintro e w' ⟨rfl, rfl⟩)
      go_ret2
      exact ⟨_, rfl, Owns.nil, Below.refl _ _⟩
    · have d1 : decide ((n : Int) < 1) = false := by simp; omega
      by_cases h2 : 4096 < n
      · have e1 : Cd.kpE p xs = 1 := by unfold Cd.kpE; rw [if_neg h', if_pos (by omega)]
        have d2 : decide ((4096 : Int) < (n : Int)) = true := by simp; omega
        rw [e1]
        clear hx hn hk e1 h0 h' h1 h2
        go_enter Try.func14, Try.ntmps14
        go_wp2_with (go_at_call 28; refine (rknown_yes p _ H.out).mono ?_; rintro e w' ⟨rfl, rfl⟩)
        go_ret2
        exact ⟨_, rfl, Owns.nil, Below.refl _ _⟩
      · have d2 : decide ((4096 : Int) < (n : Int)) = false := by simp; omega
        have hi : Cd.inp p xs = false := by
          cases hi : Cd.inp p xs
          · rfl
          · exact absurd (Cd.kpE_zero.2 ⟨hk, by omega, by omega, hi⟩) h0
        have e1 : Cd.kpE p xs = 7 := by unfold Cd.kpE; rw [if_neg h', if_neg (by omega), if_neg (by omega), if_neg (by rw [hi]; decide)]
        rw [hi] at HI
        rw [e1]
        clear hx hn hk e1 h0 h' h1 h2 hi
        go_enter Try.func14, Try.ntmps14
        go_wp2_with (first
          | (go_at_call 28; refine (rknown_yes p _ H.out).mono ?_; rintro e w' ⟨rfl, rfl⟩)
          | (go_at_call 33; refine HI.out.mono ?_; rintro e w' ⟨rfl, rfl⟩))
        go_ret2
        exact ⟨_, rfl, Owns.nil, Below.refl _ _⟩

end Go.Proofs.Ytpdiilfpbkmebaa
