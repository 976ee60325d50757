/-
  What code.Sums comes to: each of both sums by a closure.
-/
import Derived.Test.YtpdiilfpbkmebaaPair
import Derived.Test.YtpdiilfpbkmebaaMul
import Derived.Test.YtpdiilfpbkmebaaMathCodeTwo
import Derived.BigRegion
import Derived.Shelf.Abstract
namespace Go.Proofs.Ytpdiilfpbkmebaa
open Go.RowKit Go.Shelf

/-- A callee's contract, met behind draws that are counted together. -/
theorem quiet_more {P : Program} {f : FuncId} {args : Array Value} {w : World} {q a : Nat} {v : Value} (h : Calls P f args (w.drewN (q + a)) (RetQ v (w.drewN (q + a)))) :
    Calls P f args (w.drewN (q + a)) fun e w'' => e = .returned v ∧ ∃ n, w'' = w.drewN (q + n) :=
  h.mono fun _ _ ⟨he, m, hm⟩ => ⟨he, a + m, by rw [hm, World.drewN_drewN, Nat.add_assoc]⟩

set_option maxHeartbeats 1000000 in
theorem share0_any (i x : Int) (w : World) : Calls Try.prog 26 #[.int .i64 i, .int .u64 x] w (RetQ (.int .u64 x) w) := by
  go_enter Try.func26, Try.ntmps26
  go_wp2
  go_ret
  exact ⟨rfl, 0, rfl⟩

set_option maxHeartbeats 1000000 in
theorem share1_any (p x : Int) (k : Nat) (Bp : Nat) (w : World) (hp : w.cell? ⟨Bp, 0, none⟩ = some (.int .u64 p)) (hk : k ≤ 4096) (x0 : 0 ≤ x) (x1 : x < 18446744073709551616) :
    Calls Try.prog 27 #[.int .i64 (k : Int), .int .u64 x, .pointer (some ⟨Bp, 0, none⟩)] w (RetQ (.int .u64 (Fp.mul p ((k : Int) + 1) x)) w) := by
  go_enter Try.func27, Try.ntmps27
  go_wp2_with (go_at_call 24; refine (mul_any _ _ _ _ (by omega) (by omega) (by omega) (by omega)).mono ?_; rintro e w' ⟨rfl, n2, rfl⟩)
  go_ret
  exact ⟨rfl, _, rfl⟩

set_option maxRecDepth 100000 in
set_option maxHeartbeats 2000000 in
/-- One sum: whatever each word's share is. -/
theorem csum1_any (fid : FuncId) (lb : Array Value) (hE : ∀ args W, (callFunc fid args).run Try.prog W = .ok (.enter fid args) W) (p : Int) (x : Option Addr) (n cap : Nat) (xs : List Int) (Bl Bp : Nat) (f acc : Nat → Int) (w : World)
    (hl : w.cell? ⟨Bl, 0, none⟩ = some (.slice x n cap)) (hp : w.cell? ⟨Bp, 0, none⟩ = some (.int .u64 p)) (hx : Reads .u64 w w.heap.size x xs) (hn : xs.length = n) (hm : n ≤ 4096) (hw : Words xs)
    (hC : ∀ k q : Nat, k < n → Calls Try.prog fid (#[.int .i64 (k : Int), .int .u64 (xs.getD k 0)] ++ lb) (w.drewN q) (RetQ (.int .u64 (f k)) (w.drewN q)))
    (hf : ∀ k, k < n → 0 ≤ f k ∧ f k < 18446744073709551616) (ha : ∀ k, 0 ≤ acc k ∧ acc k < 18446744073709551616) (h0 : acc 0 = 0) (hs : ∀ k, k < n → Fp.add p (acc k) (f k) = acc (k + 1)) :
    Calls Try.prog 25 #[.func (.func fid) #[] lb, .pointer (some ⟨Bl, 0, none⟩), .pointer (some ⟨Bp, 0, none⟩)] w (RetQ (.int .u64 (acc n)) w) := by
  subst hn
  have HX := Lib.hid hx; clear hx
  have HW := Lib.hid hw; clear hw
  have HC := Lib.hid hC; clear hC
  have HF := Lib.hid hf; clear hf
  have HA := Lib.hid ha; clear ha
  have HS := Lib.hid hs; clear hs
  have H0 := Lib.hid h0; clear h0
  go_enter Try.func25, Try.ntmps25
  go_wp2
  go_loopw [5, 10] (fun s i wr => ∃ (k q : Nat) (o : Int), k ≤ xs.length ∧ i = .int .i64 (k : Int) ∧ s = .int .u64 o ∧ Hid (o = acc k) ∧ wr = w.drewN q) (fun _ i _ => xs.length - (intOf i).toNat)
  case atStart => exact ⟨0, 0, 0, Nat.zero_le _, rfl, rfl, Lib.hid H0.out.symm, rfl⟩
  case round =>
    obtain ⟨k, q, o, hk, rfl, rfl, HO, rfl⟩ := hrel
    by_cases hlt : k < xs.length
    · have hdk : decide (k < xs.length) = true := by simpa using hlt
      obtain ⟨b, off, rfl, hb, hcx⟩ := HX.out (by omega)
      have hx1 := hcx k hlt
      obtain ⟨y0, y1⟩ := HW.out k
      obtain ⟨z0, z1⟩ := HF.out k hlt
      have o01 := HA.out k
      rw [← HO.out] at o01
      obtain ⟨o0, o1⟩ := o01
      have HN : Hid (Fp.add p o (f k) = acc (k + 1)) := Lib.hid (by rw [HO.out]; exact HS.out k hlt)
      have HC1 := Lib.hid (fun q => HC.out k q hlt)
      obtain ⟨u, hu⟩ : ∃ u, u = xs.getD k 0 := ⟨_, rfl⟩
      obtain ⟨gv, hgv⟩ : ∃ gv, gv = f k := ⟨_, rfl⟩
      rw [← hu] at hx1 y0 y1 HC1
      rw [← hgv] at HN HC1 z0 z1
      clear hu hgv hcx
      go_wp2
      go_quiet (first
        | (go_at_fn fid; exact quiet_more (HC1.out _))
        | (go_at_call 23; exact quiet_more (add_any _ _ _ _ (by omega) (by omega) (by omega) (by omega))))
      go_wp2
      go_roundw
      case rel => exact ⟨k + 1, _, _, by omega, by go_num, rfl, Lib.hid HN.out, rfl⟩
      case measure => simp [intOf]; omega
    · obtain rfl : k = xs.length := by omega
      have hdk : decide (xs.length < xs.length) = false := by simp
      go_wp2
      go_ret
      exact ⟨ret_u64 HO.out, _, rfl⟩

/-- The world behind the two boxes and the array. -/
def sumW (w : World) (p : Int) (x : Option Addr) (n cap : Nat) : World := ((w.alloc (.cells #[.int .u64 p] 22)).alloc (.cells #[.slice x n cap] 23)).alloc (.cells #[.int .u64 0, .int .u64 0] 25)

theorem sumW_below (w : World) (p : Int) (x : Option Addr) (n cap : Nat) : Below w.heap.size w (sumW w p x n cap) := below_al (below_al (below_al (Below.refl _ _) _) _) _
theorem sumW_p (w : World) (p : Int) (x : Option Addr) (n cap : Nat) : (sumW w p x n cap).cell? ⟨w.heap.size, 0, none⟩ = some (.int .u64 p) :=
  ((below_al (below_al (Below.refl _ (w.alloc (.cells #[.int .u64 p] 22))) _) _).cell (p := ⟨w.heap.size, 0, none⟩) (by simp)).trans (Boxed.new w 22 (.int .u64 p)).cell
theorem sumW_l (w : World) (p : Int) (x : Option Addr) (n cap : Nat) : (sumW w p x n cap).cell? ⟨w.heap.size + 1, 0, none⟩ = some (.slice x n cap) := by
  have h := (Boxed.new (w.alloc (.cells #[.int .u64 p] 22)) 23 (.slice x n cap)).cell
  rw [World.size_alloc] at h
  exact ((below_al (Below.refl _ ((w.alloc (.cells #[.int .u64 p] 22)).alloc (.cells #[.slice x n cap] 23))) _).cell (p := ⟨w.heap.size + 1, 0, none⟩) (by simp)).trans h
theorem sumW_ar (w : World) (p : Int) (x : Option Addr) (n cap : Nat) : Ar (sumW w p x n cap) (w.heap.size + 1 + 1) 0 0 := by
  have := Ar.new ((w.alloc (.cells #[.int .u64 p] 22)).alloc (.cells #[.slice x n cap] 23)) 0 0
  rw [World.size_alloc, World.size_alloc] at this
  exact this
theorem sumW_size (w : World) (p : Int) (x : Option Addr) (n cap : Nat) : (sumW w p x n cap).heap.size = w.heap.size + 3 := by unfold sumW; simp

theorem S0_step {p : Int} (h : Fp.kn p = true) (xs : List Int) (k : Nat) : Fp.add p (Cd.S0 xs k % p) (xs.getD k 0) = Cd.S0 xs (k + 1) % p := by
  unfold Fp.add; rw [if_pos h, Int.emod_add_emod]; rfl
theorem S1_step {p : Int} (h : Fp.kn p = true) (xs : List Int) (k : Nat) : Fp.add p (Cd.S1 xs k % p) (Fp.mul p ((k : Int) + 1) (xs.getD k 0)) = Cd.S1 xs (k + 1) % p := by
  unfold Fp.add Fp.mul; rw [if_pos h, if_pos h, ← Int.add_emod]; rfl
theorem md_word {p : Int} (h : Fp.kn p = true) (a : Int) : 0 ≤ a % p ∧ a % p < 18446744073709551616 := by
  have := Fp.kn_bd h
  have h1 := Fp.md_lo a (Fp.kn_pos h)
  have h2 := Fp.md_hi a (Fp.kn_pos h)
  omega

set_option maxHeartbeats 1000000 in
theorem csums_no (p : Int) (x : Option Addr) (n cap : Nat) (w : World) (h : Fp.kn p = false) :
    Calls Try.prog 11 #[.int .u64 p, .slice x n cap] w (RetAr w 0 0 2) := by
  have H := Lib.hid h; clear h
  have HA := Lib.hid (sumW_ar w p x n cap)
  have HB := Lib.hid (sumW_below w p x n cap)
  unfold sumW at HA HB
  have k0 := HA.out.c0
  have k1 := HA.out.c1
  have f0 := HA.out.fr 0
  have f1 := HA.out.fr 1
  go_enter Try.func11, Try.ntmps11
  go_wp2_with (go_at_call 21; refine (known_no p _ H.out).mono ?_; rintro e w' ⟨rfl, rfl⟩)
  refine bodyPost_ret (results_ar rfl _ _ (w.heap.size + 1 + 1) _ _ rfl HA.out) rfl ?_
  exact ⟨rfl, HB.out⟩

set_option maxHeartbeats 1000000 in
theorem csums_many (p : Int) (x : Option Addr) (n cap : Nat) (w : World) (h : Fp.kn p = true) (hn : 4096 < n) :
    Calls Try.prog 11 #[.int .u64 p, .slice x n cap] w (RetAr w 0 0 1) := by
  have H := Lib.hid h; clear h
  have hd : decide ((4096 : Int) < (n : Int)) = true := by simp; omega
  have HA := Lib.hid (sumW_ar w p x n cap)
  have HB := Lib.hid (sumW_below w p x n cap)
  unfold sumW at HA HB
  have k0 := HA.out.c0
  have k1 := HA.out.c1
  have f0 := HA.out.fr 0
  have f1 := HA.out.fr 1
  go_enter Try.func11, Try.ntmps11
  go_wp2_with (go_at_call 21; refine (known_yes p _ H.out).mono ?_; rintro e w' ⟨rfl, rfl⟩)
  refine bodyPost_ret (results_ar rfl _ _ (w.heap.size + 1 + 1) _ _ rfl HA.out) rfl ?_
  exact ⟨rfl, HB.out⟩

set_option maxRecDepth 100000 in
set_option maxHeartbeats 2000000 in
theorem csums_ok (p : Int) (x : Option Addr) (n cap : Nat) (xs : List Int) (w : World) (h : Fp.kn p = true) (hx : Reads .u64 w w.heap.size x xs) (hn : xs.length = n) (hm : n ≤ 4096) (hw : Words xs) :
    Calls Try.prog 11 #[.int .u64 p, .slice x n cap] w (RetAr w (Cd.S0 xs n % p) (Cd.S1 xs n % p) 0) := by
  have hE1 : ∀ args W, (callFunc 25 args).run Try.prog W = .ok (.enter 25 args) W := enters_of Try.func25 (by kernel_rfl) rfl
  have hE2 := enters_of Try.func26 (by kernel_rfl) rfl
  have hE3 := enters_of Try.func27 (by kernel_rfl) rfl
  have hd : decide ((4096 : Int) < (n : Int)) = false := by simp; omega
  have hB0 := sumW_below w p x n cap
  have hR : ∀ q, Reads .u64 ((sumW w p x n cap).drewN q) ((sumW w p x n cap).drewN q).heap.size x xs := fun q => ((hx.below hB0).more hB0.size).draws q
  have K1 := Lib.hid (fun q => csum1_any 26 #[] hE2 p x n cap xs (w.heap.size + 1) w.heap.size (fun k => xs.getD k 0) (fun k => Cd.S0 xs k % p) ((sumW w p x n cap).drewN q) (sumW_l w p x n cap) (sumW_p w p x n cap) (hR q) hn hm hw
    (fun k q' _ => share0_any _ _ _) (fun k _ => hw k) (fun k => md_word h _) (by simp [Cd.S0]) (fun k _ => S0_step h xs k))
  have K2 := Lib.hid (fun q => csum1_any 27 #[.pointer (some ⟨w.heap.size, 0, none⟩)] hE3 p x n cap xs (w.heap.size + 1) w.heap.size (fun k => Fp.mul p ((k : Int) + 1) (xs.getD k 0)) (fun k => Cd.S1 xs k % p) ((sumW w p x n cap).drewN q) (sumW_l w p x n cap) (sumW_p w p x n cap) (hR q) hn hm hw
    (fun k q' hk => share1_any p _ k w.heap.size _ (sumW_p w p x n cap) (by omega) (hw k).1 (hw k).2) (fun k _ => by have := Fp.mul_bd p ((k : Int) + 1) (xs.getD k 0); omega) (fun k => md_word h _) (by simp [Cd.S1]) (fun k _ => S1_step h xs k))
  have HA := Lib.hid (sumW_ar w p x n cap)
  have HB := Lib.hid hB0
  have H := Lib.hid h
  clear h hx hn hw hB0 hR hE2 hE3
  generalize Cd.S0 xs n % p = a at K1 ⊢
  generalize Cd.S1 xs n % p = b at K2 ⊢
  unfold sumW at HA HB K1 K2
  have f0 := fun q => (HA.out.draws q).fr 0
  have f1 := fun q => (HA.out.draws q).fr 1
  have k0 := fun q => (HA.out.draws q).c0
  have k1 := fun q => (HA.out.draws q).c1
  go_enter Try.func11, Try.ntmps11
  go_wp2_with (first
    | (go_at_call 21; refine (known_yes p _ H.out).mono ?_; rintro e w' ⟨rfl, rfl⟩)
    | (go_at_fn 25; refine (K1.out 0).mono ?_; rintro e w' ⟨rfl, n1, rfl⟩; clear K1)
    | (go_at_fn 25; refine (K2.out _).mono ?_; rintro e w' ⟨rfl, n2, rfl⟩))
  refine bodyPost_ret (results_ar rfl _ _ (w.heap.size + 1 + 1) _ _ rfl ((HA.out.draws _).set _ _)) rfl ?_
  exact ⟨rfl, below_set2 (below_draws HB.out _) (by omega) _ _⟩

/-- Sums, of whatever words. -/
theorem csums_any (p : Int) (x : Option Addr) (n cap : Nat) (xs : List Int) (w : World) (hx : Reads .u64 w w.heap.size x xs) (hn : xs.length = n) (hw : Words xs) :
    Calls Try.prog 11 #[.int .u64 p, .slice x n cap] w (RetAr w (Cd.sm0 p xs) (Cd.sm1 p xs) (Cd.smE p n)) := by
  subst hn
  cases h : Fp.kn p
  · have e : Cd.smE p xs.length = 2 := by unfold Cd.smE; rw [if_pos h]
    unfold Cd.sm0 Cd.sm1
    rw [e, if_neg (by decide), if_neg (by decide)]
    exact csums_no p x _ cap w h
  · by_cases h2 : 4096 < xs.length
    · have e : Cd.smE p xs.length = 1 := by unfold Cd.smE; rw [if_neg (by rw [h]; decide), if_pos h2]
      unfold Cd.sm0 Cd.sm1
      rw [e, if_neg (by decide), if_neg (by decide)]
      exact csums_many p x _ cap w h h2
    · have e : Cd.smE p xs.length = 0 := by unfold Cd.smE; rw [if_neg (by rw [h]; decide), if_neg h2]
      unfold Cd.sm0 Cd.sm1
      rw [e, if_pos rfl, if_pos rfl]
      exact csums_ok p x _ cap xs w h hx rfl (by omega) hw

end Go.Proofs.Ytpdiilfpbkmebaa
