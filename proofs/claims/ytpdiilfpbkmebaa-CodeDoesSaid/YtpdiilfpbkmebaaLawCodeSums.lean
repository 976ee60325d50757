/-
  The walk of CodeSums: sums of words go through, and of words times a number; one word changed by so much changes the first sum by it, and the second one by it, times its place.
-/
import Derived.Test.YtpdiilfpbkmebaaLawCodeOne
import Derived.Test.YtpdiilfpbkmebaaLate
import Derived.Deep.RegionWith
namespace Go.Proofs.Ytpdiilfpbkmebaa
open Go.RowKit

namespace Cd
theorem md_cong {p A A' : Int} (h : A % p = A' % p) (B : Int) : (A + B) % p = (A' + B) % p := by rw [← Int.emod_add_emod, h, Int.emod_add_emod]
theorem md_in {p A m t : Int} : (A + m * (t % p)) % p = (A + m * t) % p := by rw [Int.add_emod, Int.mul_emod, Int.emod_emod, ← Int.mul_emod, ← Int.add_emod]
/-- A word of one row, and one of the other times c. -/
def ln (p c : Int) (xs ys : List Int) (j : Nat) : Int := Fp.add p (xs.getD j 0) (Fp.mul p c (ys.getD j 0))
def lns (p c : Int) (xs ys : List Int) (n : Nat) : List Int := (List.range n).map (ln p c xs ys)
theorem lns_len (p c : Int) (xs ys : List Int) (n : Nat) : (lns p c xs ys n).length = n := by simp [lns]
theorem lns_get (p c : Int) (xs ys : List Int) {n j : Nat} (h : j < n) : (lns p c xs ys n).getD j 0 = ln p c xs ys j := by simp [lns, h]
theorem lns_words (p c : Int) (xs ys : List Int) (n : Nat) : Words (lns p c xs ys n) := fun j => by
  by_cases h : j < n
  · rw [lns_get _ _ _ _ h]
    have := Fp.add_bd p (xs.getD j 0) (Fp.mul p c (ys.getD j 0))
    unfold ln; omega
  · rw [List.getD_eq_getElem?_getD, List.getElem?_eq_none (by rw [lns_len]; omega)]; simp
theorem S0_lns {p : Int} (hp : Fp.kn p = true) (c : Int) (xs ys : List Int) (n : Nat) : ∀ k, k ≤ n → S0 (lns p c xs ys n) k % p = (S0 xs k + c * S0 ys k) % p
  | 0, _ => by simp [S0]
  | k + 1, h => by
    rw [S0, S0, S0, lns_get _ _ _ _ (by omega), md_cong (S0_lns hp c xs ys n k (by omega))]
    unfold ln Fp.add Fp.mul
    rw [if_pos hp, if_pos hp, Int.add_emod_emod, ← Int.add_assoc, Int.add_emod_emod, Int.mul_add]
    congr 1; omega
theorem S1_lns {p : Int} (hp : Fp.kn p = true) (c : Int) (xs ys : List Int) (n : Nat) : ∀ k, k ≤ n → S1 (lns p c xs ys n) k % p = (S1 xs k + c * S1 ys k) % p
  | 0, _ => by simp [S1]
  | k + 1, h => by
    rw [S1, S1, S1, lns_get _ _ _ _ (by omega), md_cong (S1_lns hp c xs ys n k (by omega))]
    unfold ln Fp.add Fp.mul
    rw [if_pos hp, if_pos hp, md_in]
    have e : (S1 xs k + c * S1 ys k + ((k : Int) + 1) * (xs.getD k 0 + c * ys.getD k 0 % p)) % p = (S1 xs k + c * S1 ys k + ((k : Int) + 1) * xs.getD k 0 + ((k : Int) + 1) * (c * ys.getD k 0 % p)) % p := by rw [Int.mul_add, ← Int.add_assoc]
    rw [e, md_in]
    congr 1
    grind
theorem s0_lns {p : Int} (hp : Fp.kn p = true) (c : Int) {xs ys : List Int} {n : Nat} (hx : xs.length = n) (hy : ys.length = n) : s0 p (lns p c xs ys n) = Fp.add p (s0 p xs) (Fp.mul p c (s0 p ys)) := by
  unfold s0
  rw [lns_len, hx, hy, S0_lns hp c xs ys n n (Nat.le_refl _)]
  unfold Fp.add Fp.mul
  rw [if_pos hp, if_pos hp, Fp.mul_mdr, Int.emod_add_emod, Int.add_emod_emod]
theorem s1_lns {p : Int} (hp : Fp.kn p = true) (c : Int) {xs ys : List Int} {n : Nat} (hx : xs.length = n) (hy : ys.length = n) : s1 p (lns p c xs ys n) = Fp.add p (s1 p xs) (Fp.mul p c (s1 p ys)) := by
  unfold s1
  rw [lns_len, hx, hy, S1_lns hp c xs ys n n (Nat.le_refl _)]
  unfold Fp.add Fp.mul
  rw [if_pos hp, if_pos hp, Fp.mul_mdr, Int.emod_add_emod, Int.add_emod_emod]
/-- One word changed by c. -/
theorem s0_more {p : Int} (hp : Fp.kn p = true) (c : Int) {xs : List Int} {k : Nat} (hk : k < xs.length) : s0 p (xs.set k (Fp.add p (xs.getD k 0) c)) = Fp.add p (s0 p xs) c := by
  unfold s0
  rw [List.length_set, S0_set xs k _ hk, if_pos hk]
  unfold Fp.add
  rw [if_pos hp, if_pos hp, Int.emod_add_emod]
  have e : S0 xs xs.length + ((xs.getD k 0 + c) % p - xs.getD k 0) = (S0 xs xs.length - xs.getD k 0) + (xs.getD k 0 + c) % p := by omega
  rw [e, Int.add_emod_emod]
  congr 1; omega
theorem s1_more {p : Int} (hp : Fp.kn p = true) (c : Int) {xs : List Int} {k : Nat} (hk : k < xs.length) : s1 p (xs.set k (Fp.add p (xs.getD k 0) c)) = Fp.add p (s1 p xs) (Fp.mul p c ((k : Int) + 1)) := by
  unfold s1
  rw [List.length_set, S1_set xs k _ hk, if_pos hk]
  unfold Fp.add Fp.mul
  rw [if_pos hp, if_pos hp, if_pos hp, Int.emod_add_emod, Int.add_emod_emod, Int.mul_sub]
  have e : S1 xs xs.length + (((k : Int) + 1) * ((xs.getD k 0 + c) % p) - ((k : Int) + 1) * xs.getD k 0) = (S1 xs xs.length - ((k : Int) + 1) * xs.getD k 0) + ((k : Int) + 1) * ((xs.getD k 0 + c) % p) := by omega
  rw [e, md_in, Int.mul_add, Int.mul_comm c]
  congr 1; omega
end Cd

theorem csums_kn (p : Int) (x : Option Addr) (n cap : Nat) (xs : List Int) (w : World) (hk : Fp.kn p = true) (hl : n ≤ 4096) (hx : Reads .u64 w w.heap.size x xs) (hn : xs.length = n) (hw : Words xs) :
    Calls Try.prog 11 #[.int .u64 p, .slice x n cap] w (RetAr w (Cd.s0 p xs) (Cd.s1 p xs) 0) := by
  have h := csums_any p x n cap xs w hx hn hw
  have e0 : Cd.smE p n = 0 := by unfold Cd.smE; rw [if_neg (by rw [hk]; decide), if_neg (by omega)]
  have e2 : Cd.sm0 p xs = Cd.s0 p xs := by unfold Cd.sm0; rw [hn, if_pos e0]
  have e3 : Cd.sm1 p xs = Cd.s1 p xs := by unfold Cd.sm1; rw [hn, if_pos e0]
  rw [e0, e2, e3] at h
  exact h
theorem neq_itself (a : Int) : (a != a) = false := by simp
theorem eql_itself (a : Int) : (a == a) = true := by simp

set_option maxRecDepth 100000 in
set_option maxHeartbeats 32000000 in
theorem sums14_main (p : Int) (x : Option Addr) (n cap : Nat) (xs : List Int) (y : Option Addr) (cap' : Nat) (ys : List Int) (c : Int) (A : Nat) (w : World) (hx : Reads .u64 w w.heap.size x xs) (hs : Src .u64 w x n cap xs) (hw : Words xs) (hy : Reads .u64 w w.heap.size y ys) (hm : ys.length = n) (hw' : Words ys)
    (h40 : n ≤ 40) (hk : Fp.kn p = true) (c0 : 0 ≤ c) (c1 : c < 18446744073709551616) (hA : A < 65536) :
    Calls Try.prog 8 #[.int .u64 p, .slice x n cap, .slice y n cap', .int .u64 c, .int .u16 (A : Int)] w fun e w' => e = .returned (.bool true) ∧ Below w.heap.size w w' := by
  have hn := hs.1
  have HV := Lib.hid (live14_any w)
  have hmx : Try.prog.follows .mixedOrders = true := by kernel_rfl
  obtain ⟨i0, hi, hz0, hz1, hz2⟩ := info_parts info_u64
  have d1 : decide ((40 : Int) < (n : Int)) = false := by simp; omega
  have hnn : ((n : Int) != (n : Int)) = false := neq_itself _
  have K1 := Lib.hid (fun W (hW : Below w.heap.size w W) => csums_kn p x n cap xs W hk (by omega) (hx.later hW) hn hw)
  have K2 := Lib.hid (fun W (hW : Below w.heap.size w W) => csums_kn p y n cap' ys W hk (by omega) (hy.later hW) hm hw')
  have K3 := Lib.hid (fun W z c3 (hr : Reads .u64 W W.heap.size z (Cd.lns p c xs ys n)) => csums_kn p z n c3 (Cd.lns p c xs ys n) W hk (by omega) hr (Cd.lns_len _ _ _ _ _) (Cd.lns_words _ _ _ _ _))
  rw [Cd.s0_lns hk c hn hm, Cd.s1_lns hk c hn hm] at K3
  have K4 := Lib.hid (fun k (hkn : k < n) W z c3 (hr : Reads .u64 W W.heap.size z (xs.set k (Fp.add p (xs.getD k 0) c))) => by
    have := csums_kn p z n c3 (xs.set k (Fp.add p (xs.getD k 0) c)) W hk (by omega) hr (by rw [List.length_set]; exact hn) (Words.put hw k (Fp.add_bd p (xs.getD k 0) c).1 (by have := Fp.add_bd p (xs.getD k 0) c; omega))
    rw [Cd.s0_more hk c (by rw [hn]; exact hkn), Cd.s1_more hk c (by rw [hn]; exact hkn)] at this
    exact this)
  obtain ⟨a00, a01⟩ : 0 ≤ Cd.s0 p xs ∧ Cd.s0 p xs < 18446744073709551616 := md_word hk _
  obtain ⟨a10, a11⟩ : 0 ≤ Cd.s1 p xs ∧ Cd.s1 p xs < 18446744073709551616 := md_word hk _
  obtain ⟨b00, b01⟩ : 0 ≤ Cd.s0 p ys ∧ Cd.s0 p ys < 18446744073709551616 := md_word hk _
  obtain ⟨b10, b11⟩ : 0 ≤ Cd.s1 p ys ∧ Cd.s1 p ys < 18446744073709551616 := md_word hk _
  have HZ : Hid (n = 0 → Cd.s0 p xs = 0 ∧ Cd.s1 p xs = 0 ∧ Cd.s0 p ys = 0 ∧ Cd.s1 p ys = 0) := Lib.hid (fun e => by
    obtain rfl : xs = [] := List.length_eq_zero_iff.1 (by omega)
    obtain rfl : ys = [] := List.length_eq_zero_iff.1 (by omega)
    exact ⟨by simp [Cd.s0, Cd.S0], by simp [Cd.s1, Cd.S1], by simp [Cd.s0, Cd.S0], by simp [Cd.s1, Cd.S1]⟩)
  generalize Cd.s0 p xs = a0 at *
  generalize Cd.s1 p xs = a1 at *
  generalize Cd.s0 p ys = b0 at *
  generalize Cd.s1 p ys = b1 at *
  have HX := Lib.hid hx
  have HY := Lib.hid hy
  have HSX := Lib.hid (fun W (hW : Below w.heap.size w W) => hs.keep hW)
  have HW := Lib.hid hw
  have HW' := Lib.hid hw'
  have HN := Lib.hid hn
  have HM := Lib.hid hm
  have HK := Lib.hid hk
  have HLL := Lib.hid (Cd.lns_len p c xs ys)
  have HLS : Hid (∀ k, Cd.lns p c xs ys (k + 1) = Cd.lns p c xs ys k ++ [Cd.ln p c xs ys k]) := Lib.hid (fun k => range_snoc _ _)
  have HL0 : Hid (Cd.lns p c xs ys 0 = []) := Lib.hid rfl
  have HDL : Hid (∀ k, Cd.ln p c xs ys k = Fp.add p (xs.getD k 0) (Fp.mul p c (ys.getD k 0))) := Lib.hid (fun _ => rfl)
  unfold RetAr arV at K1 K2 K3 K4
  clear hx hy hw hw' hn hm hs hk
  generalize Cd.lns p c xs ys = L at K3 HLL HLS HL0
  generalize Cd.ln p c xs ys = l at HLS HDL
  go_enter Try.func8, Try.ntmps8
  go_wp2_with (first
    | (go_at_call 10; refine HV.out.mono ?_; rintro e w1 ⟨rfl, hb1⟩; have B1 := Lib.hid hb1; clear hb1 HV)
    | (go_at_call 21; refine (known_yes p _ HK.out).mono ?_; rintro e w' ⟨rfl, rfl⟩))
  go_loopw [11, 43] (fun v i wr => ∃ (k : Nat) (o : Value), k ≤ n ∧ i = .int .i64 (k : Int) ∧ o = v ∧ Hid (Owns .u64 22 wr w1.heap.size o (L k) ∧ Below w1.heap.size w1 wr)) (fun _ i _ => n - (intOf i).toNat)
  case atStart => exact ⟨0, _, Nat.zero_le _, rfl, rfl, Lib.hid ⟨by rw [HL0.out]; exact Owns.nil, Below.refl _ _⟩⟩
  case round =>
    obtain ⟨k, o, hk, rfl, rfl, HI⟩ := hrel
    by_cases hlt : k < n
    · have hdk : decide (k < n) = true := by simpa using hlt
      have hBw := below_on' B1.out HI.out.2
      obtain ⟨b, off, rfl, hb, hcx⟩ := HX.out (by have := HN.out; omega)
      obtain ⟨b', off', rfl, hb', hcy⟩ := HY.out (by have := HM.out; omega)
      have hx1 := (hBw.cell (p := ⟨b, off + k, none⟩) hb).trans (hcx k (by have := HN.out; omega))
      have hy1 := (hBw.cell (p := ⟨b', off' + k, none⟩) hb').trans (hcy k (by have := HM.out; omega))
      obtain ⟨u0, u1⟩ := HW.out k
      obtain ⟨v0, v1⟩ := HW'.out k
      have hD := HDL.out k
      obtain ⟨u, hu⟩ : ∃ u, u = xs.getD k 0 := ⟨_, rfl⟩
      obtain ⟨v, hv⟩ : ∃ v, v = ys.getD k 0 := ⟨_, rfl⟩
      rw [← hu] at hx1 u0 u1 hD
      rw [← hv] at hy1 v0 v1 hD
      have HD := Lib.hid hD
      obtain ⟨m0, m1, -⟩ := Fp.mul_bd p c v
      have HLk := Lib.hid (HLL.out k)
      have HB := Lib.hid HI.out.2
      have HO := Lib.hid HI.out.1
      clear hcx hcy hu hv hD hBw HI
      go_wp2
      refine region_late (l1 := [_, _, _, _, _, _, _, _, _, _, _, _, _]) o (.slice (some ⟨wr.heap.size, 0, none⟩) 1 1) (.cells #[.int .u64 (Fp.add p u (Fp.mul p c v))] 22) hmx (by kernel_rfl) (by kernel_rfl) ?_ ?_ ?_
      · intro k; go_simp
      · intro k; go_simp
      simp only [List.cons_append, List.nil_append, Act.put, List.setIfInBounds_toArray, List.set_cons_succ, List.set_cons_zero]
      repeat (go_big_quiet_step (first
        | (go_at_call 24; exact Calls.quiet_of (mul_any _ _ _ _ (by omega) (by omega) (by omega) (by omega)))
        | (go_at_call 23; exact Calls.quiet_of (add_any _ _ _ _ (by omega) (by omega) (by omega) (by omega)))))
      refine wpQuiet_nil ?_
      refine ⟨by kernel_rfl, fun k => ?_, fun nq => ?_⟩
      · go_simp
      have hsw : Hid (w1.heap.size ≤ wr.heap.size) := Lib.hid HB.out.size
      go_wp2_with (at_builtin; refine wpList_append_num rfl _ _ 23 rfl w1.heap.size 22 i0 .u64 8 Try.underlying23 hi hz0 hz1 hz2 o _ rfl ((HO.out.draws nq).still fun g e => Below.heap_alloc _ _ _ ((HO.out.draws nq).inside e).2) ⟨wr.heap.size, 0, none⟩ 1 1 [Fp.add p u (Fp.mul p c v)] rfl (src_one (wr.drewN nq) .u64 22 _) (by omega) (by rw [HLk.out]; unfold maxLen; omega) (by rw [HLk.out]; omega) (by have := hsw.out; simp; omega) ?_; intro v' w6 hO6 hg6 hat6)
      have H6 : Hid (Owns .u64 22 w6 w1.heap.size v' (L (k + 1)) ∧ Below w1.heap.size w1 w6) := Lib.hid ⟨by rw [HLS.out, HD.out]; exact hO6, (below_al (below_draws HB.out nq) _).grown hg6 (by have := hsw.out; simp; omega) (fun g e => HO.out.ownBlock g e)⟩
      clear hO6 hg6 hat6
      go_roundw
      case rel => exact ⟨k + 1, v', by omega, by go_num, rfl, H6⟩
      case measure => simp [intOf]; omega
    · obtain rfl : k = n := by omega
      obtain ⟨z, kz, hzv, -, -, hrz, -⟩ := HI.out.1.form
      rw [HLL.out] at hzv
      subst hzv
      have RZ := Lib.hid hrz
      have BR := Lib.hid (below_on' B1.out HI.out.2)
      obtain ⟨m00, m01, -⟩ := Fp.mul_bd p c b0
      obtain ⟨m10, m11, -⟩ := Fp.mul_bd p c b1
      have q0 := neq_itself (Fp.add p a0 (Fp.mul p c b0))
      have q1 := neq_itself (Fp.add p a1 (Fp.mul p c b1))
      clear hrz HI
      go_wp2_with (first
        | (go_at_call_of 11 (Value.slice x k cap); refine (K1.out _ BR.out).mono ?_; rintro e wa ⟨rfl, hB⟩; have Ba := Lib.hid (below_al hB (.cells #[.int .u64 a0, .int .u64 a1] 25)); have A13a := Lib.hid (Ar.new wa a0 a1); clear hB K1)
        | (go_at_call_of 11 (Value.slice y k cap'); refine (K2.out _ (below_on' BR.out Ba.out)).mono ?_; rintro e wb ⟨rfl, hB⟩; have hBb := below_al hB (.cells #[.int .u64 b0, .int .u64 b1] 25); have A13b := Lib.hid (A13a.out.then hBb); have A15b := Lib.hid (Ar.new wb b0 b1); have Bb := Lib.hid (below_on' Ba.out hBb); clear hB hBb K2 A13a Ba)
        | (go_at_call 11; refine (K3.out _ _ _ (RZ.out.later Bb.out)).mono ?_; rintro e wc ⟨rfl, hB⟩; have hBc := below_al hB (.cells #[.int .u64 (Fp.add p a0 (Fp.mul p c b0)), .int .u64 (Fp.add p a1 (Fp.mul p c b1))] 25); have A13 := Lib.hid (A13b.out.then hBc); have A15 := Lib.hid (A15b.out.then hBc); have A17 := Lib.hid (Ar.new wc (Fp.add p a0 (Fp.mul p c b0)) (Fp.add p a1 (Fp.mul p c b1))); have Bc := Lib.hid (below_on' BR.out (below_on' Bb.out hBc)); clear hB hBc K3 A13b A15b Bb))
      obtain ⟨wd, hwd⟩ : ∃ wd, wd = wc.alloc (.cells #[.int .u64 (Fp.add p a0 (Fp.mul p c b0)), .int .u64 (Fp.add p a1 (Fp.mul p c b1))] 25) := ⟨_, rfl⟩
      rw [← hwd] at A13 A15 A17 Bc ⊢
      clear hwd BR
      go_loopw [91] (fun i wr => ∃ t q : Nat, t ≤ 2 ∧ i = .int .i64 (t : Int) ∧ wr = wd.drewN q) (fun i _ => 2 - (intOf i).toNat)
      case atStart => exact ⟨0, 0, by omega, rfl, rfl⟩
      case round =>
        obtain ⟨t, q, ht, rfl, rfl⟩ := hrel
        obtain rfl | rfl | rfl : t = 0 ∨ t = 1 ∨ t = 2 := by omega
        · have j0 := A13.out.c0
          have j1 := A15.out.c0
          have j2 := A17.out.c0
          go_wp2
          go_quiet (first
            | (go_at_call 24; exact quiet_more (mul_any _ _ _ _ (by omega) (by omega) (by omega) (by omega)))
            | (go_at_call 23; exact quiet_more (add_any _ _ _ _ (by omega) (by omega) (by omega) (by omega))))
          go_wp2
          go_roundw
          case rel => exact ⟨1, _, by omega, by go_num, rfl⟩
          case measure => simp [intOf]
        · have j0 := A13.out.c1
          have j1 := A15.out.c1
          have j2 := A17.out.c1
          go_wp2
          go_quiet (first
            | (go_at_call 24; exact quiet_more (mul_any _ _ _ _ (by omega) (by omega) (by omega) (by omega)))
            | (go_at_call 23; exact quiet_more (add_any _ _ _ _ (by omega) (by omega) (by omega) (by omega))))
          go_wp2
          go_roundw
          case rel => exact ⟨2, _, by omega, by go_num, rfl⟩
          case measure => simp [intOf]
        · by_cases hk0 : k = 0
          · have hz0' : ((k : Int) == 0) = true := by rw [beq_iff_eq]; omega
            obtain ⟨y1, y2, y3, y4⟩ := HZ.out hk0
            have hq := fun W => eql_ar (Fp.add p a0 (Fp.mul p c b0)) (Fp.add p a1 (Fp.mul p c b1)) 0 0 W
            have e1 : Fp.add p a0 (Fp.mul p c b0) = 0 := by rw [y1, y3]; unfold Fp.add Fp.mul; rw [if_pos HK.out, if_pos HK.out]; simp
            have e2 : Fp.add p a1 (Fp.mul p c b1) = 0 := by rw [y2, y4]; unfold Fp.add Fp.mul; rw [if_pos HK.out, if_pos HK.out]; simp
            rw [e1, e2] at A17 hq
            have j0 := A17.out.c0
            have j1 := A17.out.c1
            have hqt : (decide ((0 : Int) = 0) && decide ((0 : Int) = 0)) = true := by decide
            rw [hqt] at hq
            unfold arV at hq
            clear hk0 y1 y2 y3 y4 e1 e2 hqt
            go_wp2
            go_ret
            exact ⟨rfl, below_draws Bc.out _⟩
          · have hz0' : ((k : Int) == 0) = false := by rw [beq_eq_false_iff_ne]; omega
            have hkz : (k : Int) ≠ 0 := by omega
            obtain ⟨t, htd⟩ : ∃ t : Nat, t = A % k := ⟨_, rfl⟩
            have hta : (A : Int) % (k : Int) = (t : Int) := by rw [htd, ← cast_mod]
            have htk : t < k := by rw [htd]; exact Nat.mod_lt _ (by omega)
            obtain ⟨b, off, rfl, hb, hcx⟩ := HX.out (by have := HN.out; omega)
            have hx1 := (Bc.out.cell (p := ⟨b, off + t, none⟩) hb).trans (hcx t (by have := HN.out; omega))
            have hbd : b < wd.heap.size := by have := Bc.out.size; omega
            obtain ⟨u0, u1⟩ := HW.out t
            have K5 := Lib.hid (K4.out t htk)
            obtain ⟨u, hu⟩ : ∃ u, u = xs.getD t 0 := ⟨_, rfl⟩
            rw [← hu] at hx1 u0 u1 K5
            obtain ⟨m20, m21, -⟩ := Fp.mul_bd p c ((t : Int) + 1)
            have j0 := eql_itself (Fp.add p a0 c)
            have j1 := eql_itself (Fp.add p a1 (Fp.mul p c ((t : Int) + 1)))
            have S4 := Lib.hid (HSX.out (wd.drewN q) (below_draws Bc.out q))
            have hk40 : k ≤ 40 := h40
            clear hcx hu htd hk0 K4 q0 q1
            go_wp2_with (first
              | (at_builtin; refine wpList_copy_new rfl _ _ 23 rfl 22 i0 .u64 8 Try.underlying23 hi hz0 hz1 hz2 _ k cap xs rfl rfl S4.out (by unfold maxLen; omega) (by omega) ?_; intro v3 w3 hO hB; obtain ⟨x3, c3, rfl, hc3, hm3, -, hf3⟩ := hO.form; rw [HN.out] at hO hc3 hf3 ⊢; obtain ⟨g3, rfl, hg3, -⟩ := hf3 (by omega); have ho3 := hO.num HN.out htk; have z1 := hO.melt HN.out t; have hx3 := (hB.cell (p := ⟨b, off + t, none⟩) hbd).trans hx1; have O3 := Lib.hid hO; have B3 := Lib.hid hB; have G3 := Lib.hid hg3; clear hO hB hf3 hc3 hm3 hg3)
              | (go_at_call 23; refine (add_any _ _ _ _ (by omega) (by omega) (by omega) (by omega)).mono ?_; rintro e w4 ⟨rfl, nq, rfl⟩; have O4 := Lib.hid ((O3.out.draws nq).put HN.out t (Fp.add p u c)); have B4 := Lib.hid ((below_draws B3.out nq).setCell (p := ⟨g3, t, none⟩) G3.out (.int .u64 (Fp.add p u c))))
              | (go_at_call 11; refine (K5.out _ _ _ O4.out.rd).mono ?_; rintro e we ⟨rfl, hB⟩; have hBe := below_al hB (.cells #[.int .u64 (Fp.add p a0 c), .int .u64 (Fp.add p a1 (Fp.mul p c ((t : Int) + 1)))] 25); have Be := Lib.hid (below_on' B4.out hBe); have A22 := Ar.new we (Fp.add p a0 c) (Fp.add p a1 (Fp.mul p c ((t : Int) + 1))); have A13e := (A13.out.draws q).then (below_on' B4.out hBe); have k0 := A22.c0; have k1 := A22.c1; have k2 := A13e.c0; have k3 := A13e.c1; clear hB hBe A22 A13e))
            go_quiet (first
              | (go_at_call 24; exact Calls.quiet_of (mul_any _ _ _ _ (by omega) (by omega) (by omega) (by omega)))
              | (go_at_call 23; exact Calls.quiet_of (add_any _ _ _ _ (by omega) (by omega) (by omega) (by omega))))
            go_wp2
            go_ret
            exact ⟨rfl, below_draws (below_on' (below_draws Bc.out q) Be.out) _⟩

set_option maxRecDepth 100000 in
set_option maxHeartbeats 2000000 in
theorem walk_CodeSums (p : Int) (x : Option Addr) (n cap : Nat) (zs : List Int) (y : Option Addr) (m cap' : Nat) (zs' : List Int) (c a : Int) (w : World) (_hp : (Lit.int .u64 p).wf = true) (r : RowIn .u64 w x n cap zs) (r' : RowIn .u64 w y m cap' zs') (hc : (Lit.int .u64 c).wf = true) (ha : (Lit.int .u16 a).wf = true) :
    Calls Try.prog 8 #[.int .u64 p, .slice x n cap, .slice y m cap', .int .u64 c, .int .u16 a] w fun e w' => e = .returned (.bool true) ∧ Below w.heap.size w w' := by
  obtain ⟨xs, hxs, hn, -, -, hx, hw⟩ := r.reads
  obtain ⟨ys, -, hm, -, -, hy, hw'⟩ := r'.reads
  have hs := r.src
  rw [← hxs] at hs
  have hcb := bounds_u64 hc
  have hab := bounds_u16 ha
  have HV := Lib.hid (live14_any w)
  by_cases h : n ≤ 40
  · have d1 : decide ((40 : Int) < (n : Int)) = false := by simp; omega
    by_cases hnm : n = m
    · subst hnm
      have hnn : ((n : Int) != (n : Int)) = false := neq_itself _
      cases hk : Fp.kn p
      · have HK := Lib.hid hk
        clear r r' hx hy hw hw' hs hm hn hc ha hcb hab hk hxs
        go_enter Try.func8, Try.ntmps8
        go_wp2_with (first
          | (go_at_call 10; refine HV.out.mono ?_; rintro e w1 ⟨rfl, hb1⟩)
          | (go_at_call 21; refine (known_no p _ HK.out).mono ?_; rintro e w' ⟨rfl, rfl⟩))
        go_ret
        exact ⟨rfl, hb1⟩
      · obtain ⟨A, rfl⟩ := Int.eq_ofNat_of_zero_le (show 0 ≤ a by omega)
        exact sums14_main p x n cap xs y cap' ys c A w hx hs hw hy hm hw' h hk (by omega) (by omega) (by omega)
    · have hnn : ((n : Int) != (m : Int)) = true := by rw [bne_iff_ne]; omega
      clear r r' hx hy hw hw' hs hm hn hc ha hcb hab hxs
      go_enter Try.func8, Try.ntmps8
      go_wp2_with (go_at_call 10; refine HV.out.mono ?_; rintro e w1 ⟨rfl, hb1⟩)
      go_ret
      exact ⟨rfl, hb1⟩
  · have d1 : decide ((40 : Int) < (n : Int)) = true := by simp; omega
    clear r r' hx hy hw hw' hs hm hn hc ha hcb hab hxs
    go_enter Try.func8, Try.ntmps8
    go_wp2_with (go_at_call 10; refine HV.out.mono ?_; rintro e w1 ⟨rfl, hb1⟩)
    go_ret
    exact ⟨rfl, hb1⟩

end Go.Proofs.Ytpdiilfpbkmebaa
