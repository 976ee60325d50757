/-
  What the document's answers of layer 8 (brackenref08: Eval, Sum, Roots) come to, over every input: the same numbers as the program's.
-/
import Derived.Test.YtancfpekiecoiaaGeomRoots
import Derived.Test.YtancfpekiecoiaaGeomSum
import Derived.Test.YtancfpekiecoiaaRows2

namespace Go.Proofs.Ytancfpekiecoiaa
open Go.RowKit

set_option maxRecDepth 100000 in
set_option maxHeartbeats 1000000 in
theorem reval_yes (p r : Int) (x : Option Addr) (n cap : Nat) (xs : List Int) (w : World) (h : Fp.kn p = true) (hx : Reads .u64 w w.heap.size x xs) (hn : xs.length = n) (hw : Words xs) (hl : n ≤ 65536) (r0 : 0 ≤ r) (r1 : r < 18446744073709551616) :
    Calls Try.prog 11 #[.int .u64 p, .slice x n cap, .int .u64 r] w (RetQ (.tuple #[.int .u64 (Fp.ev p xs r), .int .i64 0]) w) := by
  have hd1 : decide (65536 < (n : Int)) = false := by simp; omega
  have HS := Lib.hid (fun k => Fp.evk_succ h xs r k)
  have HP := Lib.hid (fun k => Fp.pw_succ p r k)
  have HZ := Lib.hid (Fp.evk_zero h xs r)
  have HO : Hid (Fp.pw p r 0 = 1) := Lib.hid (by rw [Fp.pw_zero, Fp.red_one h])
  have HA : Hid (Fp.evk p xs r n = Fp.ev p xs r) := Lib.hid (by rw [← hn]; exact Fp.evk_all p xs r)
  have H := Lib.hid h
  have HX := Lib.hid hx
  have HW := Lib.hid hw
  have HN := Lib.hid hn
  clear h hx hw hn
  go_enter Try.func11, Try.ntmps11
  go_wp2_with (go_at_call 22; refine (rknown_yes p _ H.out).mono ?_; rintro e w' ⟨rfl, rfl⟩)
  go_loopw [8, 9, 20] (fun s q i wr => ∃ k d : Nat, k ≤ n ∧ i = .int .i64 (k : Int) ∧ s = .int .u64 (Fp.evk p xs r k) ∧ q = .int .u64 (Fp.pw p r k) ∧ wr = w.drewN d) (fun _ _ i _ => n - (intOf i).toNat)
  case atStart => exact ⟨0, 0, Nat.zero_le _, rfl, by rw [HZ.out], by rw [HO.out], rfl⟩
  case round =>
    obtain ⟨k, d, hk, rfl, rfl, rfl, rfl⟩ := hrel
    obtain ⟨s0, s1, -⟩ := Fp.evk_bd p xs r k
    obtain ⟨q0, q1, -⟩ := Fp.pw_bd p r k
    by_cases hlt : k < n
    · obtain ⟨b, off, rfl, hb, hcx⟩ := HX.out (by have := HN.out; omega)
      have hx1 := hcx k (by have := HN.out; omega)
      obtain ⟨u0, u1⟩ := HW.out k
      have hS := HS.out k
      obtain ⟨u, hu⟩ : ∃ u, u = xs.getD k 0 := ⟨_, rfl⟩
      rw [← hu] at hx1 u0 u1 hS
      have HS' := Lib.hid hS
      have HP' := Lib.hid (HP.out k)
      obtain ⟨m0, m1, -⟩ := Fp.mul_bd p u (Fp.pw p r k)
      clear hcx hu hS
      go_wp2_with (first
        | (go_at_call 25; refine (rmul_any _ _ _ _ (by omega) (by omega) (by omega) (by omega)).mono ?_; rintro e w' ⟨rfl, rfl⟩)
        | (go_at_call 24; refine (radd_any _ _ _ _ (by omega) (by omega) (by omega) (by omega)).mono ?_; rintro e w' ⟨rfl, nd, rfl⟩))
      go_roundw
      case rel => exact ⟨k + 1, _, by omega, by go_num, by rw [HS'.out], by rw [HP'.out], rfl⟩
      case measure => simp [intOf]; omega
    · obtain rfl : k = n := by omega
      have hR : RetQ (.tuple #[.int .u64 (Fp.ev p xs r), .int .i64 0]) w (.returned (.tuple #[.int .u64 (Fp.evk p xs r k), .int .i64 0])) (w.drewN d) := ⟨by rw [HA.out], _, rfl⟩
      clear HS HP HX
      go_wp2
      go_ret2
      exact hR

set_option maxRecDepth 100000 in
set_option maxHeartbeats 1000000 in
theorem reval_any (p r : Int) (x : Option Addr) (n cap : Nat) (xs : List Int) (w : World) (hx : Reads .u64 w w.heap.size x xs) (hn : xs.length = n) (hw : Words xs) (hl : n ≤ 140737488355328) (r0 : 0 ≤ r) (r1 : r < 18446744073709551616) :
    Calls Try.prog 11 #[.int .u64 p, .slice x n cap, .int .u64 r] w (RetQ (.tuple #[.int .u64 (evalN p xs r), .int .i64 (evalE p n)]) w) := by
  subst hn
  cases h : Fp.kn p
  · rw [evalN_no (by rw [evalE_no h]; decide), evalE_no h]
    have H := Lib.hid h
    clear h hx hw
    go_enter Try.func11, Try.ntmps11
    go_wp2_with (go_at_call 22; refine (rknown_no p _ H.out).mono ?_; rintro e w' ⟨rfl, rfl⟩)
    go_ret2
    exact ⟨rfl, 0, rfl⟩
  · by_cases hb : 65536 < xs.length
    · rw [evalN_no (by rw [evalE_bad h hb]; decide), evalE_bad h hb]
      have H := Lib.hid h
      have hd : decide (65536 < (xs.length : Int)) = true := by simp; omega
      clear h hx hw
      go_enter Try.func11, Try.ntmps11
      go_wp2_with (go_at_call 22; refine (rknown_yes p _ H.out).mono ?_; rintro e w' ⟨rfl, rfl⟩)
      go_ret2
      exact ⟨rfl, 0, rfl⟩
    · have hE := evalE_ok (n := xs.length) h (by omega)
      rw [evalN_ok hE, hE]
      exact reval_yes p r x _ cap xs w h hx rfl hw (by omega) r0 r1

theorem words_ones (n : Nat) : Words ((List.range n).map fun _ => 1) := fun j => by
  by_cases h : j < n
  · simp [h]
  · simp [h]
theorem ev_ones (p r : Int) (n : Nat) : Fp.ev p ((List.range n).map fun _ => 1) r = Fp.gsum p r n := by
  unfold Fp.ev Fp.gsum Fp.gs
  rw [Fp.hn_range]
  congr 1
  exact Fp.sum_congr fun j _ => Int.one_mul _

set_option maxRecDepth 100000 in
set_option maxHeartbeats 1000000 in
theorem rsum_yes (p z : Int) (n : Nat) (w : World) (h : Fp.kn p = true) (z0 : 0 ≤ z) (z1 : z < 18446744073709551616) (hn : n ≤ 65536) :
    Calls Try.prog 9 #[.int .u64 p, .int .u64 z, .int .i64 (n : Int)] w (RetB (.tuple #[.int .u64 (Fp.gsum p z n), .int .i64 0]) w) := by
  have HE := Lib.hid (fun W x cap (hr : Reads .u64 W W.heap.size x ((List.range n).map fun _ => 1)) => reval_yes p z x n cap _ W h hr (by simp) (words_ones n) hn z0 z1)
  rw [ev_ones] at HE
  have HLN : Hid (∀ k : Nat, ((List.range k).map fun _ => (1 : Int)).length = k) := Lib.hid (fun k => by simp)
  have H := Lib.hid h; clear h
  obtain ⟨i0, hi, hz0, hz1, hz2⟩ := info_parts info_u64
  go_enter Try.func9, Try.ntmps9
  go_wp2_with (go_at_call 22; refine (rknown_yes p _ H.out).mono ?_; rintro e w' ⟨rfl, rfl⟩)
  go_loopw [8, 19] (fun v i wr => ∃ (k : Nat) (o : Value), k ≤ n ∧ i = .int .i64 (k : Int) ∧ o = v ∧ Owns .u64 22 wr w.heap.size o ((List.range k).map fun _ => 1) ∧ Below w.heap.size w wr) (fun _ i _ => n - (intOf i).toNat)
  case atStart => exact ⟨0, _, Nat.zero_le _, rfl, rfl, Owns.nil, Below.refl _ _⟩
  case round =>
    obtain ⟨k, o, hk, rfl, rfl, hO, hB⟩ := hrel
    by_cases hlt : k < n
    · have hO' : Hid (wr.ownsRow w.heap.size 22 1 o ((List.range k).map fun _ => (1 : Int)).length (((List.range k).map fun _ => (1 : Int)).map (Value.int .u64))) := Lib.hid hO
      have HO := Lib.hid hO
      have HB := Lib.hid hB
      clear hO hB
      go_wp2_with (at_builtin; refine wpList_append_own _ rfl _ _ 23 rfl w.heap.size 22 i0 (.int .u64 0) 1 8 Try.underlying23 hi hz0 hz1 hz2 rfl (by decide) _ _ _ rfl (hO'.out.alloc _) ⟨wr.heap.size, 0, none⟩ 1 1 [.int .u64 1] rfl rfl (cell_one_new _ _ _) (one_int _ _) (by rw [HLN.out]; unfold maxLen; omega) (by rw [HLN.out]; omega) (by have := HB.out.size; simp; omega) ?_; intro v' w3 hown' hgrow3 hnil3)
      go_roundw
      case rel =>
        refine ⟨k + 1, v', by omega, by go_num, rfl, ?_, ?_⟩
        · rw [range_snoc (fun _ => 1)]; exact Owns.push hown'
        · exact (HB.out.alloc HB.out.size _).grown hgrow3 (Nat.le_trans HB.out.size (by simp)) HO.out.ownBlock
      case measure => simp [intOf]; omega
    · obtain rfl : k = n := by omega
      obtain ⟨y, cy, hy, -, -, hr, -⟩ := hO.form
      rw [HLN.out] at hy
      subst hy
      have HC := Lib.hid (HE.out wr y cy hr)
      have HB := Lib.hid hB
      clear hO hB hr HE hi hz0 hz1 hz2
      go_wp2_with (go_at_call 11; refine HC.out.mono ?_; rintro e w' ⟨rfl, nd, rfl⟩)
      go_ret2
      exact ⟨rfl, below_draws HB.out _⟩

set_option maxRecDepth 100000 in
set_option maxHeartbeats 1000000 in
theorem rsum_any (p z n : Int) (w : World) (z0 : 0 ≤ z) (z1 : z < 18446744073709551616) (n0 : -9223372036854775808 ≤ n) (n1 : n < 9223372036854775808) :
    Calls Try.prog 9 #[.int .u64 p, .int .u64 z, .int .i64 n] w (RetB (.tuple #[.int .u64 (sumN p z n), .int .i64 (sumE p n)]) w) := by
  cases h : Fp.kn p
  · rw [sumN_no (by rw [sumE_no h]; decide), sumE_no h]
    have H := Lib.hid h; clear h
    go_enter Try.func9, Try.ntmps9
    go_wp2_with (go_at_call 22; refine (rknown_no p _ H.out).mono ?_; rintro e w' ⟨rfl, rfl⟩)
    go_ret2
    exact ⟨rfl, Below.refl _ _⟩
  · by_cases hb : n < 0 ∨ 65536 < n
    · rw [sumN_no (by rw [sumE_bad h hb]; decide), sumE_bad h hb]
      have H := Lib.hid h; clear h
      by_cases h0 : n < 0
      · go_enter Try.func9, Try.ntmps9
        go_wp2_with (go_at_call 22; refine (rknown_yes p _ H.out).mono ?_; rintro e w' ⟨rfl, rfl⟩)
        go_ret2
        exact ⟨rfl, Below.refl _ _⟩
      · have h1 : 65536 < n := by omega
        clear hb
        go_enter Try.func9, Try.ntmps9
        go_wp2_with (go_at_call 22; refine (rknown_yes p _ H.out).mono ?_; rintro e w' ⟨rfl, rfl⟩)
        go_ret2
        exact ⟨rfl, Below.refl _ _⟩
    · have hE := sumE_ok (n := n) h (by omega) (by omega)
      rw [sumN_ok hE, hE]
      obtain ⟨m, rfl⟩ := Int.eq_ofNat_of_zero_le (by omega : 0 ≤ n)
      rw [show ((m : Int)).toNat = m from Int.toNat_natCast m]
      exact rsum_yes p z m w h z0 z1 (by omega)

/-- Is one of the first j seeds the one at place k, by p? -/
def metk (p : Int) (ss : List Int) (k j : Nat) : Bool := (List.range j).any fun i => Fp.red p (ss.getD i 0) == Fp.red p (ss.getD k 0)
theorem metk_succ (p : Int) (ss : List Int) (k j : Nat) : metk p ss k (j + 1) = (metk p ss k j || (Fp.red p (ss.getD j 0) == Fp.red p (ss.getD k 0))) := by
  unfold metk; rw [List.range_succ, List.any_append]; simp

set_option maxRecDepth 100000 in
set_option maxHeartbeats 2000000 in
theorem rroots_yes (p : Int) (x y : Option Addr) (n m cap cap' : Nat) (xs ss : List Int) (w : World) (h : Fp.kn p = true) (hx : Reads .u64 w w.heap.size x xs) (hy : Reads .u64 w w.heap.size y ss) (hn : xs.length = n) (hm : ss.length = m) (hw : Words xs) (hw' : Words ss) (hl : n ≤ 65536) (hl' : m ≤ 65536) (hc : m ≤ cap') :
    Calls Try.prog 13 #[.int .u64 p, .slice x n cap, .slice y m cap'] w (RetQ (.tuple #[.int .i64 (Fp.rts p xs ss m : Nat), .int .i64 0]) w) := by
  have hd1 : decide (65536 < (n : Int)) = false := by simp; omega
  have hd2 : decide (65536 < (m : Int)) = false := by simp; omega
  have HE := Lib.hid (fun d r (r0 : 0 ≤ r) (r1 : r < 18446744073709551616) => reval_yes p r x n cap xs (w.drewN d) h (hx.draws d) hn hw hl r0 r1)
  have H := Lib.hid h
  have HY := Lib.hid hy
  have HW := Lib.hid hw'
  have HM := Lib.hid hm
  have HR := Lib.hid (fun k => Fp.rts_succ p xs ss k)
  have HRL := Lib.hid (fun k => Fp.rts_le p xs ss k)
  clear h hx hy hw hw' hm hn
  go_enter Try.func13, Try.ntmps13
  go_wp2_with (go_at_call 22; refine (rknown_yes p _ H.out).mono ?_; rintro e w' ⟨rfl, rfl⟩)
  go_loopw [8, 29] (fun v i wr => ∃ k d : Nat, k ≤ m ∧ i = .int .i64 (k : Int) ∧ v = .int .i64 ((Fp.rts p xs ss k : Nat) : Int) ∧ wr = w.drewN d) (fun _ i _ => m - (intOf i).toNat)
  case atStart => exact ⟨0, 0, Nat.zero_le _, rfl, rfl, rfl⟩
  case round =>
    obtain ⟨k, d, hk, rfl, rfl, rfl⟩ := hrel
    have hkr := HRL.out k
    by_cases hlt : k < m
    · have hdk : decide (k < m) = true := by simpa using hlt
      obtain ⟨b, off, rfl, hb, hcy⟩ := HY.out (by have := HM.out; omega)
      have hy1 := hcy k (by have := HM.out; omega)
      obtain ⟨u0, u1⟩ := HW.out k
      have hR := HR.out k
      have hMK : ∀ j, metk p ss k (j + 1) = (metk p ss k j || (Fp.red p (ss.getD j 0) == Fp.red p (ss.getD k 0))) := metk_succ p ss k
      have HMT : Hid (metk p ss k k = Fp.met p ss k) := Lib.hid rfl
      obtain ⟨u, hu⟩ : ∃ u, u = ss.getD k 0 := ⟨_, rfl⟩
      rw [← hu] at hy1 u0 u1 hR hMK
      have HC := Lib.hid (fun d => HE.out d u u0 u1)
      have HCY := Lib.hid (fun j (hj : j < k) => hcy j (by have := HM.out; omega))
      have HMK := Lib.hid hMK
      have HR' := Lib.hid hR
      obtain ⟨c, hcc⟩ : ∃ c, c = Fp.rts p xs ss k := ⟨_, rfl⟩
      rw [← hcc] at HR' hkr
      simp only [← hcc]
      clear hcy hu hR hMK hcc
      go_wp2
      go_loop [11, 38] (fun t i => ∃ (j : Nat) (q : Bool), j ≤ k ∧ i = .int .i64 (j : Int) ∧ t = .bool q ∧ metk p ss k j = q) (fun _ i => k - (intOf i).toNat)
      case atStart => exact ⟨0, false, Nat.zero_le _, rfl, rfl, rfl⟩
      case round =>
        obtain ⟨j, q, hj, rfl, rfl, hq⟩ := hrel
        by_cases hltj : j < k
        · have hdj : decide (j < k) = true := by simpa using hltj
          have hy2 := HCY.out j hltj
          obtain ⟨v0, v1⟩ := HW.out j
          have hMK := HMK.out j
          obtain ⟨v, hv⟩ : ∃ v, v = ss.getD j 0 := ⟨_, rfl⟩
          rw [← hv] at hy2 v0 v1 hMK
          rw [hq] at hMK
          have HMJ := Lib.hid hMK
          clear hq hMK hv
          cases q with
          | true =>
            go_wp2
            go_round
            case rel => exact ⟨j + 1, true, by omega, by go_num, rfl, by rw [HMJ.out]; rfl⟩
            case measure => simp [intOf]; omega
          | false =>
            go_wp2_with (go_at_call 26; refine (rreduce_any _ _ _ (by omega) (by omega)).mono ?_; rintro e w' ⟨rfl, rfl⟩)
            go_round
            case rel => exact ⟨j + 1, _, by omega, by go_num, rfl, by rw [HMJ.out]; rfl⟩
            case measure => simp [intOf]; omega
        · obtain rfl : j = k := by omega
          have hq' : q = Fp.met p ss j := by rw [← hq]; exact HMT.out
          rw [← hq'] at HR'
          have HC' := Lib.hid (HC.out d)
          clear hq hq' HC HCY HMK HMT HY HE HR HRL hltj
          by_cases hz : Fp.ev p xs u = 0
          · rw [hz] at HC' HR'
            clear hz
            cases q with
            | true =>
              go_wp2_with (go_at_call 11; refine HC'.out.mono ?_; rintro e w' ⟨rfl, nd, rfl⟩)
              go_roundw
              case rel => exact ⟨j + 1, _, by omega, by go_num, by rw [HR'.out]; simp, rfl⟩
              case measure => simp [intOf]; omega
            | false =>
              go_wp2_with (go_at_call 11; refine HC'.out.mono ?_; rintro e w' ⟨rfl, nd, rfl⟩)
              go_roundw
              case rel => exact ⟨j + 1, _, by omega, by go_num, by rw [HR'.out]; simp, rfl⟩
              case measure => simp [intOf]; omega
          · have hz' : (Fp.ev p xs u == 0) = false := beq_eq_false_iff_ne.2 hz
            have HZ := Lib.hid hz'
            clear hz
            go_wp2_with (go_at_call 11; refine HC'.out.mono ?_; rintro e w' ⟨rfl, nd, rfl⟩)
            go_roundw
            case rel => exact ⟨j + 1, _, by omega, by go_num, by rw [HR'.out, HZ.out]; simp, rfl⟩
            case measure => simp [intOf]; omega
    · obtain rfl : k = m := by omega
      clear HE HR HRL
      go_wp2
      go_ret2
      exact ⟨rfl, _, rfl⟩

set_option maxRecDepth 100000 in
set_option maxHeartbeats 1000000 in
theorem rroots_any (p : Int) (x y : Option Addr) (n m cap cap' : Nat) (xs ss : List Int) (w : World) (hx : Reads .u64 w w.heap.size x xs) (hy : Reads .u64 w w.heap.size y ss) (hn : xs.length = n) (hm : ss.length = m) (hw : Words xs) (hw' : Words ss) (hl : n ≤ 140737488355328) (hl' : m ≤ 140737488355328) (hc : m ≤ cap') :
    Calls Try.prog 13 #[.int .u64 p, .slice x n cap, .slice y m cap'] w (RetQ (.tuple #[.int .i64 (rootsN p xs ss : Nat), .int .i64 (rootsE p n m)]) w) := by
  subst hn
  subst hm
  cases h : Fp.kn p
  · rw [rootsN_no (by rw [rootsE_no h]; decide), rootsE_no h]
    have H := Lib.hid h
    clear h hx hy hw hw'
    go_enter Try.func13, Try.ntmps13
    go_wp2_with (go_at_call 22; refine (rknown_no p _ H.out).mono ?_; rintro e w' ⟨rfl, rfl⟩)
    go_ret2
    exact ⟨rfl, 0, rfl⟩
  · by_cases hb : 65536 < xs.length
    · rw [rootsN_no (by rw [rootsE_bad h (.inl hb)]; decide), rootsE_bad h (.inl hb)]
      have H := Lib.hid h
      have hd : decide (65536 < (xs.length : Int)) = true := by simp; omega
      clear h hx hy hw hw'
      go_enter Try.func13, Try.ntmps13
      go_wp2_with (go_at_call 22; refine (rknown_yes p _ H.out).mono ?_; rintro e w' ⟨rfl, rfl⟩)
      go_ret2
      exact ⟨rfl, 0, rfl⟩
    · by_cases hb' : 65536 < ss.length
      · rw [rootsN_no (by rw [rootsE_bad h (.inr hb')]; decide), rootsE_bad h (.inr hb')]
        have H := Lib.hid h
        have hd : decide (65536 < (xs.length : Int)) = false := by simp; omega
        have hd' : decide (65536 < (ss.length : Int)) = true := by simp; omega
        clear h hx hy hw hw'
        go_enter Try.func13, Try.ntmps13
        go_wp2_with (go_at_call 22; refine (rknown_yes p _ H.out).mono ?_; rintro e w' ⟨rfl, rfl⟩)
        go_ret2
        exact ⟨rfl, 0, rfl⟩
      · have hE := rootsE_ok (n := xs.length) (m := ss.length) h (by omega) (by omega)
        rw [rootsN_ok hE, hE]
        exact rroots_yes p x y _ _ cap cap' xs ss w h hx hy rfl rfl hw hw' (by omega) (by omega) hc

end Go.Proofs.Ytancfpekiecoiaa
