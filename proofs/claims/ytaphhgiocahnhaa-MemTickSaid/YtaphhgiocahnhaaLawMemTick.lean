/-
  The walk of MemTick: an event that strikes a word at a tick is seen by the loads of that number and later, and not by those ahead; if there are none, behind the window.
-/
import Derived.Test.YtaphhgiocahnhaaMemEx
import Derived.Test.YtaphhgiocahnhaaEvIn
namespace Go.Proofs.Ytaphhgiocahnhaa
open Go.RowKit Go.Sort

/-- The word in front of load k, and the memory. -/
def tkB (x : Ev) (k : Nat) : Bool := decide (x.tk < k) && decide (0 < k)
def tkV (x : Ev) (u : Int) (k : Nat) : Int := if tkB x k then xr u x.msk else u
def tkS (n j : Nat) (x : Ev) (u : Int) (k : Nat) : MS := ⟨(List.replicate n 0).set j (tkV x u k), if tkB x k then [] else [x], k, 1⟩
def tkE (n j : Nat) (x : Ev) (u : Int) (k : Nat) : MS := ⟨(List.replicate n 0).set j (xr u x.msk), [], 0, 1 + k⟩
theorem tkB_zero (x : Ev) : tkB x 0 = false := by unfold tkB; simp
theorem tkB_next (x : Ev) (k : Nat) : tkB x (k + 1) = decide (x.tk ≤ k) := by
  unfold tkB
  rw [decide_eq_true (show 0 < k + 1 by omega), Bool.and_true]
  exact decide_eq_decide.2 (by omega)
theorem hasP_at {n j : Nat} (h : j < n) : hasP n (j : Int) = true := by unfold hasP; simp; omega

theorem hit_word (n j : Nat) (hj : j < n) (x : Ev) (hx : x.ad = (j : Int)) (u : Int) (hu : 0 ≤ u) : hit ((List.replicate n 0).set j u) x = (List.replicate n 0).set j (xr u x.msk) := by
  apply ext_getD (by rw [hit_len, List.length_set, List.length_set])
  intro i hi
  rw [hit_len, List.length_set, List.length_replicate] at hi
  rw [hit_get, getD_set, getD_set, List.length_set, List.length_replicate, hx, Int.toNat_natCast]
  by_cases e : j = i
  · subst e
    rw [if_pos (show j = j ∧ j < n from ⟨rfl, hj⟩), if_pos (show j = j ∧ j < n from ⟨rfl, hj⟩)]
    cases hn : nul x n
    · rw [if_pos ⟨rfl, rfl⟩]
    · rw [if_neg (by simp)]
      unfold nul at hn
      rw [hx] at hn
      simp at hn
      rcases hn with c | c
      · rw [c, xr_zero hu]
      · omega
  · rw [if_neg (by simp [e]), if_neg (by simp [e]), if_neg (by simp [e])]

section
variable {n j : Nat} (hj : j < n) {x : Ev} (hx : x.ad = (j : Int)) {u : Int} (hu : 0 ≤ u) (k : Nat)
include hj
theorem tk_start : nxS (stS (newS n []) j u) [x] = tkS n j x u 0 := by
  unfold stS
  have hl : (newS n []).ws.length = n := newS_len n []
  rw [hl, hasP_at hj, if_pos rfl, Int.toNat_natCast]
  unfold nxS tkS tkV
  rw [tkB_zero, if_pos (by simp)]
  rfl
theorem tk_err : adE (tkS n j x u k) j = 0 := by
  unfold adE tkS
  dsimp only
  rw [List.length_set, List.length_replicate, hasP_at hj, if_pos rfl]
include hx hu
theorem tk_acc : acc (tkS n j x u k) = tkS n j x u (k + 1) := by
  unfold acc tkS tkV
  dsimp only
  rw [tkB_next]
  by_cases c : x.tk ≤ k
  · rw [decide_eq_true c, if_pos rfl, if_pos rfl]
    cases hb : tkB x k
    · have e1 : due (k : Int) [x] = [x] := by unfold due; simp [c]
      have e2 : yet (k : Int) [x] = [] := by unfold yet; simp; omega
      simp only [Bool.false_eq_true, if_false, e1, e2, strike_one]
      rw [hit_word n j hj x hx u hu]
      simp
    · simp only [if_true]
      rfl
  · have hb : tkB x k = false := by unfold tkB; simp; omega
    have e1 : due (k : Int) [x] = [] := by unfold due; simp; omega
    have e2 : yet (k : Int) [x] = [x] := by unfold yet; simp; omega
    rw [decide_eq_false c, hb]
    simp only [Bool.false_eq_true, if_false, e1, e2]
    rfl
theorem tk_load : ldS (tkS n j x u k) j = tkS n j x u (k + 1) := by
  unfold ldS
  have hl : (tkS n j x u k).ws.length = n := by unfold tkS; simp
  rw [hl, hasP_at hj, if_pos rfl, tk_acc hj hx hu]
theorem tk_val : ldV (tkS n j x u k) j = tkV x u (k + 1) := by
  unfold ldV
  have hl : (tkS n j x u k).ws.length = n := by unfold tkS; simp
  rw [hl, hasP_at hj, if_pos rfl, tk_acc hj hx hu, Int.toNat_natCast]
  unfold tkS
  dsimp only
  rw [getD_set, if_pos ⟨rfl, by simpa using hj⟩]
theorem tk_end : nxS (tkS n j x u k) [] = tkE n j x u k := by
  unfold nxS tkS tkV tkE
  dsimp only
  rw [if_pos (by simp)]
  cases tkB x k
  · simp only [Bool.false_eq_true, if_false, strike_one]
    rw [hit_word n j hj x hx u hu]
    rfl
  · simp only [if_true]
    rfl
end
theorem tk_last {n j : Nat} (hj : j < n) (x : Ev) (u : Int) (k : Nat) : ldV (tkE n j x u k) j = xr u x.msk ∧ adE (tkE n j x u k) j = 0 ∧ (ldS (tkE n j x u k) j).a + (ldS (tkE n j x u k) j).t = (k : Int) + 2 := by
  have hl : (tkE n j x u k).ws.length = n := by unfold tkE; simp
  unfold ldV adE ldS
  rw [hl, hasP_at hj, if_pos rfl, if_pos rfl, if_pos rfl, Int.toNat_natCast]
  unfold acc tkE
  dsimp only
  refine ⟨?_, rfl, by omega⟩
  rw [show due 0 [] = [] from rfl, strike_nil, getD_set, if_pos ⟨rfl, by simpa using hj⟩]

set_option maxHeartbeats 16000000 in
set_option maxRecDepth 100000 in
theorem tick_in (n : Nat) (x : Ev) (u : Int) (L j : Nat) (w : World) (h1 : 1 ≤ n) (h2 : n ≤ 60) (hx : EvOk x) (hu : 0 ≤ u ∧ u < 18446744073709551616) (hL : L ≤ 60) (hj : j < n) (hxa : x.ad = (j : Int)) :
    Calls Try.prog 5 #[.int .i64 (n : Int), evV x, .int .u64 u, .int .u8 (L : Int)] w fun e w' => e = .returned (.bool true) ∧ Below w.heap.size w w' := by
  have HV := Lib.hid (live12_any (w.alloc (evO x)))
  have HB0 := Lib.hid (below_al (Below.refl _ w) (evO x))
  have HE0 := Lib.hid (EvAt.new w x 47)
  have HN := Lib.hid (fun w1 => mNew_ok n none 0 0 [] w1 h1 (by omega) ReadsE.nil rfl (by intro s hs; cases hs) (by omega))
  have HOk := Lib.hid hx
  have hm := hx.2.2.2.2.2
  have htk := hx.2.2.2.1
  have hxr := xor_run hu hm
  have HU := Lib.hid hu
  have T0 := Lib.hid (tk_start (x := x) (u := u) hj)
  have T1 := Lib.hid (fun k => tk_load hj hxa hu.1 k)
  have T2 := Lib.hid (fun k => tk_val hj hxa hu.1 k)
  have T3 := Lib.hid (fun k => tk_err (x := x) (u := u) hj k)
  have T4 := Lib.hid (tk_end hj hxa hu.1 L)
  have T5 := Lib.hid (tk_last hj x u L)
  have T6 : Hid (∀ k, tkV x u (k + 1) = if decide (x.tk ≤ (k : Int)) then xr u x.msk else u) := Lib.hid (fun k => by unfold tkV; rw [tkB_next])
  have TA : Hid (adE (newS n []) (j : Int) = 0) := Lib.hid (by unfold adE; rw [newS_len, hasP_at hj, if_pos rfl])
  have J1 : Hid (-9223372036854775808 ≤ (j : Int) ∧ (j : Int) < 9223372036854775808) := Lib.hid (by omega)
  have d1 : decide ((n : Int) < 1) = false := by simp; omega
  have d2 : decide ((60 : Int) < (n : Int)) = false := by simp; omega
  have d3 : decide ((n : Int) ≤ (j : Int)) = false := by simp; omega
  have d4 : decide ((60 : Int) < (L : Int)) = false := by simp; omega
  generalize tkS n j x u = tS at *
  generalize tkE n j x u L = tE at *
  generalize tkV x u = tV at *
  clear hx
  obtain ⟨x1, x2, x3, x4, x5, x6⟩ := x
  dsimp only at hxa hm hxr htk T5 T6
  subst hxa
  unfold evV
  unfold evO at HV HB0
  dsimp only at HV HB0 HE0 ⊢
  obtain ⟨z, hz⟩ : ∃ z, z = xr u x6 := ⟨_, rfl⟩
  rw [← hz] at hxr T5 T6
  obtain ⟨X, hX⟩ : ∃ X : Ev, X = ⟨x1, x2, x3, x4, (j : Int), x6⟩ := ⟨_, rfl⟩
  have HXe := Lib.hid hX
  rw [← hX] at T0 HOk
  clear hX hz
  go_enter Try.func5, Try.ntmps5
  go_wp2_with (first
    | (go_at_call 10; refine HV.out.mono ?_; clear HV; rintro e w1 ⟨rfl, hb1⟩; have B1 := Lib.hid hb1; have E1 := HE0.out.below hb1; obtain ⟨-, -, -, -, p4, -⟩ := E1; dsimp only at p4; rw [Nat.zero_add] at p4; clear hb1)
    | (go_at_call 12; refine (HN.out w1).mono ?_; clear HN p4; rintro e w2 ⟨M, rfl, hm2, hb2⟩; have A2 := Lib.hid (Ex.made B1.out hm2 hb2 rfl rfl); have K2 := Lib.hid (A2.out.store (by omega) J1.out HU.out); rw [TA.out] at K2; have E2 := HE0.out.below A2.out.below; obtain ⟨-, -, -, -, p4, -⟩ := E2; dsimp only at p4; rw [Nat.zero_add] at p4; clear hm2 hb2 A2 B1)
    | (go_at_call 25; refine K2.out.mono ?_; clear K2; rintro e w3 ⟨rfl, h3⟩; have A3 := Lib.hid h3; have K3 := Lib.hid (A3.out.nextOne (by omega) HOk.out); rw [T0.out] at K3; have E3 := HE0.out.below h3.below; rw [HXe.out] at K3; unfold evO at K3; dsimp only at K3; obtain ⟨q0, q1, q2, q3, q4, q5⟩ := E3; dsimp only at q0 q1 q2 q3 q4 q5; rw [Nat.zero_add] at q1 q2 q3 q4 q5; clear h3 p4)
    | (go_at_call 26; refine K3.out.mono ?_; clear K3; rintro e w4 ⟨rfl, h4⟩; have A4 := Lib.hid h4; clear h4 A3 q0 q1 q2 q3 q4 q5))
  go_loopw [68] (fun i wr => ∃ k : Nat, k ≤ L ∧ i = .int .i64 k ∧ Hid (Ex (w.alloc (evO ⟨x1, x2, x3, x4, (j : Int), x6⟩)) wr M (tS k) (k + 1))) (fun i _ => L - (intOf i).toNat)
  case atStart => exact ⟨0, Nat.zero_le _, rfl, A4⟩
  case round =>
    clear A4
    obtain ⟨k, hk, rfl, HI⟩ := hrel
    by_cases hlt : k < L
    · have E5 := HE0.out.below HI.out.below
      obtain ⟨-, -, -, -, p4, -⟩ := E5
      dsimp only at p4
      rw [Nat.zero_add] at p4
      have K5 := Lib.hid (HI.out.load (by omega) J1.out)
      rw [T2.out, T3.out, T1.out, T6.out] at K5
      have K6 := Lib.hid (fun W (h : Ex (w.alloc (evO ⟨x1, x2, x3, x4, (j : Int), x6⟩)) W M (tS (k + 1)) (k + 1 + 1)) => (HE0.out.below h.below : EvAt W w.heap.size 0 ⟨x1, x2, x3, x4, (j : Int), x6⟩))
      clear HI
      by_cases hc : x4 ≤ (k : Int)
      · have dc : decide (x4 ≤ (k : Int)) = true := by simpa using hc
        rw [dc, if_pos rfl] at K5
        clear hc
        go_wp2_with (go_at_call 27; refine K5.out.mono ?_; clear K5; rintro e w5 ⟨rfl, h5⟩; obtain ⟨-, -, -, q3, -, q5⟩ := K6.out _ h5; dsimp only at q3 q5; rw [Nat.zero_add] at q3 q5; have A5 := Lib.hid h5; clear h5 K6)
        go_roundw
        case rel => exact ⟨k + 1, by omega, by congr 1, A5⟩
        case measure => simp [intOf]; omega
      · have dc : decide (x4 ≤ (k : Int)) = false := by simpa using hc
        rw [dc, if_neg (by simp)] at K5
        clear hc
        go_wp2_with (go_at_call 27; refine K5.out.mono ?_; clear K5; rintro e w5 ⟨rfl, h5⟩; obtain ⟨-, -, -, q3, -, q5⟩ := K6.out _ h5; dsimp only at q3 q5; rw [Nat.zero_add] at q3 q5; have A5 := Lib.hid h5; clear h5 K6)
        go_roundw
        case rel => exact ⟨k + 1, by omega, by congr 1, A5⟩
        case measure => simp [intOf]; omega
    · obtain rfl : k = L := by omega
      have K5 := Lib.hid (HI.out.next (n := 0) (cap := 0) (x := none) (by omega) ReadsE.nil rfl (fun s hs => by cases hs))
      rw [T4.out, show nxR [] = 0 from rfl] at K5
      clear HI
      go_wp2_with (first
        | (go_at_call 26; refine K5.out.mono ?_; clear K5; rintro e w6 ⟨rfl, h6⟩; have K6 := Lib.hid (h6.load (by omega) J1.out); rw [T5.out.1, T5.out.2.1] at K6; have E6 := HE0.out.below h6.below; obtain ⟨-, -, -, -, p4, -⟩ := E6; dsimp only at p4; rw [Nat.zero_add] at p4; clear h6)
        | (go_at_call 27; refine K6.out.mono ?_; clear K6; rintro e w7 ⟨rfl, h7⟩; have A7 := Lib.hid h7; have K7 := Lib.hid (h7.all (by omega)); rw [T5.out.2.2] at K7; have E7 := HE0.out.below h7.below; obtain ⟨-, -, -, -, -, p5⟩ := E7; dsimp only at p5; rw [Nat.zero_add] at p5; clear h7 p4)
        | (go_at_call 20; refine K7.out.mono ?_; clear K7; rintro e w8 ⟨rfl, nq, rfl⟩; have A8 := Lib.hid (A7.out.quiet (draws_below _ _ nq)).below; clear A7))
      go_ret
      exact ⟨rfl, below_on HB0.out A8.out⟩

set_option maxRecDepth 100000 in
theorem walk_MemTick (a : Int) (x : Ev) (u l : Int) (ha : (Lit.int .i64 a).wf = true) (hx : EvOk x) (hu : (Lit.int .u64 u).wf = true) (hl : (Lit.int .u8 l).wf = true) (w : World) :
    Calls Try.prog 5 #[.int .i64 a, evV x, .int .u64 u, .int .u8 l] w fun e w' => e = .returned (.bool true) ∧ Below w.heap.size w w' := by
  obtain ⟨a0, a1⟩ := i64_of ha
  obtain ⟨l0, l1⟩ := u8_of hl
  have hu' := bounds_u64 hu
  by_cases hin : 1 ≤ a ∧ a ≤ 60 ∧ 0 ≤ x.ad ∧ x.ad < a ∧ l ≤ 60
  · obtain ⟨n, rfl⟩ : ∃ n : Nat, a = (n : Int) := ⟨a.toNat, by omega⟩
    obtain ⟨L, rfl⟩ : ∃ n : Nat, l = (n : Int) := ⟨l.toNat, by omega⟩
    exact tick_in n x u L x.ad.toNat w (by omega) (by omega) hx (by omega) (by omega) (by omega) (by omega)
  · have HV := Lib.hid (live12_any (w.alloc (evO x)))
    have HB0 := Lib.hid (below_al (Below.refl _ w) (evO x))
    have HE0 := Lib.hid (EvAt.new w x 47)
    have hpart : decide (a < 1) = true ∨ (decide (a < 1) = false ∧ decide (60 < a) = true) ∨ (decide (a < 1) = false ∧ decide (60 < a) = false ∧ decide (x.ad < 0) = true) ∨ (decide (a < 1) = false ∧ decide (60 < a) = false ∧ decide (x.ad < 0) = false ∧ decide (a ≤ x.ad) = true) ∨
        (decide (a < 1) = false ∧ decide (60 < a) = false ∧ decide (x.ad < 0) = false ∧ decide (a ≤ x.ad) = false ∧ decide (60 < l) = true) := by
      simp only [decide_eq_true_eq, decide_eq_false_iff_not]
      omega
    clear hin hx hu hl
    obtain ⟨x1, x2, x3, x4, x5, x6⟩ := x
    unfold evV
    unfold evO at HV HB0
    dsimp only at HV HB0 hpart ⊢
    rcases hpart with d1 | ⟨d1, d2⟩ | ⟨d1, d2, d3⟩ | ⟨d1, d2, d3, d4⟩ | ⟨d1, d2, d3, d4, d5⟩
    all_goals
      go_enter Try.func5, Try.ntmps5
      go_wp2_with (go_at_call 10; refine HV.out.mono ?_; clear HV; rintro e w1 ⟨rfl, hb1⟩; obtain ⟨-, -, -, -, p4, -⟩ := HE0.out.below hb1; dsimp only at p4; rw [Nat.zero_add] at p4; have B1 := Lib.hid (below_on HB0.out hb1); clear hb1)
      go_ret
      exact ⟨rfl, B1.out⟩

end Go.Proofs.Ytaphhgiocahnhaa
