/-
  The walk of the law StepTables: it returns true for every prime, all axes, every step; nothing that was there is written.
-/
import Derived.Test.YtphghklhknadoaaDoorStepA
import Derived.Test.YtphghklhknadoaaDoorGrids
import Derived.Test.YtphghklhknadoaaDoorRows2
import Derived.Deep.RegionWith
import Derived.Deep.CutRange
namespace Go.Proofs.YtphghklhknadoaaDoor
open Go.RowKit

namespace Stp
/-- What the law asks of two factors. -/
theorem undo_twist {p : Int} {xa : List Ax} {s : Sp} (h : Sok p xa s) (ht : s.tw = true) (k : Nat) : Fp.mul p (Fp.mul p (tabN p xa false s k) (tabN p xa true s k)) ((gL xa s.ax.toNat : Nat) : Int) = 1 := by
  have hk := h.ax.kn
  have p1 := Fp.kn_bd hk
  have hm : ∀ u v, Fp.eqm p (Fp.mul p u v) (u * v) := fun u v => by rw [Fp.mul_kn _ _ hk]; exact Fp.eqm_md p _
  refine eq_of_eqm ?_ ⟨(Fp.mul_bd _ _ _).1, (Fp.mul_bd _ _ _).2.2 hk⟩ (by omega)
  unfold tabN
  rw [if_pos ht, if_pos ht]
  exact (hm _ _).trans (((hm _ _).mul Fp.eqm.rfl).trans (twT_undo h.ax h.hi k))
theorem undo_stage {p : Int} {xa : List Ax} {s : Sp} (h : Sok p xa s) (ht : s.tw = false) (k : Nat) : Fp.mul p (Fp.mul p (tabN p xa false s k) (tabN p xa true s k)) 1 = 1 := by
  have hk := h.ax.kn
  have p1 := Fp.kn_bd hk
  have hm : ∀ u v, Fp.eqm p (Fp.mul p u v) (u * v) := fun u v => by rw [Fp.mul_kn _ _ hk]; exact Fp.eqm_md p _
  refine eq_of_eqm ?_ ⟨(Fp.mul_bd _ _ _).1, (Fp.mul_bd _ _ _).2.2 hk⟩ (by omega)
  unfold tabN
  rw [if_neg (by simp [ht]), if_neg (by simp [ht])]
  refine (hm _ _).trans (((hm _ _).mul Fp.eqm.rfl).trans ?_)
  rw [Int.mul_one]
  exact stT_undo h ht k
theorem tabL_words (p : Int) (xa : List Ax) (inv : Bool) (s : Sp) : Words (tabL p xa inv s) := by
  by_cases hE : stepE p xa s = 0
  · have hk := (stepE_zero hE).ax.kn
    rw [(stepE_zero hE).tab]
    exact (Nums.map hk (fun k => tabN_bd hk k) _).words hk
  · unfold tabL; rw [if_neg hE]; exact fun j => by simp
end Stp

set_option maxRecDepth 100000 in
set_option maxHeartbeats 4000000 in
theorem steptables_any {G : World → Prop} (H : StepHas G) (p : Int) (x : Option Addr) (n cap : Nat) (xa : List Ax) (s : Sp) (w : World) (hG : G w) (hx : ReadsA w w.heap.size x xa) (hn : xa.length = n) (hlb : n ≤ 8796093022208) (hs : SpIn s) :
    Calls Tryd.prog 10 #[.int .u64 p, .slice x n cap, spV s] w fun e w' => e = .returned (.bool true) ∧ Below w.heap.size w w' := by
  have HB := Lib.hid (below_al (Below.refl _ w) (.cells #[.int .i64 s.ax, .bool s.tw, .int .i64 s.st.r, .int .i64 s.st.l, .int .i64 s.st.m] 27))
  have HS := Lib.hid (SpAt.new w 27 s)
  have HV := Lib.hid (live16_any H _ (H.keep hG HB.out))
  obtain ⟨b, HFew⟩ := few_any x n cap xa 100 w hx hn hlb
  have HA := Lib.hid (fun W (hB : Below w.heap.size w W) => H.table p x n cap xa false s W (H.keep hG hB) ((hx.below hB).more hB.size) hn hlb hs)
  have HBk := Lib.hid (fun W (hB : Below w.heap.size w W) => H.table p x n cap xa true s W (H.keep hG hB) ((hx.below hB).more hB.size) hn hlb hs)
  cases b
  · clear HA HBk hx hG hn H
    obtain ⟨sax, stw, sr, sl, sm⟩ := s
    unfold spV
    dsimp only at HB HS HV ⊢
    go_enter Tryd.func10, Tryd.ntmps10
    go_wp2_with (first
      | (go_at_call 12; refine HV.out.mono ?_; rintro e w1 ⟨rfl, b1⟩; have B1 := Lib.hid (below_then HB.out b1); have S1 := Lib.hid (HS.out.then b1); clear b1 HS)
      | (go_at_call 13; refine (HFew.out _ B1.out).mono ?_; rintro e w2 ⟨rfl, b2⟩; have B2 := Lib.hid (below_then B1.out b2); have S2 := Lib.hid (S1.out.then b2); obtain ⟨k0, k1, k2, k3, k4⟩ := S2.out; dsimp only at k0 k1 k2 k3 k4; clear b2 S1))
    go_ret
    exact ⟨rfl, B2.out⟩
  by_cases hE : Stp.stepE p xa s = 0
  · have hok := Stp.stepE_zero hE
    obtain ⟨hlo, hhi⟩ := And.intro hok.lo hok.hi
    have hk := hok.ax.kn
    rw [hE, hok.tab] at HA HBk
    have hT1 : ((List.range (Stp.tabn xa s)).map (Stp.tabN p xa false s)).length = Stp.tabn xa s := by simp
    have hT2 : ((List.range (Stp.tabn xa s)).map (Stp.tabN p xa true s)).length = Stp.tabn xa s := by simp
    have hW1 : ∀ k, 0 ≤ Stp.tabN p xa false s k ∧ Stp.tabN p xa false s k < 18446744073709551616 := fun k => by have := Fp.kn_bd hk; have := Stp.tabN_bd (inv := false) (xa := xa) (s := s) hk k; omega
    have hW2 : ∀ k, 0 ≤ Stp.tabN p xa true s k ∧ Stp.tabN p xa true s k < 18446744073709551616 := fun k => by have := Fp.kn_bd hk; have := Stp.tabN_bd (inv := true) (xa := xa) (s := s) hk k; omega
    have hG1 : ∀ k, k < Stp.tabn xa s → ((List.range (Stp.tabn xa s)).map (Stp.tabN p xa false s)).getD k 0 = Stp.tabN p xa false s k := fun k hk => getD_range _ hk
    have hG2 : ∀ k, k < Stp.tabn xa s → ((List.range (Stp.tabn xa s)).map (Stp.tabN p xa true s)).getD k 0 = Stp.tabN p xa true s k := fun k hk => getD_range _ hk
    have hTl := hok.tab_le
    have hd1 : decide (s.ax < 0) = false := by simp; omega
    have hd2 : decide ((n : Int) ≤ s.ax) = false := by simp; omega
    cases ht : s.tw
    · -- a stage
      have h3 := hok.three ht
      have hU : ∀ k, Fp.mul p (Fp.mul p (Stp.tabN p xa false s k) (Stp.tabN p xa true s k)) 1 = 1 := fun k => Stp.undo_stage hok ht k
      have hP : ∀ k, Stp.tabN p xa false s k = Fp.pw p (Stp.tabN p xa false s (k / s.st.r.toNat * s.st.r.toNat + 1)) (k % s.st.r.toNat) := fun k => by
        unfold Stp.tabN
        rw [if_neg (by simp [ht]), if_neg (by simp [ht])]
        exact Stp.stT_pow h3.r2 p _ k
      have hnn := hok.nat
      have hTn : Stp.tabn xa s = s.st.m.toNat * s.st.r.toNat := by unfold Stp.tabn; rw [if_neg (by simp [ht])]
      obtain ⟨r2, r5, m1⟩ := And.intro h3.r2 (And.intro h3.r5 h3.m1)
      obtain ⟨sax, stw, sr, sl, sm⟩ := s
      dsimp only at ht hnn r2 r5 m1 hTn hP hd1 hd2 hlo hhi
      subst ht
      obtain ⟨R, rfl⟩ := Int.eq_ofNat_of_zero_le hnn.1
      obtain ⟨M, rfl⟩ := Int.eq_ofNat_of_zero_le hnn.2.2
      rw [Int.toNat_natCast] at r2 r5 m1 hTn hP
      rw [Int.toNat_natCast] at hTn
      generalize Stp.tabN p xa false ⟨sax, false, ⟨(R : Int), sl, (M : Int)⟩⟩ = f at HA hT1 hW1 hG1 hU hP
      generalize Stp.tabN p xa true ⟨sax, false, ⟨(R : Int), sl, (M : Int)⟩⟩ = g at HBk hT2 hW2 hG2 hU
      generalize Stp.tabn xa ⟨sax, false, ⟨(R : Int), sl, (M : Int)⟩⟩ = T at HA HBk hT1 hT2 hG1 hG2 hTl hTn
      have HT1 := Lib.hid hT1
      have HT2 := Lib.hid hT2
      have HG1 := Lib.hid hG1
      have HG2 := Lib.hid hG2
      have HW1 := Lib.hid hW1
      have HW2 := Lib.hid hW2
      have HU := Lib.hid hU
      have HPw := Lib.hid hP
      have HTn := Lib.hid hTn
      have hRM : (R : Int) * (M : Int) = (T : Int) := by rw [hTn, Nat.mul_comm]; simp
      have hd3 : decide (R < 2) = false := by simp; omega
      have hd3' : decide ((R : Int) < 2) = false := by simp; omega
      have nT : ((T : Int) != (T : Int)) = false := by simp
      have hR0 : (R : Int) ≠ 0 := by omega
      generalize (List.range T).map f = tb1 at HA HT1 HG1
      generalize (List.range T).map g = tb2 at HBk HT2 HG2
      unfold spV at HA HBk ⊢
      dsimp only at HB HS HV HA HBk ⊢
      clear hx hG hn H hE hok hk hT1 hT2 hW1 hW2 hG1 hG2 hU hP hs h3 hTn hnn
      go_enter Tryd.func10, Tryd.ntmps10
      go_wp2_with (first
        | (go_at_call 12; refine HV.out.mono ?_; rintro e w1 ⟨rfl, b1⟩; have B1 := Lib.hid (below_then HB.out b1); have S1 := Lib.hid (HS.out.then b1); clear b1 HS)
        | (go_at_call 13; refine (HFew.out _ B1.out).mono ?_; rintro e w2 ⟨rfl, b2⟩; have B2 := Lib.hid (below_then B1.out b2); have S2 := Lib.hid (S1.out.then b2); obtain ⟨k0, k1, k2, k3, k4⟩ := S2.out; dsimp only at k0 k1 k2 k3 k4; clear b2 S1)
        | (go_at_call_of 21 (Value.bool true); refine (HBk.out _ B3.out).mono ?_; rintro e w4 ⟨v, rfl, hO, b4⟩; obtain ⟨y2, c2, rfl, -, -, hr, -⟩ := hO.form; have R2 := Lib.hid hr; replace R1 := Lib.hid ((R1.out.below b4).more b4.size); have B4 := Lib.hid (below_then B3.out b4); have S4 := Lib.hid (S3.out.then b4); obtain ⟨k0, k1, k2, k3, k4⟩ := S4.out; dsimp only at k0 k1 k2 k3 k4; rw [HT2.out]; clear b4 hO hr q0 q1 q2 q3 q4)
        | (go_at_call 21; refine (HA.out _ B2.out).mono ?_; rintro e w3 ⟨v, rfl, hO, b3⟩; obtain ⟨y1, c1, rfl, -, -, hr, -⟩ := hO.form; have R1 := Lib.hid hr; have B3 := Lib.hid (below_then B2.out b3); have S3 := Lib.hid (S2.out.then b3); obtain ⟨q0, q1, q2, q3, q4⟩ := S3.out; dsimp only at q0 q1 q2 q3 q4; rw [HT1.out]; clear b3 hO hr k0 k1 k2 k3 k4))
      go_loopw [103] (fun i wi => ∃ j q : Nat, j ≤ T ∧ i = .int .i64 (j : Int) ∧ wi = w4.drewN q) (fun i _ => T - (intOf i).toNat)
      case atStart => exact ⟨0, 0, Nat.zero_le _, rfl, rfl⟩
      case round =>
        obtain ⟨j, q, hj, rfl, hq⟩ := hrel
        by_cases hlj : j < T
        · have hdj : decide (j < T) = true := by simpa using hlj
          obtain ⟨d1', o1, rfl, -, hc1⟩ := R1.out (by rw [HT1.out]; omega)
          obtain ⟨d2', o2, rfl, -, hc2⟩ := R2.out (by rw [HT2.out]; omega)
          have a1 := hc1 j (by rw [HT1.out]; exact hlj)
          have a2 := hc2 j (by rw [HT2.out]; exact hlj)
          rw [HG1.out j hlj] at a1
          rw [HG2.out j hlj] at a2
          obtain ⟨d, hd⟩ : ∃ d, d = j / R := ⟨_, rfl⟩
          obtain ⟨e, he⟩ : ∃ e, e = j % R := ⟨_, rfl⟩
          obtain ⟨t, ht⟩ : ∃ t, t = d * R := ⟨_, rfl⟩
          have hdR : d * R + e = j := by rw [hd, he, Nat.mul_comm]; exact Nat.div_add_mod j R
          have heR : e < R := by rw [he]; exact Nat.mod_lt _ (by omega)
          have htT : t + 1 < T := by
            have h1 : d < M := by rw [hd]; exact Nat.div_lt_of_lt_mul (by rw [Nat.mul_comm, ← HTn.out]; exact hlj)
            have h2 : (d + 1) * R ≤ M * R := Nat.mul_le_mul_right R h1
            rw [Nat.succ_mul, ← ht, ← HTn.out] at h2
            omega
          obtain ⟨t1, ht1⟩ : ∃ t1, t1 = t + 1 := ⟨_, rfl⟩
          rw [← ht1] at htT
          have a3 := hc1 t1 (by rw [HT1.out]; exact htT)
          rw [HG1.out t1 htT] at a3
          have hpw := HPw.out j
          rw [← hd, ← he, ← ht, ← ht1] at hpw
          have hU := HU.out j
          have i1 : (j : Int) / (R : Int) = (d : Int) := by rw [hd]; simp
          have i2 : (j : Int) % (R : Int) = (e : Int) := by rw [he]; simp
          have i1' : (j : Int).tdiv (R : Int) = (d : Int) := by rw [hd]; exact Int.ofNat_tdiv j R |>.symm
          have i2' : (j : Int).tmod (R : Int) = (e : Int) := by rw [he]; exact Int.ofNat_tmod j R |>.symm
          have i3 : (d : Int) * (R : Int) = (t : Int) := by rw [ht]; simp
          have hdt : decide (t1 < T) = true := by simpa using htT
          have i4 : (t : Int) + 1 = (t1 : Int) := by rw [ht1]; simp
          have e4 : t + 1 = t1 := ht1.symm
          have hRn : ¬ R = 0 := by omega
          have hdb : d ≤ 4096 := by rw [hd]; exact Nat.le_trans (Nat.div_le_self _ _) (by omega)
          have htb : t ≤ 4096 := by omega
          have hxw : ∀ z : Int, 0 ≤ z → z ≤ 5000 → IntKind.i64.wrap z = z := fun z h0 h1 => by rw [IntKind.wrap_i64]; omega
          have x1 := hxw (d : Int) (by omega) (by omega)
          have x2 := hxw (t : Int) (by omega) (by omega)
          have x3 := hxw (t1 : Int) (by omega) (by omega)
          have x4 := hxw (e : Int) (by omega) (by omega)
          clear hxw
          have e1 : j / R = d := hd.symm
          have e2 : j % R = e := he.symm
          have e3 : d * R = t := ht.symm
          obtain ⟨u0, u1⟩ := HW1.out j
          obtain ⟨v0, v1⟩ := HW2.out j
          obtain ⟨z0, z1⟩ := HW1.out t1
          obtain ⟨u, hu⟩ : ∃ u, u = f j := ⟨_, rfl⟩
          obtain ⟨v, hv⟩ : ∃ v, v = g j := ⟨_, rfl⟩
          obtain ⟨z, hz⟩ : ∃ z, z = f t1 := ⟨_, rfl⟩
          rw [← hu] at a1 u0 u1 hpw hU
          rw [← hv] at a2 v0 v1 hU
          rw [← hz] at a3 z0 z1 hpw
          obtain ⟨m0, m1', -⟩ := Fp.mul_bd p u v
          have hcq : ∀ ad, w4.cell? ad = wr.cell? ad := fun ad => by rw [hq]; rfl
          rw [hcq] at a1 a2 a3 k0 k1 k2 k3 k4
          have HQ := Lib.hid hq
          have HPj := Lib.hid hpw
          have HUj := Lib.hid hU
          have n1 : (Fp.mul p (Fp.mul p u v) 1 != 1) = false := by rw [hU]; rfl
          have n2 : (u != Fp.pw p z e) = false := by rw [← hpw]; simp
          have hwr : IntKind.u64.wrap (e : Int) = (e : Int) := by rw [IntKind.wrap_u64]; omega
          clear hc1 hc2 hu hv hz hcq hq hpw hU hd he ht ht1
          go_wp2
          go_quiet (first | (go_at_call 31; exact Calls.quiet_of (mul_any _ _ _ _ (by omega) (by omega) (by omega) (by omega))))
          have HPow := Lib.hid (fun W => pow_any p z (e : Int) W z0 z1 (by omega) (by omega))
          rw [Int.toNat_natCast] at HPow
          go_wp2
          obtain ⟨W2, hW2⟩ : ∃ W2, W2 = wr.drewN nq := ⟨_, rfl⟩
          have hcq : ∀ ad, wr.cell? ad = W2.cell? ad := fun ad => by rw [hW2]; rfl
          rw [hcq] at a1 a3 k0 k1 k2 k3 k4
          rw [← hW2]
          have HQ2 := Lib.hid hW2
          clear hW2 hcq a2
          go_quiet (first | (go_at_call 32; exact Calls.quiet_of (HPow.out _)))
          go_wp2
          go_roundw
          case rel => exact ⟨j + 1, _, by omega, by go_num, by rw [HQ2.out, HQ.out, World.drewN_drewN, World.drewN_drewN]⟩
          case measure => simp [intOf]; omega
        · have hdj : decide (j < T) = false := by simp; omega
          have HQ : Hid (Below w.heap.size w wr) := Lib.hid (by rw [hq]; exact below_draws B4.out q)
          clear hq
          go_wp2
          go_ret
          exact ⟨rfl, HQ.out⟩
    · -- a twist
      have hU : ∀ k, Fp.mul p (Fp.mul p (Stp.tabN p xa false s k) (Stp.tabN p xa true s k)) ((gL xa s.ax.toNat : Nat) : Int) = 1 := fun k => Stp.undo_twist hok ht k
      have hTn : Stp.tabn xa s = gL xa s.ax.toNat := by unfold Stp.tabn; rw [if_pos ht]
      have hN := hok.ax.int hok.hi
      obtain ⟨sax, stw, sr, sl, sm⟩ := s
      dsimp only at ht hTn hd1 hd2 hlo hhi hU hN
      subst ht
      obtain ⟨k, rfl⟩ := Int.eq_ofNat_of_zero_le hlo
      rw [Int.toNat_natCast] at hTn hhi hU hN
      rw [← hTn] at hN hU
      generalize Stp.tabN p xa false ⟨(k : Int), true, ⟨sr, sl, sm⟩⟩ = f at HA hT1 hW1 hG1 hU
      generalize Stp.tabN p xa true ⟨(k : Int), true, ⟨sr, sl, sm⟩⟩ = g at HBk hT2 hW2 hG2 hU
      generalize Stp.tabn xa ⟨(k : Int), true, ⟨sr, sl, sm⟩⟩ = T at HA HBk hT1 hT2 hG1 hG2 hTl hTn hN hU
      have HT1 := Lib.hid hT1
      have HT2 := Lib.hid hT2
      have HG1 := Lib.hid hG1
      have HG2 := Lib.hid hG2
      have HW1 := Lib.hid hW1
      have HW2 := Lib.hid hW2
      have HU := Lib.hid hU
      have HX := Lib.hid hx
      have HKA := Lib.hid hhi
      have nT : ((T : Int) != (T : Int)) = false := by simp
      have hka' : k < n := by omega
      have hdk : decide (k < n) = true := by simpa using hka'
      have hdn : decide (n ≤ k) = false := by simp; omega
      have hwr : IntKind.u64.wrap (T : Int) = (T : Int) := by rw [IntKind.wrap_u64]; omega
      generalize (List.range T).map f = tb1 at HA HT1 HG1
      generalize (List.range T).map g = tb2 at HBk HT2 HG2
      unfold spV at HA HBk ⊢
      dsimp only at HB HS HV HA HBk ⊢
      obtain ⟨bx, ox, rfl, hbx, hcx⟩ := hx (by omega)
      obtain ⟨x1, -⟩ := hcx k hhi
      rw [hN] at x1
      have HX1 := Lib.hid x1
      clear hG hn H hE hok hk hT1 hT2 hW1 hW2 hG1 hG2 hU hs hTn hx hcx HX x1 hhi hlo
      go_enter Tryd.func10, Tryd.ntmps10
      go_upto_region 7 with (first
        | (go_at_call 12; refine HV.out.mono ?_; rintro e w1 ⟨rfl, b1⟩; have B1 := Lib.hid (below_then HB.out b1); have S1 := Lib.hid (HS.out.then b1); clear b1 HS)
        | (go_at_call 13; refine (HFew.out _ B1.out).mono ?_; rintro e w2 ⟨rfl, b2⟩; have B2 := Lib.hid (below_then B1.out b2); have S2 := Lib.hid (S1.out.then b2); obtain ⟨k0, k1, k2, k3, k4⟩ := S2.out; dsimp only at k0 k1 k2 k3 k4; clear b2 S1)
        | (go_at_call_of 21 (Value.bool false); refine (HA.out _ B2.out).mono ?_; rintro e w3 ⟨v, rfl, hO, b3⟩; obtain ⟨y1, c1, rfl, -, -, hr, -⟩ := hO.form; have R1 := Lib.hid hr; have B3 := Lib.hid (below_then B2.out b3); have S3 := Lib.hid (S2.out.then b3); obtain ⟨q0, q1, q2, q3, q4⟩ := S3.out; dsimp only at q0 q1 q2 q3 q4; rw [HT1.out]; clear b3 hO hr k0 k1 k2 k3 k4)
        | (go_at_call 21; refine (HBk.out _ B3.out).mono ?_; rintro e w4 ⟨v, rfl, hO, b4⟩; obtain ⟨y2, c2, rfl, -, -, hr, -⟩ := hO.form; have R2 := Lib.hid hr; replace R1 := Lib.hid ((R1.out.below b4).more b4.size); have B4 := Lib.hid (below_then B3.out b4); have S4 := Lib.hid (S3.out.then b4); obtain ⟨k0, k1, k2, k3, k4⟩ := S4.out; dsimp only at k0 k1 k2 k3 k4; rw [HT2.out]; clear b4 hO hr q0 q1 q2 q3 q4))
      have x1 := (B4.out.cell (p := ⟨bx, ox + k * 2, none⟩) hbx).trans HX1.out
      go_wp2
      go_loopw [103] (fun i wi => ∃ j q : Nat, j ≤ T ∧ i = .int .i64 (j : Int) ∧ wi = w4.drewN q) (fun i _ => T - (intOf i).toNat)
      case atStart => exact ⟨0, 0, Nat.zero_le _, rfl, rfl⟩
      case round =>
        obtain ⟨j, q, hj, rfl, hq⟩ := hrel
        by_cases hlj : j < T
        · have hdj : decide (j < T) = true := by simpa using hlj
          obtain ⟨d1', o1, rfl, -, hc1⟩ := R1.out (by rw [HT1.out]; omega)
          obtain ⟨d2', o2, rfl, -, hc2⟩ := R2.out (by rw [HT2.out]; omega)
          have a1 := hc1 j (by rw [HT1.out]; exact hlj)
          have a2 := hc2 j (by rw [HT2.out]; exact hlj)
          rw [HG1.out j hlj] at a1
          rw [HG2.out j hlj] at a2
          have hU := HU.out j
          obtain ⟨u0, u1⟩ := HW1.out j
          obtain ⟨v0, v1⟩ := HW2.out j
          obtain ⟨u, hu⟩ : ∃ u, u = f j := ⟨_, rfl⟩
          obtain ⟨v, hv⟩ : ∃ v, v = g j := ⟨_, rfl⟩
          rw [← hu] at a1 u0 u1 hU
          rw [← hv] at a2 v0 v1 hU
          obtain ⟨m0, m1', -⟩ := Fp.mul_bd p u v
          have hcq : ∀ ad, w4.cell? ad = wr.cell? ad := fun ad => by rw [hq]; rfl
          rw [hcq] at a1 a2 k0 k1 k2 k3 k4
          have HQ := Lib.hid hq
          have n1 : (Fp.mul p (Fp.mul p u v) (T : Int) != 1) = false := by rw [hU]; rfl
          clear hc1 hc2 hu hv hcq hq hU x1
          go_wp2
          go_quiet (first | (go_at_call 31; exact Calls.quiet_of (mul_any _ _ _ _ (by omega) (by omega) (by omega) (by omega))))
          go_wp2
          go_quiet (fail)
          go_wp2
          go_roundw
          case rel => exact ⟨j + 1, _, by omega, by go_num, by first | (rw [HQ.out, World.drewN_drewN, World.drewN_drewN]; done) | (rw [HQ.out, World.drewN_drewN]; done)⟩
          case measure => simp [intOf]; omega
        · have hdj : decide (j < T) = false := by simp; omega
          have HQ : Hid (Below w.heap.size w wr) := Lib.hid (by rw [hq]; exact below_draws B4.out q)
          clear hq
          go_wp2
          go_ret
          exact ⟨rfl, HQ.out⟩
  · have e1 : Stp.tabL p xa false s = [] := by unfold Stp.tabL; rw [if_neg hE]
    have e2 : Stp.tabL p xa true s = [] := by unfold Stp.tabL; rw [if_neg hE]
    rw [e1] at HA
    rw [e2] at HBk
    have t := ne_of_bne hE
    have n1 : (Stp.stepE p xa s != Stp.stepE p xa s) = false := by simp
    have n2 : (Stp.stepE p xa s == Stp.stepE p xa s) = true := by simp
    generalize Stp.stepE p xa s = er at HA HBk t n1 n2
    clear hx hG hn H hE hs e1 e2
    obtain ⟨sax, stw, sr, sl, sm⟩ := s
    unfold spV at HA HBk ⊢
    dsimp only at HB HS HV HA HBk ⊢
    cases stw
    · go_enter Tryd.func10, Tryd.ntmps10
      go_wp2_with (first
        | (go_at_call 12; refine HV.out.mono ?_; rintro e w1 ⟨rfl, b1⟩; have B1 := Lib.hid (below_then HB.out b1); have S1 := Lib.hid (HS.out.then b1); clear b1 HS)
        | (go_at_call 13; refine (HFew.out _ B1.out).mono ?_; rintro e w2 ⟨rfl, b2⟩; have B2 := Lib.hid (below_then B1.out b2); have S2 := Lib.hid (S1.out.then b2); obtain ⟨k0, k1, k2, k3, k4⟩ := S2.out; dsimp only at k0 k1 k2 k3 k4; clear b2 S1)
        | (go_at_call_of 21 (Value.bool true); refine (HBk.out _ B3.out).mono ?_; rintro e w4 ⟨v, rfl, hO, b4⟩; obtain ⟨y2, c2, rfl, -, -, hr, -⟩ := hO.form; have R2 := Lib.hid hr; replace R1 := Lib.hid ((R1.out.below b4).more b4.size); have B4 := Lib.hid (below_then B3.out b4); have S4 := Lib.hid (S3.out.then b4); obtain ⟨k0, k1, k2, k3, k4⟩ := S4.out; dsimp only at k0 k1 k2 k3 k4; simp only [List.length_nil]; clear b4 hO hr q0 q1 q2 q3 q4)
        | (go_at_call 21; refine (HA.out _ B2.out).mono ?_; rintro e w3 ⟨v, rfl, hO, b3⟩; obtain ⟨y1, c1, rfl, -, -, hr, -⟩ := hO.form; have R1 := Lib.hid hr; have B3 := Lib.hid (below_then B2.out b3); have S3 := Lib.hid (S2.out.then b3); obtain ⟨q0, q1, q2, q3, q4⟩ := S3.out; dsimp only at q0 q1 q2 q3 q4; simp only [List.length_nil]; clear b3 hO hr k0 k1 k2 k3 k4))
      go_ret
      exact ⟨rfl, B4.out⟩
    · go_enter Tryd.func10, Tryd.ntmps10
      go_wp2_with (first
        | (go_at_call 12; refine HV.out.mono ?_; rintro e w1 ⟨rfl, b1⟩; have B1 := Lib.hid (below_then HB.out b1); have S1 := Lib.hid (HS.out.then b1); clear b1 HS)
        | (go_at_call 13; refine (HFew.out _ B1.out).mono ?_; rintro e w2 ⟨rfl, b2⟩; have B2 := Lib.hid (below_then B1.out b2); have S2 := Lib.hid (S1.out.then b2); obtain ⟨k0, k1, k2, k3, k4⟩ := S2.out; dsimp only at k0 k1 k2 k3 k4; clear b2 S1)
        | (go_at_call_of 21 (Value.bool false); refine (HA.out _ B2.out).mono ?_; rintro e w3 ⟨v, rfl, hO, b3⟩; obtain ⟨y1, c1, rfl, -, -, hr, -⟩ := hO.form; have R1 := Lib.hid hr; have B3 := Lib.hid (below_then B2.out b3); have S3 := Lib.hid (S2.out.then b3); obtain ⟨q0, q1, q2, q3, q4⟩ := S3.out; dsimp only at q0 q1 q2 q3 q4; simp only [List.length_nil]; clear b3 hO hr k0 k1 k2 k3 k4)
        | (go_at_call 21; refine (HBk.out _ B3.out).mono ?_; rintro e w4 ⟨v, rfl, hO, b4⟩; obtain ⟨y2, c2, rfl, -, -, hr, -⟩ := hO.form; have R2 := Lib.hid hr; replace R1 := Lib.hid ((R1.out.below b4).more b4.size); have B4 := Lib.hid (below_then B3.out b4); have S4 := Lib.hid (S3.out.then b4); obtain ⟨k0, k1, k2, k3, k4⟩ := S4.out; dsimp only at k0 k1 k2 k3 k4; simp only [List.length_nil]; clear b4 hO hr q0 q1 q2 q3 q4))
      go_ret
      exact ⟨rfl, B4.out⟩

theorem steptables_walk {G : World → Prop} (H : StepHas G) (p : Int) (x : Option Addr) (len cap : Nat) (xa : List Ax) (s : Sp) (w : World) (_hp : (Lit.int .u64 p).wf = true) (hA : AxisIn w x len cap xa) (hlb : len ≤ 8796093022208) (hs : SpIn s) (hG : G w) :
    Calls Tryd.prog 10 #[.int .u64 p, .slice x len cap, spV s] w fun e w' => e = .returned (.bool true) ∧ Below w.heap.size w w' := by
  obtain ⟨hn, hc1, hc2, hx, -⟩ := hA
  exact steptables_any H p x len cap xa s w hG hx hn hlb hs

end Go.Proofs.YtphghklhknadoaaDoor
