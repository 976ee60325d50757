/-
  The walk of the law StepTwist: it returns true for every prime, all axes, every axis, all words; nothing that was there is written.
-/
import Derived.Test.YtphghklhknadoaaDoorStepA
import Derived.Test.YtphghklhknadoaaDoorGrids
import Derived.Test.YtphghklhknadoaaDoorRows2
import Derived.Deep.RegionWith
namespace Go.Proofs.YtphghklhknadoaaDoor
open Go.RowKit

theorem twist_in {a : Int} (ha : -9223372036854775808 ≤ a ∧ a < 9223372036854775808) : SpIn ⟨a, true, noSt⟩ := ⟨ha, by unfold noSt; dsimp only; omega, by unfold noSt; dsimp only; omega, by unfold noSt; dsimp only; omega⟩
theorem isIn_words {p : Int} {xa : List Ax} {s : Sp} {xs : List Int} (h : Stp.Wok p xa s xs) {a : Nat} (ha : s.ax.toNat = a) : (xa.getD a noAx).n = ((gL xa a : Nat) : Int) ∧ 1 ≤ gL xa a ∧ gL xa a ≤ 4096 ∧ a < xa.length ∧ (a : Int) = s.ax := by
  subst ha
  have := h.ok.lo
  exact ⟨h.ok.ax.int h.ok.hi, h.ok.ax.L h.ok.hi, h.ok.ax.L_le h.ok.hi, h.ok.hi, by omega⟩

set_option maxRecDepth 100000 in
set_option maxHeartbeats 4000000 in
theorem steptwist_any {G : World → Prop} (H : StepHas G) (p : Int) (x : Option Addr) (n cap : Nat) (xa : List Ax) (a : Int) (y : Option Addr) (m cap' : Nat) (xs : List Int) (w : World) (hG : G w) (hx : ReadsA w w.heap.size x xa) (hn : xa.length = n) (hlb : n ≤ 8796093022208) (ha : -9223372036854775808 ≤ a ∧ a < 9223372036854775808)
    (hy : Reads .u64 w w.heap.size y xs) (hm : xs.length = m) (hw : Words xs) (hml : m ≤ maxLen) :
    Calls Tryd.prog 11 #[.int .u64 p, .slice x n cap, .int .i64 a, .slice y m cap'] w fun e w' => e = .returned (.bool true) ∧ Below w.heap.size w w' := by
  have HV := Lib.hid (live16_any H _ hG)
  obtain ⟨b, HFew⟩ := few_any x n cap xa 40 w hx hn hlb
  have hs := twist_in ha
  have HD := Lib.hid (fun W (hB : Below w.heap.size w W) => H.doo p x n cap xa false ⟨a, true, noSt⟩ y m cap' xs W (H.keep hG hB) ((hx.below hB).more hB.size) hn hlb hs ((hy.below hB).more hB.size) hm hw hml)
  cases b
  · clear HD hx hy hG hw hm hn hml H
    go_enter Tryd.func11, Tryd.ntmps11
    go_wp2_with (first
      | (go_at_call 12; refine HV.out.mono ?_; rintro e w1 ⟨rfl, b1⟩; have B1 := Lib.hid b1; clear b1)
      | (go_at_call 13; refine (HFew.out _ B1.out).mono ?_; rintro e w2 ⟨rfl, b2⟩; have B2 := Lib.hid (below_then B1.out b2); clear b2))
    go_ret
    exact ⟨rfl, B2.out⟩
  by_cases hl : 50 < m
  · have d1 : decide (50 < (m : Int)) = true := by simp; omega
    clear HD hx hy hG hw hm hn hml H
    go_enter Tryd.func11, Tryd.ntmps11
    go_wp2_with (first
      | (go_at_call 12; refine HV.out.mono ?_; rintro e w1 ⟨rfl, b1⟩; have B1 := Lib.hid b1; clear b1)
      | (go_at_call 13; refine (HFew.out _ B1.out).mono ?_; rintro e w2 ⟨rfl, b2⟩; have B2 := Lib.hid (below_then B1.out b2); clear b2))
    go_ret
    exact ⟨rfl, B2.out⟩
  have d1 : decide (50 < (m : Int)) = false := by simp; omega
  by_cases hE : Stp.wE p xa ⟨a, true, noSt⟩ xs = 0
  · have hok := Stp.wE_zero hE
    obtain ⟨k, rfl⟩ : ∃ k : Nat, a = (k : Int) := ⟨a.toNat, by have := hok.ok.lo; dsimp only at this; omega⟩
    obtain ⟨hN, hL1, hL2, hka, -⟩ := isIn_words hok (a := k) (by simp)
    have hk := hok.ok.ax.kn
    rw [hE, hok.wL] at HD
    have hl1 := Stp.stp_len p xa false ⟨k, true, noSt⟩ xs
    rw [hm] at hl1
    have hok2 := hok.stp (inv := false)
    have HD2 := Lib.hid (fun (z : Option Addr) (c : Nat) W (hB : Below w.heap.size w W) (hz : Reads .u64 W W.heap.size z (Stp.stp p xa false ⟨k, true, noSt⟩ xs)) => H.doo p x n cap xa true ⟨k, true, noSt⟩ z m c _ W (H.keep hG hB) ((hx.below hB).more hB.size) hn hlb hs hz hl1 (Stp.stp_words hk xa false _ xs) hml)
    rw [hok2.zero, hok2.wL] at HD2
    have hl2 : (Stp.stp p xa true ⟨k, true, noSt⟩ (Stp.stp p xa false ⟨k, true, noSt⟩ xs)).length = m := by rw [Stp.stp_len, hl1]
    have HZ : Hid (∀ i, i < m → Fp.mul p ((Stp.stp p xa true ⟨k, true, noSt⟩ (Stp.stp p xa false ⟨k, true, noSt⟩ xs)).getD i 0) ((gL xa k : Nat) : Int) = xs.getD i 0) := Lib.hid (fun i hi => Stp.twist_back hok hw (by omega))
    have HW2 := Lib.hid (Stp.stp_words hk xa true ⟨k, true, noSt⟩ (Stp.stp p xa false ⟨k, true, noSt⟩ xs))
    have HSm : Hid (gN xa k = false → Stp.stp p xa false ⟨k, true, noSt⟩ xs = xs) := Lib.hid (fun h => Stp.twist_same hok hw h)
    have HL1 := Lib.hid hl1
    have HL2 := Lib.hid hl2
    have HX := Lib.hid hx
    have HY := Lib.hid hy
    have HM := Lib.hid hm
    have hdk : decide (k < n) = true := by simp; omega
    have hdn : decide (n ≤ k) = false := by simp; omega
    have hm0 := hok.le
    rw [hm] at hm0
    have hka' : k < n := by omega
    have HKA := Lib.hid hka
    have hnn : ((gL xa k : Nat) : Int) ≤ 4096 := by omega
    have hNe : (xa.getD k noAx).neg = gN xa k := rfl
    generalize Stp.stp p xa true ⟨k, true, noSt⟩ (Stp.stp p xa false ⟨k, true, noSt⟩ xs) = zs at HD2 HZ HW2 HL2
    generalize Stp.stp p xa false ⟨k, true, noSt⟩ xs = ys at HD HD2 HL1 HSm
    generalize gL xa k = N at hN hL1 hL2 HZ hnn
    generalize gN xa k = neg at HSm hNe
    have hwr : IntKind.u64.wrap (N : Int) = (N : Int) := by rw [IntKind.wrap_u64]; omega
    unfold spV noSt at HD HD2
    dsimp only at HD HD2
    have nn : ((m : Int) != (m : Int)) = false := by simp
    clear hx hy hG hw hm hn hml H hE hok hok2 hl1 hl2 hs hk ha hka
    go_enter Tryd.func11, Tryd.ntmps11
    go_wp2_with (first
      | (go_at_call 12; refine HV.out.mono ?_; rintro e w1 ⟨rfl, b1⟩; have B1 := Lib.hid b1; clear b1)
      | (go_at_call 13; refine (HFew.out _ B1.out).mono ?_; rintro e w2 ⟨rfl, b2⟩; have B2 := Lib.hid (below_al (below_then B1.out b2) (.cells #[.int .i64 (k : Int), .bool true, .int .i64 0, .int .i64 0, .int .i64 0] 27)); have S2 := Lib.hid (SpAt.new w2 27 ⟨k, true, ⟨0, 0, 0⟩⟩); clear b2)
      | (go_at_call_of 14 (Value.slice y m cap'); refine (HD.out _ B2.out).mono ?_; rintro e w3 ⟨v, rfl, hO, b3⟩; obtain ⟨y1, c1, rfl, -, -, hr1, -⟩ := hO.form; have R1 := Lib.hid hr1; have B3 := Lib.hid (below_then B2.out b3); have S3 := Lib.hid (S2.out.then b3); obtain ⟨q0, q1, q2, q3, q4⟩ := S3.out; dsimp only at q0 q1 q2 q3 q4; rw [HL1.out]; clear b3 hO hr1)
      | (go_at_call 14; refine (HD2.out _ _ _ B3.out R1.out).mono ?_; rintro e w4 ⟨v, rfl, hO, b4⟩; obtain ⟨y2, c2, rfl, -, -, hr2, -⟩ := hO.form; have R2 := Lib.hid hr2; replace R1 := Lib.hid ((R1.out.below b4).more b4.size); have B4 := Lib.hid (below_then B3.out b4); rw [HL2.out]; clear b4 hO hr2 q0 q1 q2 q3 q4))
    go_loopw [69] (fun i wi => ∃ j q : Nat, j ≤ m ∧ i = .int .i64 (j : Int) ∧ wi = w4.drewN q) (fun i _ => m - (intOf i).toNat)
    case atStart => exact ⟨0, 0, Nat.zero_le _, rfl, rfl⟩
    case round =>
      obtain ⟨j, q, hj, rfl, hq⟩ := hrel
      obtain ⟨bx, ox, rfl, hbx, hcx⟩ := HX.out (by have := HKA.out; omega)
      obtain ⟨x1, x2⟩ := hcx k (HKA.out)
      have x1' := (B4.out.cell (p := ⟨bx, ox + k * 2, none⟩) hbx).trans x1
      have x2' := (B4.out.cell (p := ⟨bx, ox + k * 2 + 1, none⟩) hbx).trans x2
      rw [hN] at x1'
      rw [hNe] at x2'
      have hcq : ∀ ad, w4.cell? ad = wr.cell? ad := fun ad => by rw [hq]; rfl
      by_cases hlj : j < m
      · have hdj : decide (j < m) = true := by simpa using hlj
        obtain ⟨d1', o1, rfl, hd1, hc1⟩ := HY.out (by rw [HM.out]; omega)
        obtain ⟨d2', o2, rfl, -, hc2⟩ := R2.out (by rw [HL2.out]; omega)
        have a1 := (B4.out.cell (p := ⟨d1', o1 + j, none⟩) hd1).trans (hc1 j (by rw [HM.out]; exact hlj))
        have a2 := hc2 j (by rw [HL2.out]; exact hlj)
        have hz := HZ.out j hlj
        obtain ⟨u0, u1⟩ := HW2.out j
        obtain ⟨u, hu⟩ : ∃ u, u = xs.getD j 0 := ⟨_, rfl⟩
        obtain ⟨v, hv⟩ : ∃ v, v = zs.getD j 0 := ⟨_, rfl⟩
        rw [← hu] at a1 hz
        rw [← hv] at a2 hz u0 u1
        rw [hcq] at a1 a2 x1'
        have HQ := Lib.hid hq
        have HZj := Lib.hid hz
        have n1 : (u != u) = false := by simp
        clear hc1 hc2 hu hv hcq hq hz hcx x1 x2 x2'
        have n2 : (Fp.mul p v (N : Int) != u) = false := by rw [HZj.out]; exact n1
        go_wp2
        go_quiet (first | (go_at_call 31; exact Calls.quiet_of (mul_any _ _ _ _ (by omega) (by omega) (by omega) (by omega))))
        go_wp2
        go_roundw
        case rel => exact ⟨j + 1, _, by omega, by go_num, by rw [HQ.out, World.drewN_drewN]⟩
        case measure => simp [intOf]; omega
      · have hdj : decide (j < m) = false := by simp; omega
        have HQ : Hid (Below w.heap.size w wr) := Lib.hid (by rw [hq]; exact below_draws B4.out q)
        have R1' : Hid (Reads .u64 wr wr.heap.size y1 ys) := Lib.hid (by rw [hq]; exact R1.out)
        have HYw := Lib.hid ((HY.out.below HQ.out).more HQ.out.size)
        rw [hcq] at x2'
        clear hcx x1 x2 x1' hcq hq
        cases neg
        · have HSe := Lib.hid (fun W (h1 : Reads .u64 W W.heap.size y1 ys) (h2 : Reads .u64 W W.heap.size y xs) => same_self y1 y m c1 cap' xs W W.heap.size (by rw [← HSm.out rfl]; exact h1) h2 HM.out (by omega))
          go_wp2_with (go_at_call 18; refine (HSe.out _ R1'.out HYw.out).mono ?_; rintro e w' ⟨rfl, n6, rfl⟩)
          go_ret
          exact ⟨rfl, below_draws HQ.out _⟩
        · go_wp2
          go_ret
          exact ⟨rfl, HQ.out⟩
  · rw [Stp.wL_no hE] at HD
    have t := ne_of_bne hE
    generalize Stp.wE p xa ⟨a, true, noSt⟩ xs = er at HD t
    unfold spV noSt at HD
    dsimp only at HD
    clear hx hy hG hw hm hn hml H hE hs
    go_enter Tryd.func11, Tryd.ntmps11
    go_wp2_with (first
      | (go_at_call 12; refine HV.out.mono ?_; rintro e w1 ⟨rfl, b1⟩; have B1 := Lib.hid b1; clear b1)
      | (go_at_call 13; refine (HFew.out _ B1.out).mono ?_; rintro e w2 ⟨rfl, b2⟩; have B2 := Lib.hid (below_al (below_then B1.out b2) (.cells #[.int .i64 a, .bool true, .int .i64 0, .int .i64 0, .int .i64 0] 27)); clear b2)
      | (go_at_call 14; refine (HD.out _ B2.out).mono ?_; rintro e w3 ⟨v, rfl, hO, b3⟩; obtain ⟨y1, c1, rfl, -, -, -, -⟩ := hO.form; have B3 := Lib.hid (below_then B2.out b3); simp only [List.length_nil]; clear b3 hO))
    go_ret
    exact ⟨rfl, B3.out⟩

theorem steptwist_walk {G : World → Prop} (H : StepHas G) (p : Int) (x : Option Addr) (len cap : Nat) (xa : List Ax) (a : Int) (y : Option Addr) (m cap' : Nat) (zs : List Int) (w : World) (_hp : (Lit.int .u64 p).wf = true) (hA : AxisIn w x len cap xa) (hlb : len ≤ 8796093022208) (ha : (Lit.int .i64 a).wf = true) (hr : RowIn .u64 w y m cap' zs) (hG : G w) :
    Calls Tryd.prog 11 #[.int .u64 p, .slice x len cap, .int .i64 a, .slice y m cap'] w fun e w' => e = .returned (.bool true) ∧ Below w.heap.size w w' := by
  obtain ⟨hn, hc1, hc2, hx, -⟩ := hA
  obtain ⟨xs, -, hm, hcp, hml, hy, hw⟩ := hr.reads
  have hb := i64_of ha
  exact steptwist_any H p x len cap xa a y m cap' xs w hG hx hn hlb (by omega) hy hm hw (Nat.le_trans hcp hml)

end Go.Proofs.YtphghklhknadoaaDoor
