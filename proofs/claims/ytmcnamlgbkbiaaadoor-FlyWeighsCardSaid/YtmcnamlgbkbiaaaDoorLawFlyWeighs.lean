/-
  The walk of the law FlyWeighs: it returns true for every prime, any words and weights, either way; nothing that was there is written.
-/
import Derived.Test.YtmcnamlgbkbiaaaDoorLawFlyBack
namespace Go.Proofs.YtmcnamlgbkbiaaaDoor
open Go.RowKit Fly

theorem eq_same (a : Int) : (a == a) = true := by simp
theorem wgE_comm {p : Int} {xs ws : List Int} (hl : ws.length = xs.length) : wgE p ws xs = wgE p xs ws := by
  unfold wgE doE
  rw [hl]
  by_cases h : ptE p xs.length = 0
  · rw [if_pos h]
    cases h1 : inB p xs <;> cases h2 : inB p ws <;> simp [h]
  · rw [if_neg h]
    simp [h]

set_option maxRecDepth 100000 in
set_option maxHeartbeats 2000000 in
theorem flyweighs_any {G : World → Prop} (H : FlyHas G) (p : Int) (inv : Bool) (x y : Option Addr) (n cap cap' : Nat) (xs ws : List Int) (w : World) (hG : G w) (hx : Reads .u64 w w.heap.size x xs) (hy : Reads .u64 w w.heap.size y ws) (hn : xs.length = n) (hm : ws.length = n) (hw : Words xs) (hv : Words ws) (hl : n ≤ 12) :
    Calls Tryd.prog 9 #[.int .u64 p, .bool inv, .slice x n cap, .slice y n cap'] w fun e w' => e = .returned (.bool true) ∧ Below w.heap.size w w' := by
  have hdl : decide (12 < (n : Int)) = false := by simp; omega
  have hnn := neq_same (n : Int)
  have hml : n ≤ maxLen := by unfold maxLen; omega
  have HW1 := Lib.hid (fun W (hB : Below w.heap.size w W) => H.weigh p inv x y n n cap cap' xs ws W (H.keep hG hB) ((hx.below hB).more hB.size) hn hw ((hy.below hB).more hB.size) hm hv hml hml)
  have HW2 := Lib.hid (fun W (hB : Below w.heap.size w W) => H.weigh p inv y x n n cap' cap ws xs W (H.keep hG hB) ((hy.below hB).more hB.size) hm hv ((hx.below hB).more hB.size) hn hw hml hml)
  have HF := Lib.hid (fun W (hB : Below w.heap.size w W) => H.doo p inv y n cap' ws W (H.keep hG hB) ((hy.below hB).more hB.size) hm hv hml)
  have HV := Lib.hid (live15_any H w hG)
  have hc := wgE_comm (p := p) (xs := xs) (ws := ws) (by omega)
  by_cases hE : wgE p xs ws = 0
  · obtain ⟨f1, f2, f3⟩ := wgE_zero hE
    have l1 := f1.rdx.lo
    rw [hn] at l1
    have v1 : wgV p inv xs ws = wgN p inv n (el xs) (el ws) := by unfold wgV; rw [if_pos hE, hn]
    have v2 : wgV p inv ws xs = wgN p inv n (el xs) (el ws) := by unfold wgV; rw [if_pos (hc.trans hE), hm, wgN_comm]
    rw [v1, hE] at HW1
    rw [v2, hc, hE] at HW2
    rw [f3.zero, f3.doL, hm] at HF
    have HA := Lib.hid (fun m => wacc_more (inv := inv) (n := n) (x := el ws) (w := el xs) f1.rdx.kn m)
    have HZ : Hid (wacc p inv n (el ws) (el xs) n = wgN p inv n (el xs) (el ws)) := Lib.hid (by rw [wacc_all, wgN_comm])
    have H0 := Lib.hid (wacc_zero (p := p) (inv := inv) (n := n) (x := el ws) (w := el xs))
    have HS := Lib.hid (fun m => wacc_bd (inv := inv) (n := n) (x := el ws) (w := el xs) f1.rdx.kn m)
    have HDb := Lib.hid (fun u => doN_bd (inv := inv) (n := n) (x := el ws) f1.rdx.kn u)
    have HK := Lib.hid (Fp.kn_bd f1.rdx.kn)
    have HX := Lib.hid hx
    have HW := Lib.hid hw
    have HN := Lib.hid hn
    have nn := eq_same (wgN p inv n (el xs) (el ws))
    generalize wacc p inv n (el ws) (el xs) = A at HA HZ H0 HS
    generalize doN p inv n (el ws) = d at HA HF HDb
    generalize wgN p inv n (el xs) (el ws) = res at HZ HW1 HW2 nn
    clear H hG hx hy hw hv hn hm hc hE f1 f2 f3 v1 v2
    go_enter Tryd.func9, Tryd.ntmps9
    go_wp2_with (first
      | (go_at_call 10; refine HV.out.mono ?_; rintro e w1 ⟨rfl, b1⟩; have B1 := Lib.hid b1; clear b1)
      | (go_at_call 15; first | (refine (HW1.out _ B1.out).mono ?_; rintro e w2 ⟨rfl, b2⟩; have B2 := Lib.hid (below_then B1.out b2); clear b2 B1) | (refine (HW2.out _ B2.out).mono ?_; rintro e w3 ⟨rfl, b3⟩; have B3 := Lib.hid (below_then B2.out b3); clear b3))
      | (go_at_call 13; refine (HF.out _ B3.out).mono ?_; rintro e w4 ⟨v, rfl, hO, b4⟩; obtain ⟨y1, c1, rfl, -, -, hr, -⟩ := hO.form; rw [List.length_map, List.length_range]; have R1 := Lib.hid hr; have B4 := Lib.hid (below_then B3.out b4); clear b4 hO hr))
    go_loopw [15, 81] (fun s i wi => ∃ m q : Nat, m ≤ n ∧ i = .int .i64 (m : Int) ∧ s = .int .u64 (A m) ∧ wi = w4.drewN q) (fun _ i _ => n - (intOf i).toNat)
    case atStart => exact ⟨0, 0, Nat.zero_le _, rfl, by rw [H0.out], rfl⟩
    case round =>
      obtain ⟨m, q, hm, rfl, rfl, rfl⟩ := hrel
      by_cases hlm : m < n
      · have hdm : decide (m < n) = true := by simpa using hlm
        obtain ⟨d1, o1, rfl, hd1, hc1⟩ := HX.out (by have := HN.out; omega)
        obtain ⟨d2, o2, rfl, -, hc2⟩ := R1.out (by rw [List.length_map, List.length_range]; omega)
        have a1 := (B4.out.cell (p := ⟨d1, o1 + m, none⟩) hd1).trans (hc1 m (by have := HN.out; omega))
        have a2 := hc2 m (by rw [List.length_map, List.length_range]; exact hlm)
        rw [show ((List.range n).map d).getD m 0 = d m from el_map d hlm] at a2
        obtain ⟨y0, y1⟩ := HW.out m
        obtain ⟨d0, d1'⟩ := HDb.out m
        obtain ⟨s0, s1⟩ := HS.out m
        obtain ⟨p0, p1⟩ := HK.out
        have HT := Lib.hid (HA.out m)
        obtain ⟨u, hu⟩ : ∃ u, u = d m := ⟨_, rfl⟩
        obtain ⟨gv, hgv⟩ : ∃ gv, gv = xs.getD m 0 := ⟨_, rfl⟩
        obtain ⟨sv, hsv⟩ : ∃ sv, sv = A m := ⟨_, rfl⟩
        unfold el at HT
        rw [← hu, ← hgv, ← hsv] at HT
        rw [← hu] at a2 d0 d1'
        rw [← hgv] at a1 y0 y1
        rw [← hsv] at s0 s1
        rw [← hsv]
        obtain ⟨t0, t1, -⟩ := Fp.mul_bd p u gv
        clear hu hgv hsv hc1 hc2
        go_wp2_with (first
          | (go_at_call 19; refine (mul_any _ _ _ _ (by omega) (by omega) (by omega) (by omega)).mono ?_; rintro e w' ⟨rfl, n2, rfl⟩)
          | (go_at_call 20; refine (add_any _ _ _ _ (by omega) (by omega) (by omega) (by omega)).mono ?_; rintro e w' ⟨rfl, n3, rfl⟩))
        go_roundw
        case rel => exact ⟨m + 1, _, by omega, by go_num, by rw [HT.out], rfl⟩
        case measure => simp [intOf]; omega
      · obtain rfl : m = n := by omega
        rw [HZ.out]
        have HQ := Lib.hid (below_draws B4.out q)
        clear HA HZ H0 HS HDb
        go_wp2
        go_ret
        exact ⟨rfl, HQ.out⟩
  · have v1 : wgV p inv xs ws = 0 := by unfold wgV; rw [if_neg hE]
    have v2 : wgV p inv ws xs = 0 := by unfold wgV; rw [if_neg (by rw [hc]; exact hE)]
    rw [v1] at HW1
    rw [v2, hc] at HW2
    have t1 : (wgE p xs ws != 0) = true := bne_iff_ne.2 hE
    have t2 := eq_same (wgE p xs ws)
    generalize wgE p xs ws = er at HW1 HW2 t1 t2
    generalize doE p ws = er2 at HF
    generalize doL p inv ws = gs at HF
    clear H hG hx hy hw hv hn hm hc hE v1 v2
    go_enter Tryd.func9, Tryd.ntmps9
    go_wp2_with (first
      | (go_at_call 10; refine HV.out.mono ?_; rintro e w1 ⟨rfl, b1⟩; have B1 := Lib.hid b1; clear b1)
      | (go_at_call 15; first | (refine (HW1.out _ B1.out).mono ?_; rintro e w2 ⟨rfl, b2⟩; have B2 := Lib.hid (below_then B1.out b2); clear b2 B1) | (refine (HW2.out _ B2.out).mono ?_; rintro e w3 ⟨rfl, b3⟩; have B3 := Lib.hid (below_then B2.out b3); clear b3))
      | (go_at_call 13; refine (HF.out _ B3.out).mono ?_; rintro e w4 ⟨v, rfl, hO, b4⟩; have B4 := Lib.hid (below_then B3.out b4); clear b4 hO))
    go_ret
    exact ⟨rfl, B4.out⟩

set_option maxRecDepth 100000 in
theorem flyweighs_walk {G : World → Prop} (H : FlyHas G) (p : Int) (inv : Bool) (x : Option Addr) (len cap : Nat) (zs : List Int) (y : Option Addr) (len' cap' : Nat) (zs' : List Int) (w : World) (_hp : (Lit.int .u64 p).wf = true) (hr : RowIn .u64 w x len cap zs) (hr' : RowIn .u64 w y len' cap' zs') (hG : G w) :
    Calls Tryd.prog 9 #[.int .u64 p, .bool inv, .slice x len cap, .slice y len' cap'] w fun e w' => e = .returned (.bool true) ∧ Below w.heap.size w w' := by
  obtain ⟨xs, -, hn, hcp, hm, hx, hw⟩ := hr.reads
  obtain ⟨ys, -, hn', hcp', hm', hy, hw'⟩ := hr'.reads
  unfold maxLen at hm hm'
  by_cases hl : len ≤ 12
  · by_cases hll : len = len'
    · subst hll
      exact flyweighs_any H p inv x y len cap cap' xs ys w hG hx hy hn hn' hw hw' hl
    · have hdl : decide (12 < (len : Int)) = false := by simp; omega
      have hnn : ((len : Int) != (len' : Int)) = true := by rw [bne_iff_ne]; omega
      have HV := Lib.hid (live15_any H w hG)
      clear hr hr' hx hy hG H
      go_enter Tryd.func9, Tryd.ntmps9
      go_wp2_with (go_at_call 10; refine HV.out.mono ?_; rintro e w1 ⟨rfl, b1⟩)
      go_ret
      exact ⟨rfl, b1⟩
  · have hdl : decide (12 < (len : Int)) = true := by simp; omega
    have HV := Lib.hid (live15_any H w hG)
    clear hr hr' hx hy hG H
    go_enter Tryd.func9, Tryd.ntmps9
    go_wp2_with (go_at_call 10; refine HV.out.mono ?_; rintro e w1 ⟨rfl, b1⟩)
    go_ret
    exact ⟨rfl, b1⟩

end Go.Proofs.YtmcnamlgbkbiaaaDoor
