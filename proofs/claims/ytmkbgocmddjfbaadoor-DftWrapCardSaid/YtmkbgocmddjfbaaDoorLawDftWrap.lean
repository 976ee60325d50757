/-
  The walk of the law DftWrap: it returns true for every word, any two slices of words, either way; nothing that was there is written.
-/
import Derived.Test.YtmkbgocmddjfbaaDoorLawDftBack
namespace Go.Proofs.YtmkbgocmddjfbaaDoor
open Go.RowKit Go.Shelf

set_option maxRecDepth 100000 in
set_option maxHeartbeats 2000000 in
theorem dftwrap_no (p : Int) (x y : Option Addr) (n m cap cap' : Nat) (xs ys : List Int) (neg : Bool) (w : World) (hG : Gl w) (hx : Reads .u64 w w.heap.size x xs) (hy : Reads .u64 w w.heap.size y ys) (hn : xs.length = n) (hm : ys.length = m) (hw : Words xs) (hw' : Words ys) (hl : n ≤ 24) (hl' : m ≤ 24)
    (hE : wrapE p xs ys neg ≠ 0) :
    Calls Tryd.prog 6 #[.int .u64 p, .slice x n cap, .slice y m cap', .bool neg] w fun e w' => e = .returned (.bool true) ∧ Below w.heap.size w w' := by
  have hdl : decide (24 < (n : Int)) = false := by simp; omega
  have hdm : decide (24 < (m : Int)) = false := by simp; omega
  have hml : n ≤ maxLen := by unfold maxLen; omega
  have hml' : m ≤ maxLen := by unfold maxLen; omega
  obtain ⟨v1, hv1⟩ : ∃ v, v = Value.slice x n cap := ⟨_, rfl⟩
  obtain ⟨v2, hv2⟩ : ∃ v, v = Value.slice y m cap' := ⟨_, rfl⟩
  have H1 := Lib.hid (fun W (hB : Below w.heap.size w W) => wrap_any p x y n m cap cap' xs ys neg W (hG.then hB) ((hx.below hB).more hB.size) ((hy.below hB).more hB.size) hn hm hw hw' hml hml')
  have H2 := Lib.hid (fun W (hB : Below w.heap.size w W) => wrap_any p y x m n cap' cap ys xs neg W (hG.then hB) ((hy.below hB).more hB.size) ((hx.below hB).more hB.size) hm hn hw' hw hml' hml)
  have HV := Lib.hid (live6_any w hG)
  have e1 : wrp p xs ys neg = [] := by unfold wrp; rw [if_neg hE]
  rw [e1] at H1
  have t1 := ne_of_bne hE
  have t2 := ne_of_bne (wrapE_ne hE)
  generalize wrapE p xs ys neg = er at H1 t1
  generalize wrapE p ys xs neg = er' at H2 t2
  clear hG hx hy hw hw' hE e1 hml hml' hv1 hv2
  go_enter Tryd.func6, Tryd.ntmps6
  go_wp2_with (first
    | (go_at_call 7; refine HV.out.mono ?_; rintro e w1 ⟨rfl, b1⟩; have B1 := Lib.hid b1; clear b1)
    | fail)
  refine (H1.out _ B1.out).mono ?_; rintro e w2 ⟨v, rfl, hO, b2⟩; obtain ⟨y1, c1, rfl, -, -, -, -⟩ := hO.form; have B2 := Lib.hid (below_then B1.out b2); clear b2 hO; simp only [List.length_nil]
  go_wp2_with fail
  refine (H2.out _ B2.out).mono ?_; rintro e w3 ⟨v, rfl, hO, b3⟩; have B3 := Lib.hid (below_then B2.out b3); clear b3 hO
  go_wp2_with fail
  go_ret
  exact ⟨rfl, B3.out⟩

set_option maxRecDepth 100000 in
set_option maxHeartbeats 4000000 in
theorem dftwrap_yes (p : Int) (x y : Option Addr) (n cap cap' : Nat) (xs ys : List Int) (neg : Bool) (w : World) (hG : Gl w) (hx : Reads .u64 w w.heap.size x xs) (hy : Reads .u64 w w.heap.size y ys) (hn : xs.length = n) (hm : ys.length = n) (hw : Words xs) (hw' : Words ys) (hl : n ≤ 24)
    (h : wrapE p xs ys neg = 0) :
    Calls Tryd.prog 6 #[.int .u64 p, .slice x n cap, .slice y n cap', .bool neg] w fun e w' => e = .returned (.bool true) ∧ Below w.heap.size w w' := by
  have hdl : decide (24 < (n : Int)) = false := by simp; omega
  have hnn := neq_self (n : Int)
  have hne : ((n : Int) == (n : Int)) = true := by simp
  have hml : n ≤ maxLen := by unfold maxLen; omega
  obtain ⟨h1, h2, -⟩ := wrapE_zero h
  have l1 := h1.len.1
  rw [hn] at l1
  have hcm := wrapE_comm h
  have H1 := Lib.hid (fun W (hB : Below w.heap.size w W) => wrap_any p x y n n cap cap' xs ys neg W (hG.then hB) ((hx.below hB).more hB.size) ((hy.below hB).more hB.size) hn hm hw hw' hml hml)
  have H2 := Lib.hid (fun W (hB : Below w.heap.size w W) => wrap_any p y x n n cap' cap ys xs neg W (hG.then hB) ((hy.below hB).more hB.size) ((hx.below hB).more hB.size) hm hn hw' hw hml hml)
  have HF1 := Lib.hid (fun W (hB : Below w.heap.size w W) => forward_any p x n cap xs neg W (hG.then hB) ((hx.below hB).more hB.size) hn hw hml)
  have HF2 := Lib.hid (fun W (hB : Below w.heap.size w W) => forward_any p y n cap' ys neg W (hG.then hB) ((hy.below hB).more hB.size) hm hw' hml)
  have hwl : (wrp p xs ys neg).length = n := by rw [wrp_len h, hn]
  have HF3 := Lib.hid (fun W z c3 (hB : Below w.heap.size w W) (hr : Reads .u64 W W.heap.size z (wrp p xs ys neg)) => forward_any p z n c3 _ neg W (hG.then hB) hr hwl (wrp_words h) hml)
  rw [h] at H1
  rw [hcm, ← wrp_comm h] at H2
  rw [h1.zero, h1.fwd, hn] at HF1
  rw [h2.zero, h2.fwd, hm] at HF2
  rw [(wrp_line h).zero, (wrp_line h).fwd, hwl] at HF3
  have HS := Lib.hid (fun W z1 z2 k1 k2 (hr1 : Reads .u64 W W.heap.size z1 (wrp p xs ys neg)) (hr2 : Reads .u64 W W.heap.size z2 (wrp p xs ys neg)) => same_yes z1 z2 n n k1 k2 _ _ W W.heap.size hr1 hr2 hwl hwl (by omega) (by omega) rfl)
  have HV := Lib.hid (live6_any w hG)
  have HM : Hid (∀ k, fwdN p (wrp p xs ys neg) neg k = Fp.mul p (fwdN p xs neg k) (fwdN p ys neg k)) := Lib.hid (wrp_fwd h)
  have HBD : Hid (∀ k, (0 ≤ fwdN p xs neg k ∧ fwdN p xs neg k < 18446744073709551616) ∧ (0 ≤ fwdN p ys neg k ∧ fwdN p ys neg k < 18446744073709551616)) := Lib.hid (fun k => by
    have p2 := (Fp.kn_bd h1.kn).2
    have a1 := fwdN_bd (xs := xs) (neg := neg) h1.kn k
    have a2 := fwdN_bd (xs := ys) (neg := neg) h1.kn k
    refine ⟨⟨a1.1, by omega⟩, a2.1, by omega⟩)
  have HLN : Hid (∀ f : Nat → Int, ((List.range n).map f).length = n) := Lib.hid (fun f => by simp)
  have HWL := Lib.hid hwl
  generalize fwdN p (wrp p xs ys neg) neg = f3 at HF3 HM
  generalize wrp p xs ys neg = ws at H1 H2 HF3 HS HWL
  generalize fwdN p xs neg = f1 at HF1 HM HBD
  generalize fwdN p ys neg = f2 at HF2 HM HBD
  clear hG hx hy hw hw' h h1 h2 hn hm hml hcm hwl
  go_enter Tryd.func6, Tryd.ntmps6
  go_wp2_with (first
    | (go_at_call 7; refine HV.out.mono ?_; rintro e w1 ⟨rfl, b1⟩; have B1 := Lib.hid b1; clear b1)
    | fail)
  refine (H1.out _ B1.out).mono ?_; rintro e w2 ⟨v, rfl, hO, b2⟩; obtain ⟨y1, k1, rfl, -, -, hr, -⟩ := hO.form; have R1 := Lib.hid hr; have B2 := Lib.hid (below_then B1.out b2); rw [HWL.out]; clear b2 hO hr
  go_wp2_with fail
  refine (H2.out _ B2.out).mono ?_; rintro e w3 ⟨v, rfl, hO, b3⟩; obtain ⟨y2, k2, rfl, -, -, hr, -⟩ := hO.form; have R2 := Lib.hid hr; have B3 := Lib.hid (below_then B2.out b3); rw [HWL.out]; have S1 := Lib.hid ((R1.out.below b3).more b3.size); clear b3 hO hr R1
  go_wp2_with fail
  refine (HF1.out _ B3.out).mono ?_; rintro e w4 ⟨v, rfl, hO, b4⟩; obtain ⟨y3, k3, rfl, -, -, hr, -⟩ := hO.form; have R3 := Lib.hid hr; have B4 := Lib.hid (below_then B3.out b4); rw [HLN.out]; have T1 := Lib.hid ((S1.out.below b4).more b4.size); have T2 := Lib.hid ((R2.out.below b4).more b4.size); clear b4 hO hr S1 R2
  go_wp2_with fail
  refine (HF2.out _ B4.out).mono ?_; rintro e w5 ⟨v, rfl, hO, b5⟩; obtain ⟨y4, k4, rfl, -, -, hr, -⟩ := hO.form; have R4 := Lib.hid hr; have B5 := Lib.hid (below_then B4.out b5); rw [HLN.out]; have U1 := Lib.hid ((T1.out.below b5).more b5.size); have U2 := Lib.hid ((T2.out.below b5).more b5.size); have U3 := Lib.hid ((R3.out.below b5).more b5.size); clear b5 hO hr T1 T2 R3
  go_wp2_with fail
  refine (HF3.out _ _ _ B5.out U1.out).mono ?_; rintro e w6 ⟨v, rfl, hO, b6⟩; obtain ⟨y5, k5, rfl, -, -, hr, -⟩ := hO.form; have R5 := Lib.hid hr; have B6 := Lib.hid (below_then B5.out b6); rw [HLN.out]; have V1 := Lib.hid ((U1.out.below b6).more b6.size); have V2 := Lib.hid ((U2.out.below b6).more b6.size); have V3 := Lib.hid ((U3.out.below b6).more b6.size); have V4 := Lib.hid ((R4.out.below b6).more b6.size); clear b6 hO hr U1 U2 U3 R4
  go_wp2_with (go_at_call 14; refine (HS.out _ _ _ _ _ V1.out V2.out).mono ?_; rintro e w' ⟨rfl, nd, rfl⟩)
  go_loopw [112] (fun i wi => ∃ j q : Nat, j ≤ n ∧ i = .int .i64 (j : Int) ∧ wi = w6.drewN q) (fun i _ => n - (intOf i).toNat)
  case atStart => exact ⟨0, nd, Nat.zero_le _, rfl, rfl⟩
  case round =>
    obtain ⟨j, q, hj, rfl, hq⟩ := hrel
    by_cases hlj : j < n
    · have hdj : decide (j < n) = true := by simpa using hlj
      obtain ⟨d3, o3, rfl, -, hc3⟩ := V3.out (by rw [HLN.out]; omega)
      obtain ⟨d4, o4, rfl, -, hc4⟩ := V4.out (by rw [HLN.out]; omega)
      obtain ⟨d5, o5, rfl, -, hc5⟩ := R5.out (by rw [HLN.out]; omega)
      have a3 := hc3 j (by rw [HLN.out]; omega)
      have a4 := hc4 j (by rw [HLN.out]; omega)
      have a5 := hc5 j (by rw [HLN.out]; omega)
      rw [getD_range _ hlj] at a3 a4 a5
      have hcq : ∀ ad, w6.cell? ad = wr.cell? ad := fun ad => by rw [hq]; rfl
      rw [hcq] at a3 a4 a5
      have HQ := Lib.hid hq
      obtain ⟨⟨r1, s1⟩, r2, s2⟩ := HBD.out j
      rw [HM.out j] at a5
      obtain ⟨u1, hu1⟩ : ∃ u, u = f1 j := ⟨_, rfl⟩
      obtain ⟨u2, hu2⟩ : ∃ u, u = f2 j := ⟨_, rfl⟩
      rw [← hu1] at a3 a5 r1 s1
      rw [← hu2] at a4 a5 r2 s2
      have n1 := neq_self (Fp.mul p u1 u2)
      clear hcq hq hc3 hc4 hc5 hu1 hu2
      go_wp2
      go_quiet ((go_at_call 19; exact Calls.quiet_of (mul_any _ _ _ _ (by omega) (by omega) (by omega) (by omega))))
      go_wp2
      go_roundw
      case rel => exact ⟨j + 1, _, by omega, by go_num, by rw [HQ.out, World.drewN_drewN]⟩
      case measure => simp [intOf]; omega
    · have HQ : Hid (Below w.heap.size w wr) := Lib.hid (by rw [hq]; exact below_draws B6.out _)
      clear hq
      go_wp2
      go_ret
      exact ⟨rfl, HQ.out⟩

set_option maxRecDepth 100000 in
theorem walk_DftWrap (p : Int) (x : Option Addr) (len cap : Nat) (zs : List Int) (y : Option Addr) (len' cap' : Nat) (zs' : List Int) (neg : Bool) (w : World) (_hp : (Lit.int .u64 p).wf = true) (hr : RowIn .u64 w x len cap zs) (hr' : RowIn .u64 w y len' cap' zs') (hG : Gl w) :
    Calls Tryd.prog 6 #[.int .u64 p, .slice x len cap, .slice y len' cap', .bool neg] w fun e w' => e = .returned (.bool true) ∧ Below w.heap.size w w' := by
  obtain ⟨xs, -, hn, hcp, hm, hx, hw⟩ := hr.reads
  obtain ⟨ys, -, hn', hcp', hm', hy, hw'⟩ := hr'.reads
  unfold maxLen at hm hm'
  by_cases hl : len ≤ 24
  · by_cases hl' : len' ≤ 24
    · by_cases hE : wrapE p xs ys neg = 0
      · obtain ⟨_, _, h3⟩ := wrapE_zero hE
        obtain rfl : len = len' := by omega
        exact dftwrap_yes p x y len cap cap' xs ys neg w hG hx hy hn hn' hw hw' hl hE
      · exact dftwrap_no p x y len len' cap cap' xs ys neg w hG hx hy hn hn' hw hw' hl hl' hE
    · have hdl : decide (24 < (len : Int)) = false := by simp; omega
      have hdl' : decide (24 < (len' : Int)) = true := by simp; omega
      have HV := Lib.hid (live6_any w hG)
      clear hr hr' hx hy hG
      go_enter Tryd.func6, Tryd.ntmps6
      go_wp2_with (go_at_call 7; refine HV.out.mono ?_; rintro e w1 ⟨rfl, b1⟩)
      go_ret
      exact ⟨rfl, b1⟩
  · have hdl : decide (24 < (len : Int)) = true := by simp; omega
    have HV := Lib.hid (live6_any w hG)
    clear hr hr' hx hy hG
    go_enter Tryd.func6, Tryd.ntmps6
    go_wp2_with (go_at_call 7; refine HV.out.mono ?_; rintro e w1 ⟨rfl, b1⟩)
    go_ret
    exact ⟨rfl, b1⟩

end Go.Proofs.YtmkbgocmddjfbaaDoor
