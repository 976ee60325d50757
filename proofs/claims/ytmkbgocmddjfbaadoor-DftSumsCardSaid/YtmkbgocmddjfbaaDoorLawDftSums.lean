/-
  The walk of the law DftSums: it returns true for every word, any two slices of words, every number, either way; nothing that was there is written.
-/
import Derived.Test.YtmkbgocmddjfbaaDoorLawDftBack
import Derived.Test.YtmkbgocmddjfbaaDoorLate
namespace Go.Proofs.YtmkbgocmddjfbaaDoor
open Go.RowKit Go.Shelf

theorem eq_self (a : Int) : (a == a) = true := by simp

set_option maxRecDepth 100000 in
set_option maxHeartbeats 2000000 in
theorem dftsums_no (p c : Int) (x y : Option Addr) (n cap cap' : Nat) (xs ys : List Int) (neg : Bool) (w : World) (hG : Gl w) (hx : Reads .u64 w w.heap.size x xs) (hy : Reads .u64 w w.heap.size y ys) (hn : xs.length = n) (hm : ys.length = n) (hw : Words xs) (hw' : Words ys) (hl : n ≤ 24)
    (hE : lineE p xs neg ≠ 0 ∨ lineE p ys neg ≠ 0) :
    Calls Tryd.prog 5 #[.int .u64 p, .slice x n cap, .slice y n cap', .int .u64 c, .bool neg] w fun e w' => e = .returned (.bool true) ∧ Below w.heap.size w w' := by
  have hdl : decide (24 < (n : Int)) = false := by simp; omega
  have hnn := neq_self (n : Int)
  have hml : n ≤ maxLen := by unfold maxLen; omega
  have HF1 := Lib.hid (fun W (hB : Below w.heap.size w W) => forward_any p x n cap xs neg W (hG.then hB) ((hx.below hB).more hB.size) hn hw hml)
  have HF2 := Lib.hid (fun W (hB : Below w.heap.size w W) => forward_any p y n cap' ys neg W (hG.then hB) ((hy.below hB).more hB.size) hm hw' hml)
  have HI1 := Lib.hid (fun W (hB : Below w.heap.size w W) => inverse_any p x n cap xs neg W (hG.then hB) ((hx.below hB).more hB.size) hn hw hml)
  have HI2 := Lib.hid (fun W (hB : Below w.heap.size w W) => inverse_any p y n cap' ys neg W (hG.then hB) ((hy.below hB).more hB.size) hm hw' hml)
  have HV := Lib.hid (live6_any w hG)
  have q1 := eq_self (lineE p xs neg)
  have q2 := eq_self (lineE p ys neg)
  generalize lineE p xs neg = e1 at HF1 HI1 q1 hE
  generalize lineE p ys neg = e2 at HF2 HI2 q2 hE
  clear hG hx hy hw hw' hml
  by_cases h1 : e1 = 0
  · have t1 := eq_of_bne h1
    have t2 := ne_of_bne (hE.resolve_left (by simp [h1]))
    clear h1 hE
    go_enter Tryd.func5, Tryd.ntmps5
    go_wp2_with (first
      | (go_at_call 7; refine HV.out.mono ?_; rintro e w1 ⟨rfl, b1⟩; have B1 := Lib.hid b1; clear b1)
      | (go_at_call_of 8 (Value.slice x n cap); refine (HF1.out _ B1.out).mono ?_; rintro e w2 ⟨v1, rfl, hO, b2⟩; have B2 := Lib.hid (below_then B1.out b2); clear b2 hO)
      | (go_at_call 8; refine (HF2.out _ B2.out).mono ?_; rintro e w3 ⟨v2, rfl, hO, b3⟩; have B3 := Lib.hid (below_then B2.out b3); clear b3 hO)
      | (go_at_call_of 10 (Value.slice x n cap); refine (HI1.out _ B3.out).mono ?_; rintro e w4 ⟨v3, rfl, hO, b4⟩; have B4 := Lib.hid (below_then B3.out b4); clear b4 hO)
      | (go_at_call 10; refine (HI2.out _ B4.out).mono ?_; rintro e w5 ⟨v4, rfl, hO, b5⟩; have B5 := Lib.hid (below_then B4.out b5); clear b5 hO))
    go_ret
    exact ⟨rfl, B5.out⟩
  · have t1 := ne_of_bne h1
    clear h1 hE
    go_enter Tryd.func5, Tryd.ntmps5
    go_wp2_with (first
      | (go_at_call 7; refine HV.out.mono ?_; rintro e w1 ⟨rfl, b1⟩; have B1 := Lib.hid b1; clear b1)
      | (go_at_call_of 8 (Value.slice x n cap); refine (HF1.out _ B1.out).mono ?_; rintro e w2 ⟨v1, rfl, hO, b2⟩; have B2 := Lib.hid (below_then B1.out b2); clear b2 hO)
      | (go_at_call 8; refine (HF2.out _ B2.out).mono ?_; rintro e w3 ⟨v2, rfl, hO, b3⟩; have B3 := Lib.hid (below_then B2.out b3); clear b3 hO)
      | (go_at_call_of 10 (Value.slice x n cap); refine (HI1.out _ B3.out).mono ?_; rintro e w4 ⟨v3, rfl, hO, b4⟩; have B4 := Lib.hid (below_then B3.out b4); clear b4 hO)
      | (go_at_call 10; refine (HI2.out _ B4.out).mono ?_; rintro e w5 ⟨v4, rfl, hO, b5⟩; have B5 := Lib.hid (below_then B4.out b5); clear b5 hO))
    go_ret
    exact ⟨rfl, B5.out⟩

set_option maxRecDepth 100000 in
set_option maxHeartbeats 4000000 in
theorem dftsums_yes (p c : Int) (x y : Option Addr) (n cap cap' : Nat) (xs ys : List Int) (neg : Bool) (w : World) (hG : Gl w) (hx : Reads .u64 w w.heap.size x xs) (hy : Reads .u64 w w.heap.size y ys) (hn : xs.length = n) (hm : ys.length = n) (hw : Words xs) (hw' : Words ys) (hl : n ≤ 24)
    (c0 : 0 ≤ c) (c1 : c < 18446744073709551616) (h : Line p xs neg) (h' : Line p ys neg) :
    Calls Tryd.prog 5 #[.int .u64 p, .slice x n cap, .slice y n cap', .int .u64 c, .bool neg] w fun e w' => e = .returned (.bool true) ∧ Below w.heap.size w w' := by
  have hdl : decide (24 < (n : Int)) = false := by simp; omega
  have hnn := neq_self (n : Int)
  have hml : n ≤ maxLen := by unfold maxLen; omega
  obtain ⟨l1, -⟩ := h.len
  rw [hn] at l1
  have HF1 := Lib.hid (fun W (hB : Below w.heap.size w W) => forward_any p x n cap xs neg W (hG.then hB) ((hx.below hB).more hB.size) hn hw hml)
  have HF2 := Lib.hid (fun W (hB : Below w.heap.size w W) => forward_any p y n cap' ys neg W (hG.then hB) ((hy.below hB).more hB.size) hm hw' hml)
  have HI1 := Lib.hid (fun W (hB : Below w.heap.size w W) => inverse_any p x n cap xs neg W (hG.then hB) ((hx.below hB).more hB.size) hn hw hml)
  have HI2 := Lib.hid (fun W (hB : Below w.heap.size w W) => inverse_any p y n cap' ys neg W (hG.then hB) ((hy.below hB).more hB.size) hm hw' hml)
  have HV := Lib.hid (live6_any w hG)
  have hz := h.map (f := lin p c xs ys) (lin_bd h.kn c)
  have hzw : Words ((List.range xs.length).map (lin p c xs ys)) := words_map h.kn (lin_bd h.kn c)
  rw [hn] at hz hzw
  have hzl : ((List.range n).map (lin p c xs ys)).length = n := by simp
  have HF3 := Lib.hid (fun W z c3 (hB : Below w.heap.size w W) (hr : Reads .u64 W W.heap.size z ((List.range n).map (lin p c xs ys))) => forward_any p z n c3 _ neg W (hG.then hB) hr hzl hzw hml)
  have HI3 := Lib.hid (fun W z c3 (hB : Below w.heap.size w W) (hr : Reads .u64 W W.heap.size z ((List.range n).map (lin p c xs ys))) => inverse_any p z n c3 _ neg W (hG.then hB) hr hzl hzw hml)
  rw [h.zero, h.fwd, hn] at HF1
  rw [h'.zero, h'.fwd, hm] at HF2
  rw [h.zero, h.bwd, hn] at HI1
  rw [h'.zero, h'.bwd, hm] at HI2
  rw [hz.zero, hz.fwd, hzl] at HF3
  rw [hz.zero, hz.bwd, hzl] at HI3
  have HSF : Hid (∀ k, fwdN p ((List.range n).map (lin p c xs ys)) neg k = Fp.add p (Fp.mul p c (fwdN p xs neg k)) (fwdN p ys neg k)) := Lib.hid (fun k => by have := h.sumF (ys := ys) (by rw [hm, hn]) c k; rwa [hn] at this)
  have HSB : Hid (∀ k, bwdN p ((List.range n).map (lin p c xs ys)) neg k = Fp.add p (Fp.mul p c (bwdN p xs neg k)) (bwdN p ys neg k)) := Lib.hid (fun k => by have := h.sumB (ys := ys) (by rw [hm, hn]) c k; rwa [hn] at this)
  have HBD : Hid (∀ k, (0 ≤ fwdN p xs neg k ∧ fwdN p xs neg k < 18446744073709551616) ∧ (0 ≤ fwdN p ys neg k ∧ fwdN p ys neg k < 18446744073709551616) ∧ (0 ≤ bwdN p xs neg k ∧ bwdN p xs neg k < 18446744073709551616) ∧ (0 ≤ bwdN p ys neg k ∧ bwdN p ys neg k < 18446744073709551616)) := Lib.hid (fun k => by
    have p2 := (Fp.kn_bd h.kn).2
    have a1 := fwdN_bd (xs := xs) (neg := neg) h.kn k
    have a2 := fwdN_bd (xs := ys) (neg := neg) h.kn k
    have a3 := bwdN_bd (xs := xs) (neg := neg) h.kn k
    have a4 := bwdN_bd (xs := ys) (neg := neg) h.kn k
    refine ⟨⟨a1.1, by omega⟩, ⟨a2.1, by omega⟩, ⟨a3.1, by omega⟩, a4.1, by omega⟩)
  have HLN : Hid (∀ f : Nat → Int, ((List.range n).map f).length = n) := Lib.hid (fun f => by simp)
  have HX := Lib.hid hx
  have HY := Lib.hid hy
  have HW := Lib.hid hw
  have HW' := Lib.hid hw'
  have HN := Lib.hid hn
  have HM := Lib.hid hm
  have HK := Lib.hid h.kn
  have HGL := Lib.hid hG
  have HDL : Hid (∀ k, lin p c xs ys k = Fp.add p (Fp.mul p c (xs.getD k 0)) (ys.getD k 0)) := Lib.hid (fun _ => rfl)
  obtain ⟨i0, hi, hz0, hz1, hz2⟩ := info_parts info_u64
  have hmx : Tryd.prog.follows .mixedOrders = true := by kernel_rfl
  generalize fwdN p ((List.range n).map (lin p c xs ys)) neg = f3 at HF3 HSF
  generalize bwdN p ((List.range n).map (lin p c xs ys)) neg = g3 at HI3 HSB
  generalize fwdN p xs neg = f1 at HF1 HSF HBD
  generalize fwdN p ys neg = f2 at HF2 HSF HBD
  generalize bwdN p xs neg = g1 at HI1 HSB HBD
  generalize bwdN p ys neg = g2 at HI2 HSB HBD
  generalize lin p c xs ys = ln at HF3 HI3 HDL
  clear hG hx hy hw hw' h h' hz hzw hzl hn hm hml
  go_enter Tryd.func5, Tryd.ntmps5
  go_wp2_with (first
    | (go_at_call 7; refine HV.out.mono ?_; rintro e w1 ⟨rfl, b1⟩; have B1 := Lib.hid b1; clear b1)
    | (go_at_call_of 8 (Value.slice x n cap); refine (HF1.out _ B1.out).mono ?_; rintro e w2 ⟨v, rfl, hO, b2⟩; obtain ⟨y1, k1, rfl, -, -, hr, -⟩ := hO.form; have R1 := Lib.hid hr; have B2 := Lib.hid (below_then B1.out b2); rw [HLN.out]; clear b2 hO hr)
    | (go_at_call 8; refine (HF2.out _ B2.out).mono ?_; rintro e w3 ⟨v, rfl, hO, b3⟩; obtain ⟨y2, k2, rfl, -, -, hr, -⟩ := hO.form; have R2 := Lib.hid hr; have B3 := Lib.hid (below_then B2.out b3); rw [HLN.out]; have S1 := Lib.hid ((R1.out.below b3).more b3.size); clear b3 hO hr R1)
    | (go_at_call_of 10 (Value.slice x n cap); refine (HI1.out _ B3.out).mono ?_; rintro e w4 ⟨v, rfl, hO, b4⟩; obtain ⟨y3, k3, rfl, -, -, hr, -⟩ := hO.form; have R3 := Lib.hid hr; have B4 := Lib.hid (below_then B3.out b4); rw [HLN.out]; have T1 := Lib.hid ((S1.out.below b4).more b4.size); have S2 := Lib.hid ((R2.out.below b4).more b4.size); clear b4 hO hr S1 R2)
    | (go_at_call 10; refine (HI2.out _ B4.out).mono ?_; rintro e w5 ⟨v, rfl, hO, b5⟩; obtain ⟨y4, k4, rfl, -, -, hr, -⟩ := hO.form; have R4 := Lib.hid hr; have B5 := Lib.hid (below_then B4.out b5); rw [HLN.out]; have U1 := Lib.hid ((T1.out.below b5).more b5.size); have U2 := Lib.hid ((S2.out.below b5).more b5.size); have U3 := Lib.hid ((R3.out.below b5).more b5.size); clear b5 hO hr T1 S2 R3))
  clear HF1 HF2 HI1 HI2 HV B1 B2 B3 B4
  go_loopw [19, 82] (fun v i wr => ∃ (k : Nat) (o : Value), k ≤ n ∧ i = .int .i64 (k : Int) ∧ o = v ∧ Owns .u64 22 wr w5.heap.size o ((List.range k).map ln) ∧ Below w5.heap.size w5 wr) (fun _ i _ => n - (intOf i).toNat)
  case atStart => exact ⟨0, _, Nat.zero_le _, rfl, rfl, Owns.nil, Below.refl _ _⟩
  case round =>
    obtain ⟨k, o, hk, rfl, rfl, hO, hB⟩ := hrel
    by_cases hlt : k < n
    · have hdk : decide (k < n) = true := by simpa using hlt
      have hBw := below_then B5.out hB
      obtain ⟨b, off, rfl, hb, hcx⟩ := HX.out (by have := HN.out; omega)
      obtain ⟨b', off', rfl, hb', hcy⟩ := HY.out (by have := HM.out; omega)
      have hx1 := (hBw.cell (p := ⟨b, off + k, none⟩) hb).trans (hcx k (by have := HN.out; omega))
      have hy1 := (hBw.cell (p := ⟨b', off' + k, none⟩) hb').trans (hcy k (by have := HM.out; omega))
      obtain ⟨u0, u1⟩ := HW.out k
      obtain ⟨v0, v1⟩ := HW'.out k
      have hD := HDL.out k
      obtain ⟨u, hu⟩ : ∃ u, u = xs.getD k 0 := ⟨_, rfl⟩
      obtain ⟨v, hv⟩ : ∃ v, v = ys.getD k 0 := ⟨_, rfl⟩
      rw [← hu] at hx1 u0 u1 hD
      rw [← hv] at hy1 v0 v1 hD
      have HD := Lib.hid hD
      obtain ⟨m0, m1, -⟩ := Fp.mul_bd p c u
      have HO := Lib.hid hO
      have HB := Lib.hid hB
      have hO' : Hid (wr.ownsRow w5.heap.size 22 1 o ((List.range k).map ln).length (((List.range k).map ln).map (Value.int .u64))) := Lib.hid hO
      have HL : Hid (((List.range k).map ln).length = k) := Lib.hid (by simp)
      clear hO hB hcx hcy hu hv hD hBw
      go_wp2
      refine region_late (l1 := [_, _, _, _, _, _, _, _, _, _, _, _, _]) o (.slice (some ⟨wr.heap.size, 0, none⟩) 1 1) (.cells #[.int .u64 (Fp.add p (Fp.mul p c u) v)] 22) hmx (by kernel_rfl) (by kernel_rfl) ?_ ?_ ?_
      · intro k; go_simp
      · intro k; go_simp
      simp only [List.cons_append, List.nil_append, Act.put, List.setIfInBounds_toArray, List.set_cons_succ, List.set_cons_zero]
      repeat (go_big_quiet_step (first
        | (go_at_call 19; exact Calls.quiet_of (mul_any _ _ _ _ (by omega) (by omega) (by omega) (by omega)))
        | (go_at_call 18; exact Calls.quiet_of (add_any _ _ _ _ (by omega) (by omega) (by omega) (by omega)))))
      refine wpQuiet_nil ?_
      refine ⟨by kernel_rfl, fun k => ?_, fun nq => ?_⟩
      · go_simp
      have hsw : Hid (w5.heap.size ≤ wr.heap.size) := Lib.hid HB.out.size
      go_wp2_with (at_builtin; refine wpList_append_own _ rfl _ _ 23 rfl w5.heap.size 22 i0 (.int .u64 0) 1 8 Tryd.underlying23 hi hz0 hz1 hz2 rfl (by decide) _ _ _ rfl (World.ownsRow.alloc (w := wr.drewN nq) hO'.out _) ⟨wr.heap.size, 0, none⟩ 1 1 [.int .u64 (Fp.add p (Fp.mul p c u) v)] rfl rfl (cell_one_new _ _ _) (one_int _ _) (by rw [HL.out]; unfold maxLen; omega) (by rw [HL.out]; omega) (by have := hsw.out; simp; omega) ?_; intro v' w6 hown' hgrow _)
      go_roundw
      case rel =>
        refine ⟨k + 1, v', by omega, by go_num, rfl, ?_, ?_⟩
        · rw [range_snoc, HD.out]; exact Owns.push hown'
        · exact ((below_draws HB.out nq).alloc (by show _ ≤ wr.heap.size; exact HB.out.size) _).grown hgrow (Nat.le_trans HB.out.size (by simp)) HO.out.ownBlock
      case measure => simp [intOf]; omega
    · obtain rfl : k = n := by omega
      have B6 := Lib.hid (below_then B5.out hB)
      obtain ⟨z, kz, hz', -, -, hrz, -⟩ := hO.form
      rw [HLN.out] at hz'
      subst hz'
      have RZ := Lib.hid hrz
      have V1 := Lib.hid ((U1.out.below hB).more hB.size)
      have V2 := Lib.hid ((U2.out.below hB).more hB.size)
      have V3 := Lib.hid ((U3.out.below hB).more hB.size)
      have V4 := Lib.hid ((R4.out.below hB).more hB.size)
      clear hO hB hrz U1 U2 U3 R4 hi hz0 hz1 hz2
      go_wp2_with (first
        | (go_at_call 8; refine (HF3.out _ _ _ B6.out RZ.out).mono ?_; rintro e w7 ⟨v, rfl, hO, b7⟩; obtain ⟨y5, k5, rfl, -, -, hr, -⟩ := hO.form; have R5 := Lib.hid hr; have B7 := Lib.hid (below_then B6.out b7); rw [HLN.out]; have RZ' := Lib.hid ((RZ.out.below b7).more b7.size); have X1 := Lib.hid ((V1.out.below b7).more b7.size); have X2 := Lib.hid ((V2.out.below b7).more b7.size); have X3 := Lib.hid ((V3.out.below b7).more b7.size); have X4 := Lib.hid ((V4.out.below b7).more b7.size); clear b7 hO hr RZ V1 V2 V3 V4)
        | (go_at_call 10; refine (HI3.out _ _ _ B7.out RZ'.out).mono ?_; rintro e w8 ⟨v, rfl, hO, b8⟩; obtain ⟨y6, k6, rfl, -, -, hr, -⟩ := hO.form; have R6 := Lib.hid hr; have B8 := Lib.hid (below_then B7.out b8); rw [HLN.out]; have Z1 := Lib.hid ((X1.out.below b8).more b8.size); have Z2 := Lib.hid ((X2.out.below b8).more b8.size); have Z3 := Lib.hid ((X3.out.below b8).more b8.size); have Z4 := Lib.hid ((X4.out.below b8).more b8.size); have Z5 := Lib.hid ((R5.out.below b8).more b8.size); clear b8 hO hr X1 X2 X3 X4 R5 RZ'))
      go_loopw [174] (fun i wi => ∃ j q : Nat, j ≤ k ∧ i = .int .i64 (j : Int) ∧ wi = w8.drewN q) (fun i _ => k - (intOf i).toNat)
      case atStart => exact ⟨0, 0, Nat.zero_le _, rfl, rfl⟩
      case round =>
        obtain ⟨j, q, hj, rfl, hq⟩ := hrel
        by_cases hlj : j < k
        · have hdj : decide (j < k) = true := by simpa using hlj
          obtain ⟨d1, o1, rfl, -, hc1⟩ := Z1.out (by rw [HLN.out]; omega)
          obtain ⟨d2, o2, rfl, -, hc2⟩ := Z2.out (by rw [HLN.out]; omega)
          obtain ⟨d3, o3, rfl, -, hc3⟩ := Z3.out (by rw [HLN.out]; omega)
          obtain ⟨d4, o4, rfl, -, hc4⟩ := Z4.out (by rw [HLN.out]; omega)
          obtain ⟨d5, o5, rfl, -, hc5⟩ := Z5.out (by rw [HLN.out]; omega)
          obtain ⟨d6, o6, rfl, -, hc6⟩ := R6.out (by rw [HLN.out]; omega)
          have a1 := hc1 j (by rw [HLN.out]; omega)
          have a2 := hc2 j (by rw [HLN.out]; omega)
          have a3 := hc3 j (by rw [HLN.out]; omega)
          have a4 := hc4 j (by rw [HLN.out]; omega)
          have a5 := hc5 j (by rw [HLN.out]; omega)
          have a6 := hc6 j (by rw [HLN.out]; omega)
          rw [getD_range _ hlj] at a1 a2 a3 a4 a5 a6
          have hcq : ∀ ad, w8.cell? ad = wr.cell? ad := fun ad => by rw [hq]; rfl
          rw [hcq] at a1 a2 a3 a4 a5 a6
          have HQ := Lib.hid hq
          clear hcq hq
          obtain ⟨⟨r1, s1⟩, ⟨r2, s2⟩, ⟨r3, s3⟩, r4, s4⟩ := HBD.out j
          rw [HSF.out j] at a5
          rw [HSB.out j] at a6
          obtain ⟨u1, hu1⟩ : ∃ u, u = f1 j := ⟨_, rfl⟩
          obtain ⟨u2, hu2⟩ : ∃ u, u = f2 j := ⟨_, rfl⟩
          obtain ⟨u3, hu3⟩ : ∃ u, u = g1 j := ⟨_, rfl⟩
          obtain ⟨u4, hu4⟩ : ∃ u, u = g2 j := ⟨_, rfl⟩
          rw [← hu1] at a1 a5 r1 s1
          rw [← hu2] at a2 a5 r2 s2
          rw [← hu3] at a3 a6 r3 s3
          rw [← hu4] at a4 a6 r4 s4
          obtain ⟨m0, m1, -⟩ := Fp.mul_bd p c u1
          obtain ⟨m2, m3, -⟩ := Fp.mul_bd p c u3
          have n1 := neq_self (Fp.add p (Fp.mul p c u1) u2)
          have n2 := neq_self (Fp.add p (Fp.mul p c u3) u4)
          clear hc1 hc2 hc3 hc4 hc5 hc6 hu1 hu2 hu3 hu4
          go_wp2
          go_quiet (first
            | (go_at_call 19; exact Calls.quiet_of (mul_any _ _ _ _ (by omega) (by omega) (by omega) (by omega)))
            | (go_at_call 18; exact Calls.quiet_of (add_any _ _ _ _ (by omega) (by omega) (by omega) (by omega))))
          go_wp2
          go_roundw
          case rel => exact ⟨j + 1, _, by omega, by go_num, by rw [HQ.out, World.drewN_drewN]⟩
          case measure => simp [intOf]; omega
        · have HQ : Hid (Below w.heap.size w wr) := Lib.hid (by rw [hq]; exact below_draws B8.out _)
          clear hq
          go_wp2
          go_ret
          exact ⟨rfl, HQ.out⟩

set_option maxRecDepth 100000 in
theorem walk_DftSums (p : Int) (x : Option Addr) (len cap : Nat) (zs : List Int) (y : Option Addr) (len' cap' : Nat) (zs' : List Int) (c : Int) (neg : Bool) (w : World) (_hp : (Lit.int .u64 p).wf = true) (hr : RowIn .u64 w x len cap zs) (hr' : RowIn .u64 w y len' cap' zs') (hc : (Lit.int .u64 c).wf = true) (hG : Gl w) :
    Calls Tryd.prog 5 #[.int .u64 p, .slice x len cap, .slice y len' cap', .int .u64 c, .bool neg] w fun e w' => e = .returned (.bool true) ∧ Below w.heap.size w w' := by
  obtain ⟨xs, -, hn, hcp, hm, hx, hw⟩ := hr.reads
  obtain ⟨ys, -, hn', hcp', hm', hy, hw'⟩ := hr'.reads
  have hcb := bounds_u64 hc
  unfold maxLen at hm hm'
  by_cases hl : len ≤ 24
  · by_cases hll : len = len'
    · subst hll
      by_cases hE : lineE p xs neg = 0 ∧ lineE p ys neg = 0
      · exact dftsums_yes p c x y len cap cap' xs ys neg w hG hx hy hn hn' hw hw' hl (by omega) (by omega) (lineE_zero hE.1) (lineE_zero hE.2)
      · exact dftsums_no p c x y len cap cap' xs ys neg w hG hx hy hn hn' hw hw' hl (by
          by_cases h1 : lineE p xs neg = 0
          · exact .inr fun h2 => hE ⟨h1, h2⟩
          · exact .inl h1)
    · have hdl : decide (24 < (len : Int)) = false := by simp; omega
      have hnn : ((len : Int) != (len' : Int)) = true := by rw [bne_iff_ne]; omega
      have HV := Lib.hid (live6_any w hG)
      clear hr hr' hx hy hG
      go_enter Tryd.func5, Tryd.ntmps5
      go_wp2_with (go_at_call 7; refine HV.out.mono ?_; rintro e w1 ⟨rfl, b1⟩)
      go_ret
      exact ⟨rfl, b1⟩
  · have hdl : decide (24 < (len : Int)) = true := by simp; omega
    have HV := Lib.hid (live6_any w hG)
    clear hr hr' hx hy hG
    go_enter Tryd.func5, Tryd.ntmps5
    go_wp2_with (go_at_call 7; refine HV.out.mono ?_; rintro e w1 ⟨rfl, b1⟩)
    go_ret
    exact ⟨rfl, b1⟩

end Go.Proofs.YtmkbgocmddjfbaaDoor
