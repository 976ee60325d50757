/-
  The walk of the law SeedDoes: it returns true for every word, every slice of axes, there or back, every three slices of words, every axis, every int and every word; nothing that was there is written.
-/
import Derived.Test.YtmeeldhejbdgjaaDoorSeedLive
import Derived.Test.YtmeeldhejbdgjaaDoorSeedRef
import Derived.Test.YtmeeldhejbdgjaaDoorRows2
namespace Go.Proofs.YtmeeldhejbdgjaaDoor
open Go.RowKit Go.Shelf

set_option maxHeartbeats 4000000 in
set_option maxRecDepth 100000 in
theorem walk_SeedDoes (p : Int) (x : Option Addr) (len cap : Nat) (xa : List Ax) (inv : Bool) (y : Option Addr) (m cap' : Nat) (zs : List Int) (z : Option Addr) (m2 cap2 : Nat) (zs2 : List Int) (q : Option Addr) (m3 cap3 : Nat) (zs3 : List Int) (an : Int) (ag : Bool) (i r : Int) (w : World) (_hp : (Lit.int .u64 p).wf = true) (hA : AxisIn w x len cap xa) (hlb : len ≤ 8796093022208) (hr : RowIn .u64 w y m cap' zs) (hr2 : RowIn .u64 w z m2 cap2 zs2) (hr3 : RowIn .u64 w q m3 cap3 zs3) (han : (Lit.int .i64 an).wf = true) (hi : (Lit.int .i64 i).wf = true) (hr0 : (Lit.int .u64 r).wf = true) (hG : Gl w) :
    Calls Tryd.prog 3 #[.int .u64 p, .slice x len cap, .bool inv, .slice y m cap', .slice z m2 cap2, .slice q m3 cap3, .agg #[.int .i64 an, .bool ag], .int .i64 i, .int .u64 r] w fun e w' => e = .returned (.bool true) ∧ Below w.heap.size w w' := by
  obtain ⟨hn, hc1, hc2, hx, -⟩ := hA
  obtain ⟨xs, -, hm, hcp, hml, hy, hw⟩ := hr.reads
  obtain ⟨ys, -, hm2, hcp2, hml2, hz, hw2⟩ := hr2.reads
  obtain ⟨ss, -, hm3, hcp3, hml3, hq, hw3⟩ := hr3.reads
  obtain ⟨r0, r1⟩ := bounds_u64 hr0
  have hbn := i64_of han
  have hbi := i64_of hi
  have hml : m ≤ maxLen := Nat.le_trans hcp hml
  have hml2 : m2 ≤ maxLen := Nat.le_trans hcp2 hml2
  have hml3 : m3 ≤ maxLen := Nat.le_trans hcp3 hml3
  have hB0 : Below w.heap.size w (w.alloc (.cells #[.int .i64 an, .bool ag] 26)) := below_al (Below.refl _ _) _
  have HV := Lib.hid (live9_any _ (hG.then hB0))
  have HB0 := Lib.hid hB0
  obtain ⟨b, HFew⟩ := few_any x len cap xa 32 w hx hn hlb
  clear hr hr2 hr3 hc1 hc2 hcp2 hcp3 hB0 han hi hr0
  cases b
  · clear hx hy hG hw hm hn hml hq hm3 hw3 hml3 hcp hz hm2 hw2 hml2
    go_enter Tryd.func3, Tryd.ntmps3
    go_wp2_with (first
      | (go_at_call 7; refine HV.out.mono ?_; rintro e w1 ⟨rfl, b1⟩; have B1 := Lib.hid (below_then HB0.out b1); obtain ⟨x1, x1g, s1⟩ := box_call b1; have P1 := Lib.hid b1; clear b1)
      | (go_at_call 8; refine (HFew.out _ B1.out).mono ?_; rintro e w2 ⟨rfl, b2⟩; have B2 := Lib.hid (below_then B1.out b2); obtain ⟨x2, x2g, s2⟩ := box_call (below_then P1.out b2); have P2 := Lib.hid (below_then P1.out b2); clear b2 x1 x1g s1))
    go_ret
    exact ⟨rfl, B2.out⟩
  · by_cases k1 : 40 < m
    · have d1 : decide (40 < (m : Int)) = true := by simp; omega
      clear hx hy hG hw hm hn hml hq hm3 hw3 hml3 hcp hz hm2 hw2 hml2
      go_enter Tryd.func3, Tryd.ntmps3
      go_wp2_with (first
        | (go_at_call 7; refine HV.out.mono ?_; rintro e w1 ⟨rfl, b1⟩; have B1 := Lib.hid (below_then HB0.out b1); obtain ⟨x1, x1g, s1⟩ := box_call b1; have P1 := Lib.hid b1; clear b1)
        | (go_at_call 8; refine (HFew.out _ B1.out).mono ?_; rintro e w2 ⟨rfl, b2⟩; have B2 := Lib.hid (below_then B1.out b2); obtain ⟨x2, x2g, s2⟩ := box_call (below_then P1.out b2); have P2 := Lib.hid (below_then P1.out b2); clear b2 x1 x1g s1))
      go_ret
      exact ⟨rfl, B2.out⟩
    · have d1 : decide (40 < (m : Int)) = false := by simp; omega
      by_cases k2 : 40 < m2
      · have d2 : decide (40 < (m2 : Int)) = true := by simp; omega
        clear hx hy hG hw hm hn hml hq hm3 hw3 hml3 hcp hz hm2 hw2 hml2
        go_enter Tryd.func3, Tryd.ntmps3
        go_wp2_with (first
          | (go_at_call 7; refine HV.out.mono ?_; rintro e w1 ⟨rfl, b1⟩; have B1 := Lib.hid (below_then HB0.out b1); obtain ⟨x1, x1g, s1⟩ := box_call b1; have P1 := Lib.hid b1; clear b1)
          | (go_at_call 8; refine (HFew.out _ B1.out).mono ?_; rintro e w2 ⟨rfl, b2⟩; have B2 := Lib.hid (below_then B1.out b2); obtain ⟨x2, x2g, s2⟩ := box_call (below_then P1.out b2); have P2 := Lib.hid (below_then P1.out b2); clear b2 x1 x1g s1))
        go_ret
        exact ⟨rfl, B2.out⟩
      · have d2 : decide (40 < (m2 : Int)) = false := by simp; omega
        by_cases k3 : 10 < m3
        · have d3 : decide (10 < (m3 : Int)) = true := by simp; omega
          clear hx hy hG hw hm hn hml hq hm3 hw3 hml3 hcp hz hm2 hw2 hml2
          go_enter Tryd.func3, Tryd.ntmps3
          go_wp2_with (first
            | (go_at_call 7; refine HV.out.mono ?_; rintro e w1 ⟨rfl, b1⟩; have B1 := Lib.hid (below_then HB0.out b1); obtain ⟨x1, x1g, s1⟩ := box_call b1; have P1 := Lib.hid b1; clear b1)
            | (go_at_call 8; refine (HFew.out _ B1.out).mono ?_; rintro e w2 ⟨rfl, b2⟩; have B2 := Lib.hid (below_then B1.out b2); obtain ⟨x2, x2g, s2⟩ := box_call (below_then P1.out b2); have P2 := Lib.hid (below_then P1.out b2); clear b2 x1 x1g s1))
          go_ret
          exact ⟨rfl, B2.out⟩
        · have d3 : decide (10 < (m3 : Int)) = false := by simp; omega
          have HW1 := Lib.hid (fun W (hB : Below w.heap.size w W) => Weight_any p ⟨an, ag⟩ inv i r W (hG.then hB) hbn hbi r0 (by omega))
          have HW2 := Lib.hid (fun W (_ : Below w.heap.size w W) => rWeight_any p ⟨an, ag⟩ inv i r W hbn hbi r0 (by omega))
          have HE1 := Lib.hid (fun W (hB : Below w.heap.size w W) => Expect_any p x len cap xa inv y m cap' xs r W (hG.then hB) ((hx.below hB).more hB.size) hn hlb ((hy.below hB).more hB.size) hm hw hml hcp r0 (by omega))
          have HE2 := Lib.hid (fun W (hB : Below w.heap.size w W) => rExpect_any p x len cap xa inv y m cap' xs r W ((hx.below hB).more hB.size) hn hlb ((hy.below hB).more hB.size) hm hw hml r0 (by omega))
          have HC1 := Lib.hid (fun W (hB : Below w.heap.size w W) => Check_any p x len cap xa inv y m cap' xs z m2 cap2 ys q m3 cap3 ss W (hG.then hB) ((hx.below hB).more hB.size) hn hlb ((hy.below hB).more hB.size) hm hw hml hcp ((hz.below hB).more hB.size) hm2 hw2 hml2 ((hq.below hB).more hB.size) hm3 hw3 hml3)
          have HC2 := Lib.hid (fun W (hB : Below w.heap.size w W) => rCheck_any p x len cap xa inv y m cap' xs z m2 cap2 ys q m3 cap3 ss W ((hx.below hB).more hB.size) hn hlb ((hy.below hB).more hB.size) hm hw hml ((hz.below hB).more hB.size) hm2 hw2 hml2 ((hq.below hB).more hB.size) hm3 hw3 hml3)
          dsimp only at HW1 HW2
          generalize wtR p ⟨an, ag⟩ inv i r = v1 at HW1 HW2
          generalize wtE p ⟨an, ag⟩ i = v2 at HW1 HW2
          generalize exN p xa inv xs r = v3 at HE1 HE2
          generalize wordsE p xa xs = v4 at HE1 HE2
          generalize ckB p xa inv xs ys ss = v5 at HC1 HC2
          generalize ckE p xa xs ys ss = v6 at HC1 HC2
          have t1 : (v1 == v1) = true := by simp
          have t2 : (v2 == v2) = true := by simp
          have t3 : (v3 == v3) = true := by simp
          have t4 : (v4 == v4) = true := by simp
          have t5 : (v5 == v5) = true := by simp
          have t6 : (v6 == v6) = true := by simp
          clear hx hy hG hw hm hn hml hq hm3 hw3 hml3 hcp hz hm2 hw2 hml2
          by_cases k4 : 32 < an
          · have d4 : decide (32 < an) = true := by simpa using k4
            by_cases k5 : an ≤ 4096
            · have d5 : decide (an ≤ 4096) = true := by simpa using k5
              go_enter Tryd.func3, Tryd.ntmps3
              go_wp2_with (first
                | (go_at_call 7; refine HV.out.mono ?_; rintro e w1 ⟨rfl, b1⟩; have B1 := Lib.hid (below_then HB0.out b1); obtain ⟨x1, x1g, s1⟩ := box_call b1; have P1 := Lib.hid b1; clear b1)
                | (go_at_call 8; refine (HFew.out _ B1.out).mono ?_; rintro e w2 ⟨rfl, b2⟩; have B2 := Lib.hid (below_then B1.out b2); obtain ⟨x2, x2g, s2⟩ := box_call (below_then P1.out b2); have P2 := Lib.hid (below_then P1.out b2); clear b2 x1 x1g s1))
              go_ret
              exact ⟨rfl, B2.out⟩
            · have d5 : decide (an ≤ 4096) = false := by simpa using k5
              go_enter Tryd.func3, Tryd.ntmps3
              go_wp2_with (first
                | (go_at_call 7; refine HV.out.mono ?_; rintro e w1 ⟨rfl, b1⟩; have B1 := Lib.hid (below_then HB0.out b1); obtain ⟨x1, x1g, s1⟩ := box_call b1; have P1 := Lib.hid b1; clear b1)
                | (go_at_call 8; refine (HFew.out _ B1.out).mono ?_; rintro e w2 ⟨rfl, b2⟩; have B2 := Lib.hid (below_then B1.out b2); obtain ⟨x2, x2g, s2⟩ := box_call (below_then P1.out b2); have P2 := Lib.hid (below_then P1.out b2); clear b2 x1 x1g s1)
                | (go_at_call 9; refine (HW1.out _ B2.out).mono ?_; rintro e w3 ⟨rfl, b3⟩; have B3 := Lib.hid (below_then B2.out b3); obtain ⟨x3, x3g, s3⟩ := box_call (below_then P2.out b3); clear b3 x2 x2g s2)
                | (go_at_call 10; refine (HW2.out _ B3.out).mono ?_; rintro e w4 ⟨rfl, b4⟩; have B4 := Lib.hid (below_then B3.out b4); clear b4 x3 x3g s3)
                | (go_at_call 11; refine (HE1.out _ B4.out).mono ?_; rintro e w5 ⟨rfl, b5⟩; have B5 := Lib.hid (below_then B4.out b5); clear b5)
                | (go_at_call 12; refine (HE2.out _ B5.out).mono ?_; rintro e w6 ⟨rfl, b6⟩; have B6 := Lib.hid (below_then B5.out b6); clear b6)
                | (go_at_call 13; refine (HC1.out _ B6.out).mono ?_; rintro e w7 ⟨rfl, b7⟩; have B7 := Lib.hid (below_then B6.out b7); clear b7)
                | (go_at_call 14; refine (HC2.out _ B7.out).mono ?_; rintro e w8 ⟨rfl, b8⟩; have B8 := Lib.hid (below_then B7.out b8); clear b8))
              go_ret
              exact ⟨rfl, B8.out⟩
          · have d4 : decide (32 < an) = false := by simpa using k4
            go_enter Tryd.func3, Tryd.ntmps3
            go_wp2_with (first
              | (go_at_call 7; refine HV.out.mono ?_; rintro e w1 ⟨rfl, b1⟩; have B1 := Lib.hid (below_then HB0.out b1); obtain ⟨x1, x1g, s1⟩ := box_call b1; have P1 := Lib.hid b1; clear b1)
              | (go_at_call 8; refine (HFew.out _ B1.out).mono ?_; rintro e w2 ⟨rfl, b2⟩; have B2 := Lib.hid (below_then B1.out b2); obtain ⟨x2, x2g, s2⟩ := box_call (below_then P1.out b2); have P2 := Lib.hid (below_then P1.out b2); clear b2 x1 x1g s1)
              | (go_at_call 9; refine (HW1.out _ B2.out).mono ?_; rintro e w3 ⟨rfl, b3⟩; have B3 := Lib.hid (below_then B2.out b3); obtain ⟨x3, x3g, s3⟩ := box_call (below_then P2.out b3); clear b3 x2 x2g s2)
              | (go_at_call 10; refine (HW2.out _ B3.out).mono ?_; rintro e w4 ⟨rfl, b4⟩; have B4 := Lib.hid (below_then B3.out b4); clear b4 x3 x3g s3)
              | (go_at_call 11; refine (HE1.out _ B4.out).mono ?_; rintro e w5 ⟨rfl, b5⟩; have B5 := Lib.hid (below_then B4.out b5); clear b5)
              | (go_at_call 12; refine (HE2.out _ B5.out).mono ?_; rintro e w6 ⟨rfl, b6⟩; have B6 := Lib.hid (below_then B5.out b6); clear b6)
              | (go_at_call 13; refine (HC1.out _ B6.out).mono ?_; rintro e w7 ⟨rfl, b7⟩; have B7 := Lib.hid (below_then B6.out b7); clear b7)
              | (go_at_call 14; refine (HC2.out _ B7.out).mono ?_; rintro e w8 ⟨rfl, b8⟩; have B8 := Lib.hid (below_then B7.out b8); clear b8))
            go_ret
            exact ⟨rfl, B8.out⟩

end Go.Proofs.YtmeeldhejbdgjaaDoor
