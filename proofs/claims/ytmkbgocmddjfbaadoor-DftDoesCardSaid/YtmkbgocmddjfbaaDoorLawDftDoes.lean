/-
  The walk of the law DftDoes: it returns true for every word, any two slices of words, either way; nothing that was there is written.
-/
import Derived.Test.YtmkbgocmddjfbaaDoorLawDftBack
import Derived.Test.YtmkbgocmddjfbaaDoorRefWrap
import Derived.Test.YtmkbgocmddjfbaaDoorSome
namespace Go.Proofs.YtmkbgocmddjfbaaDoor
open Go.RowKit Go.Shelf

theorem eq_self' (a : Int) : (a == a) = true := by simp
theorem fwd_le (p : Int) (xs : List Int) (neg : Bool) : (fwd p xs neg).length ≤ xs.length := by unfold fwd; split <;> simp
theorem bwd_le (p : Int) (xs : List Int) (neg : Bool) : (bwd p xs neg).length ≤ xs.length := by unfold bwd; split <;> simp
theorem wrp_le (p : Int) (xs ys : List Int) (neg : Bool) : (wrp p xs ys neg).length ≤ xs.length := by unfold wrp; split <;> simp

/-- Which of the two tests of a length come out how. -/
theorem split_len {n : Nat} (h : n ≤ 24 ∨ 4096 < n) : ∃ d1 d2 : Bool, decide (24 < (n : Int)) = d1 ∧ decide ((n : Int) ≤ 4096) = d2 ∧ (d1 = false ∨ d1 = true ∧ d2 = false) := by
  refine ⟨_, _, rfl, rfl, ?_⟩
  rcases h with h | h
  · left; simp; omega
  · right; simp; omega

set_option maxHeartbeats 8000000 in
set_option maxRecDepth 100000 in
theorem does6_main (p : Int) (x y : Option Addr) (n m cap cap' : Nat) (xs ys : List Int) (neg : Bool) (w : World) (hG : Gl w) (hsrc : Src .u64 w x n cap xs) (hx : Reads .u64 w w.heap.size x xs) (hy : Reads .u64 w w.heap.size y ys) (hn : xs.length = n) (hm : ys.length = m) (hw : Words xs) (hw' : Words ys)
    (hl : n ≤ 24 ∨ 4096 < n) (hl2 : n ≤ 4100) (hl' : m ≤ 24 ∨ 4096 < m) (hl2' : m ≤ 4100) :
    Calls Tryd.prog 3 #[.int .u64 p, .slice x n cap, .slice y m cap', .bool neg] w fun e w' => e = .returned (.bool true) ∧ Below w.heap.size w w' := by
  obtain ⟨d1, d2, hd1, hd2, hd⟩ := split_len hl
  obtain ⟨d3, d4, hd3, hd4, hd'⟩ := split_len hl'
  have g2 : decide (4100 < (n : Int)) = false := by simp; omega
  have g4 : decide (4100 < (m : Int)) = false := by simp; omega
  have hml : n ≤ maxLen := by unfold maxLen; omega
  have hml' : m ≤ maxLen := by unfold maxLen; omega
  have HV := Lib.hid (live6_any w hG)
  have HSRC := Lib.hid hsrc
  have H1 := Lib.hid (fun W (hB : Below w.heap.size w W) => forward_any p x n cap xs neg W (hG.then hB) ((hx.below hB).more hB.size) hn hw hml)
  have H2 := Lib.hid (fun W (hB : Below w.heap.size w W) => rforward_any p x n cap xs neg W ((hx.below hB).more hB.size) hn hw hml)
  have H3 := Lib.hid (fun W (hB : Below w.heap.size w W) => inverse_any p x n cap xs neg W (hG.then hB) ((hx.below hB).more hB.size) hn hw hml)
  have H4 := Lib.hid (fun W (hB : Below w.heap.size w W) => rinverse_any p x n cap xs neg W ((hx.below hB).more hB.size) hn hw hml)
  have H5 := Lib.hid (fun W (hB : Below w.heap.size w W) => wrap_any p x y n m cap cap' xs ys neg W (hG.then hB) ((hx.below hB).more hB.size) ((hy.below hB).more hB.size) hn hm hw hw' hml hml')
  have H6 := Lib.hid (fun W (hB : Below w.heap.size w W) => rwrap_any p x y n m cap cap' xs ys neg W ((hx.below hB).more hB.size) ((hy.below hB).more hB.size) hn hm hw hw' hml hml')
  have H7 := Lib.hid (fun W (hB : Below w.heap.size w W) => lcheck_any p x n cap xs neg W (hG.then hB) ((hx.below hB).more hB.size) hn hml)
  have H8 := Lib.hid (fun W (hB : Below w.heap.size w W) => rlcheck_any p x n cap xs neg W ((hx.below hB).more hB.size) hn hml)
  have kf := fwd_le p xs neg
  have kb := bwd_le p xs neg
  have kw := wrp_le p xs ys neg
  rw [hn] at kf kb kw
  generalize fwd p xs neg = fs at H1 H2 kf
  generalize bwd p xs neg = bs at H3 H4 kb
  generalize wrp p xs ys neg = ws at H5 H6 kw
  have q1 := eq_self' (lineE p xs neg)
  have q2 := eq_self' (wrapE p xs ys neg)
  generalize lineE p xs neg = e1 at H1 H2 H3 H4 H7 H8 q1
  generalize wrapE p xs ys neg = e2 at H5 H6 q2
  have HX := Lib.hid hx
  have HN := Lib.hid hn
  obtain ⟨i0, hi, hz0, hz1, hz2⟩ := info_parts info_u64
  clear hG hx hy hw hw' hml hml' hn hm hl hl' hsrc
  rcases hd with rfl | ⟨rfl, rfl⟩ <;> rcases hd' with rfl | ⟨rfl, rfl⟩
  all_goals
    go_enter Tryd.func3, Tryd.ntmps3
    go_wp2_with (first
      | (go_at_call 7; refine HV.out.mono ?_; rintro e w1 ⟨rfl, b1⟩; have B1 := Lib.hid b1; clear b1)
      | (at_builtin; refine wpList_copy_new rfl _ _ 23 rfl 22 i0 .u64 8 Tryd.underlying23 hi hz0 hz1 hz2 x n cap xs rfl rfl (HSRC.out.keep B1.out) (by unfold maxLen; omega) (by omega) ?_; intro v0 w2 hO2 b2))
    have B2 := Lib.hid (below_then B1.out b2)
    obtain ⟨x0, c0, rfl, -, -, hR0, -⟩ := hO2.form
    rw [HN.out]
    have R0 := Lib.hid hR0
    clear b2 hR0 hO2 hi hz0 hz1 hz2 HV HSRC B1
    refine (H1.out _ B2.out).mono ?_; rintro e w3 ⟨v, rfl, hO, b3⟩; obtain ⟨y1, k1, rfl, -, -, hr, hg1⟩ := hO.form; have R1 := Lib.hid hr; have O1 := Lib.hid (OwnsSome.of hO); have B3 := Lib.hid (below_then B2.out b3); have C3 := Lib.hid b3; have HG1 := Lib.hid hg1; clear b3 hO hr hg1
    go_wp2_with fail
    refine (H2.out _ B3.out).mono ?_; rintro e w4 ⟨v, rfl, hO, b4⟩; obtain ⟨y2, k2, rfl, -, -, hr, -⟩ := hO.form; have R2 := Lib.hid hr; have B4 := Lib.hid (below_then B3.out b4); have C4 := Lib.hid b4; clear b4 hO hr
    go_wp2_with fail
    refine (H3.out _ B4.out).mono ?_; rintro e w5 ⟨v, rfl, hO, b5⟩; obtain ⟨y3, k3, rfl, -, -, hr, -⟩ := hO.form; have R3 := Lib.hid hr; have B5 := Lib.hid (below_then B4.out b5); have C5 := Lib.hid (below_then C4.out b5); have G5 := Lib.hid b5; clear b5 hO hr
    go_wp2_with fail
    refine (H4.out _ B5.out).mono ?_; rintro e w6 ⟨v, rfl, hO, b6⟩; obtain ⟨y4, k4, rfl, -, -, hr, -⟩ := hO.form; have R4 := Lib.hid hr; have B6 := Lib.hid (below_then B5.out b6); have C6 := Lib.hid (below_then C5.out b6); have D6 := Lib.hid b6; clear b6 hO hr
    go_wp2_with fail
    refine (H5.out _ B6.out).mono ?_; rintro e w7 ⟨v, rfl, hO, b7⟩; obtain ⟨y5, k5, rfl, -, -, hr, -⟩ := hO.form; have R5 := Lib.hid hr; have B7 := Lib.hid (below_then B6.out b7); have C7 := Lib.hid (below_then C6.out b7); have D7 := Lib.hid (below_then D6.out b7); have E7 := Lib.hid b7; clear b7 hO hr
    go_wp2_with fail
    refine (H6.out _ B7.out).mono ?_; rintro e w8 ⟨v, rfl, hO, b8⟩; obtain ⟨y6, k6, rfl, -, -, hr, -⟩ := hO.form; have R6 := Lib.hid hr; have B8 := Lib.hid (below_then B7.out b8); have C8 := Lib.hid (below_then C7.out b8); have D8 := Lib.hid (below_then D7.out b8); have E8 := Lib.hid (below_then E7.out b8); have F8 := Lib.hid b8; clear b8 hO hr
    have S1 := Lib.hid ((R1.out.below C8.out).more C8.out.size)
    have S2 := Lib.hid ((R2.out.below (below_then G5.out D8.out)).more (below_then G5.out D8.out).size)
    have S3 := Lib.hid ((R3.out.below D8.out).more D8.out.size)
    have S4 := Lib.hid ((R4.out.below E8.out).more E8.out.size)
    have S5 := Lib.hid ((R5.out.below F8.out).more F8.out.size)
    have S0 := Lib.hid (below_then C3.out C8.out)
    have hOb : Hid (OwnsSome w8 w2.heap.size (.slice y1 fs.length k1) fs.length) := Lib.hid (O1.out.keep C8.out)
    clear R1 R2 R3 R4 R5 C3 C4 C5 C6 C7 D6 D7 E7 G5 B3 B4 B5 B6 B7 H1 H2 H3 H4 H5 H6 O1
    go_wp2_with (first
      | (go_at_call_of 14 (Value.slice y1 fs.length k1); refine (same_self y1 y2 fs.length k1 k2 fs _ w8.heap.size S1.out S2.out rfl (by omega)).mono ?_; rintro e w' ⟨rfl, n1, rfl⟩)
      | (go_at_call_of 14 (Value.slice y3 bs.length k3); refine (same_self y3 y4 bs.length k3 k4 bs _ w8.heap.size (S3.out.draws _) (S4.out.draws _) rfl (by omega)).mono ?_; rintro e w' ⟨rfl, n2, rfl⟩)
      | (go_at_call_of 14 (Value.slice y5 ws.length k5); refine (same_self y5 y6 ws.length k5 k6 ws _ w8.heap.size (S5.out.draws _) (R6.out.draws _) rfl (by omega)).mono ?_; rintro e w' ⟨rfl, n3, rfl⟩)
      | (go_at_call 15; refine (H7.out _ (below_draws B8.out _)).mono ?_; rintro e w9 ⟨rfl, b9⟩; have B9 := Lib.hid (below_then (below_draws B8.out _) b9); have C9 := Lib.hid (below_of_draws b9); clear b9)
      | (go_at_call 16; refine (H8.out _ B9.out).mono ?_; rintro e w10 ⟨rfl, b10⟩; have B10 := Lib.hid (below_then B9.out b10); have C10 := Lib.hid (below_then C9.out b10); clear b10))
    have hst := hOb.out.keep C10.out
    have hbl := below_then S0.out C10.out
    clear hOb S1 S2 S3 S4 S5 R6 S0 C8 D8 E8 F8 B9 C9 C10 H7 H8 B8
    go_loopw [141] (fun i wr => ∃ k : Nat, k ≤ fs.length ∧ i = .int .i64 (k : Int) ∧ OwnsSome wr w2.heap.size (.slice y1 fs.length k1) fs.length ∧ Below w2.heap.size w2 wr) (fun i _ => fs.length - (intOf i).toNat)
    case atStart => exact ⟨0, Nat.zero_le _, rfl, hst, hbl⟩
    case round =>
      obtain ⟨k, hk, rfl, hO, hW⟩ := hrel
      clear hst hbl
      by_cases hlt : k < fs.length
      · obtain ⟨g, rfl, hg, -⟩ := HG1.out (by omega)
        obtain ⟨y, hc⟩ := hO.cell hlt
        have hf := hO.frozen k
        go_wp2
        go_roundw
        case rel => exact ⟨k + 1, by omega, by go_num, hO.set _, hW.setCell (p := ⟨g, k, none⟩) hg _⟩
        case measure => simp [intOf]; omega
      · have hfin := below_then B2.out hW
        have RX := Lib.hid ((HX.out.below hfin).more hfin.size)
        have R0' := Lib.hid ((R0.out.below hW).more hW.size)
        have HF := Lib.hid hfin
        clear hO hW hfin
        go_wp2_with (go_at_call 14; refine (same_self x x0 n cap c0 xs _ wr.heap.size RX.out R0'.out HN.out (by omega)).mono ?_; rintro e w' ⟨rfl, n6, rfl⟩)
        go_ret
        exact ⟨rfl, below_draws HF.out _⟩

set_option maxRecDepth 100000 in
theorem walk_DftDoes (p : Int) (x : Option Addr) (len cap : Nat) (zs : List Int) (y : Option Addr) (len' cap' : Nat) (zs' : List Int) (neg : Bool) (w : World) (_hp : (Lit.int .u64 p).wf = true) (hr : RowIn .u64 w x len cap zs) (hr' : RowIn .u64 w y len' cap' zs') (hG : Gl w) :
    Calls Tryd.prog 3 #[.int .u64 p, .slice x len cap, .slice y len' cap', .bool neg] w fun e w' => e = .returned (.bool true) ∧ Below w.heap.size w w' := by
  obtain ⟨xs, rfl, hn, hcp, hm, hx, hw⟩ := hr.reads
  obtain ⟨ys, -, hn', hcp', hm', hy, hw'⟩ := hr'.reads
  have hS := hr.src
  unfold maxLen at hm hm'
  by_cases h1 : ((len ≤ 24 ∨ 4096 < len) ∧ (len' ≤ 24 ∨ 4096 < len')) ∧ len ≤ 4100 ∧ len' ≤ 4100
  · exact does6_main p x y len len' cap cap' _ ys neg w hG hS hx hy hn hn' hw hw' h1.1.1 h1.2.1 h1.1.2 h1.2.2
  · have HV := Lib.hid (live6_any w hG)
    clear hn hn' hx hy hw hw' hS hr hr' hG
    by_cases hA : 24 < len ∧ len ≤ 4096
    · have d1 : decide (24 < (len : Int)) = true := by simp; omega
      have d2 : decide ((len : Int) ≤ 4096) = true := by simp; omega
      clear h1
      go_enter Tryd.func3, Tryd.ntmps3
      go_wp2_with (go_at_call 7; refine HV.out.mono ?_; rintro e w1 ⟨rfl, b1⟩)
      go_ret
      exact ⟨rfl, b1⟩
    obtain ⟨d1, d2, hd1, hd2, hd⟩ := split_len (show len ≤ 24 ∨ 4096 < len by omega)
    by_cases hB : 24 < len' ∧ len' ≤ 4096
    · have d3 : decide (24 < (len' : Int)) = true := by simp; omega
      have d4 : decide ((len' : Int) ≤ 4096) = true := by simp; omega
      clear h1 hA hB
      rcases hd with rfl | ⟨rfl, rfl⟩
      all_goals
        go_enter Tryd.func3, Tryd.ntmps3
        go_wp2_with (go_at_call 7; refine HV.out.mono ?_; rintro e w1 ⟨rfl, b1⟩)
        go_ret
        exact ⟨rfl, b1⟩
    obtain ⟨d3, d4, hd3, hd4, hd'⟩ := split_len (show len' ≤ 24 ∨ 4096 < len' by omega)
    by_cases hC : 4100 < len
    · have g2 : decide (4100 < (len : Int)) = true := by simp; omega
      clear h1 hA hB
      rcases hd with rfl | ⟨rfl, rfl⟩ <;> rcases hd' with rfl | ⟨rfl, rfl⟩
      all_goals
        go_enter Tryd.func3, Tryd.ntmps3
        go_wp2_with (go_at_call 7; refine HV.out.mono ?_; rintro e w1 ⟨rfl, b1⟩)
        go_ret
        exact ⟨rfl, b1⟩
    · have g2 : decide (4100 < (len : Int)) = false := by simp; omega
      have g4 : decide (4100 < (len' : Int)) = true := by simp; omega
      clear h1 hA hB
      rcases hd with rfl | ⟨rfl, rfl⟩ <;> rcases hd' with rfl | ⟨rfl, rfl⟩
      all_goals
        go_enter Tryd.func3, Tryd.ntmps3
        go_wp2_with (go_at_call 7; refine HV.out.mono ?_; rintro e w1 ⟨rfl, b1⟩)
        go_ret
        exact ⟨rfl, b1⟩

end Go.Proofs.YtmkbgocmddjfbaaDoor
