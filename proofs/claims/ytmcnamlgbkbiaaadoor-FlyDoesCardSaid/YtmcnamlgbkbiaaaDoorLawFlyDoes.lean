/-
  The walk of the law FlyDoes: it returns true for every prime, every radix, any two slices of words, either way; nothing that was there is written.
-/
import Derived.Test.YtmcnamlgbkbiaaaDoorFlyHas
import Derived.Test.YtmcnamlgbkbiaaaDoorRefFly
import Derived.Test.YtmcnamlgbkbiaaaDoorSome
import Derived.Test.YtmcnamlgbkbiaaaDoorInts
namespace Go.Proofs.YtmcnamlgbkbiaaaDoor
open Go.RowKit Fly

theorem ptsL_le (p r : Int) (inv : Bool) : (ptsL p r inv).length ≤ 5 := by
  unfold ptsL
  split
  · rename_i h
    have : r ≤ 5 := by
      rcases ptE_cases p r with ⟨_, hE⟩ | ⟨_, _, hE⟩ | ⟨_, _, _, _, _, hE⟩ | ⟨_, _, h2, _⟩
      · omega
      · omega
      · omega
      · exact h2
    simp
    omega
  · simp
theorem doL_le (p : Int) (inv : Bool) (xs : List Int) : (doL p inv xs).length ≤ xs.length := by unfold doL; split <;> simp

set_option maxHeartbeats 4000000 in
set_option maxRecDepth 100000 in
theorem flydoes_any {G : World → Prop} (H : FlyHas G) (p r : Int) (inv : Bool) (x y : Option Addr) (n m cap cap' : Nat) (xs ws : List Int) (w : World) (hr : -9223372036854775808 ≤ r ∧ r < 9223372036854775808) (hG : G w) (hsrc : Src .u64 w x n cap xs) (hx : Reads .u64 w w.heap.size x xs) (hy : Reads .u64 w w.heap.size y ws)
    (hn : xs.length = n) (hm : ws.length = m) (hw : Words xs) (hw' : Words ws) (hl : n ≤ 12) (hl' : m ≤ 12) :
    Calls Tryd.prog 3 #[.int .u64 p, .int .i64 r, .bool inv, .slice x n cap, .slice y m cap'] w fun e w' => e = .returned (.bool true) ∧ Below w.heap.size w w' := by
  have hd1 : decide (12 < (n : Int)) = false := by simp; omega
  have hd2 : decide (12 < (m : Int)) = false := by simp; omega
  have hml : n ≤ maxLen := by unfold maxLen; omega
  have hml' : m ≤ maxLen := by unfold maxLen; omega
  have HV := Lib.hid (live15_any H w hG)
  have HSRC := Lib.hid hsrc
  have H1 := Lib.hid (fun W (hB : Below w.heap.size w W) => H.points p r inv W (H.keep hG hB) hr)
  have H2 := Lib.hid (fun W => rpoints_any p r inv W hr)
  have H3 := Lib.hid (fun W (hB : Below w.heap.size w W) => H.doo p inv x n cap xs W (H.keep hG hB) ((hx.below hB).more hB.size) hn hw hml)
  have H4 := Lib.hid (fun W (hB : Below w.heap.size w W) => rdo15_any p inv x n cap xs W ((hx.below hB).more hB.size) hn hw hml)
  have H5 := Lib.hid (fun W (hB : Below w.heap.size w W) => H.weigh p inv x y n m cap cap' xs ws W (H.keep hG hB) ((hx.below hB).more hB.size) hn hw ((hy.below hB).more hB.size) hm hw' hml hml')
  have H6 := Lib.hid (fun W (hB : Below w.heap.size w W) => rwg_any p inv x y n m cap cap' xs ws W ((hx.below hB).more hB.size) hn hw ((hy.below hB).more hB.size) hm hw' hml hml')
  have kp := ptsL_le p r inv
  have kd := doL_le p inv xs
  rw [hn] at kd
  generalize ptsL p r inv = ls at H1 H2 kp
  generalize doL p inv xs = ds at H3 H4 kd
  have q1 : (ptE p r == ptE p r) = true := by simp
  have q2 : (doE p xs == doE p xs) = true := by simp
  have q3 : (wgV p inv xs ws == wgV p inv xs ws) = true := by simp
  have q4 : (wgE p xs ws == wgE p xs ws) = true := by simp
  generalize ptE p r = e1 at H1 H2 q1
  generalize doE p xs = e2 at H3 H4 q2
  generalize wgV p inv xs ws = e3 at H5 H6 q3
  generalize wgE p xs ws = e4 at H5 H6 q4
  have HX := Lib.hid hx
  have HN := Lib.hid hn
  obtain ⟨i0, hi, hz0, hz1, hz2⟩ := info_parts info_u64
  clear hG hx hy hw hw' hml hml' hn hm hsrc H
  go_enter Tryd.func3, Tryd.ntmps3
  go_wp2_with (first
    | (go_at_call 10; refine HV.out.mono ?_; rintro e w1 ⟨rfl, b1⟩; have B1 := Lib.hid b1; clear b1)
    | (at_builtin; refine wpList_copy_new rfl _ _ 23 rfl 22 i0 .u64 8 Tryd.underlying23 hi hz0 hz1 hz2 x n cap xs rfl rfl (HSRC.out.keep B1.out) (by unfold maxLen; omega) (by omega) ?_; intro v0 w2 hO2 b2))
  have B2 := Lib.hid (below_then B1.out b2)
  obtain ⟨x0, c0, rfl, -, -, hR0, -⟩ := hO2.form
  rw [HN.out]
  have R0 := Lib.hid hR0
  clear b2 hR0 hO2 hi hz0 hz1 hz2 HV HSRC B1
  go_wp2_with fail
  refine (H1.out _ B2.out).mono ?_; rintro e w3 ⟨v, rfl, hO, b3⟩; obtain ⟨y1, k1, rfl, -, -, hr, -⟩ := hO.form; have R1 := Lib.hid hr; have B3 := Lib.hid (below_then B2.out b3); have C3 := Lib.hid b3; clear b3 hO hr
  go_wp2_with fail
  refine (H2.out _).mono ?_; rintro e w4 ⟨v, rfl, hO, b4⟩; obtain ⟨y2, k2, rfl, -, -, hr, -⟩ := hO.form; have R2 := Lib.hid hr; have B4 := Lib.hid (below_then B3.out b4); have C4 := Lib.hid (below_then C3.out b4); replace R1 := Lib.hid ((R1.out.below b4).more b4.size); clear b4 hO hr
  go_wp2_with fail
  refine (H3.out _ B4.out).mono ?_; rintro e w5 ⟨v, rfl, hO, b5⟩; obtain ⟨y3, k3, rfl, -, -, hr, hg3⟩ := hO.form; have R3 := Lib.hid hr; have O3 := Lib.hid (OwnsSome.of hO); have B5 := Lib.hid (below_then B4.out b5); have C5 := Lib.hid (below_then C4.out b5); have D5 := Lib.hid b5; have HG3 := Lib.hid hg3; replace R1 := Lib.hid ((R1.out.below b5).more b5.size); replace R2 := Lib.hid ((R2.out.below b5).more b5.size); clear b5 hO hr hg3
  go_wp2_with fail
  refine (H4.out _ B5.out).mono ?_; rintro e w6 ⟨v, rfl, hO, b6⟩; obtain ⟨y4, k4, rfl, -, -, hr, -⟩ := hO.form; have R4 := Lib.hid hr; have B6 := Lib.hid (below_then B5.out b6); have C6 := Lib.hid (below_then C5.out b6); have D6 := Lib.hid (below_then D5.out b6); have E6 := Lib.hid b6; replace R1 := Lib.hid ((R1.out.below b6).more b6.size); replace R2 := Lib.hid ((R2.out.below b6).more b6.size); replace R3 := Lib.hid ((R3.out.below b6).more b6.size); clear b6 hO hr
  go_wp2_with fail
  refine (H5.out _ B6.out).mono ?_; rintro e w7 ⟨rfl, b7⟩; have B7 := Lib.hid (below_then B6.out b7); have C7 := Lib.hid (below_then C6.out b7); have D7 := Lib.hid (below_then D6.out b7); have E7 := Lib.hid (below_then E6.out b7); replace R1 := Lib.hid ((R1.out.below b7).more b7.size); replace R2 := Lib.hid ((R2.out.below b7).more b7.size); replace R3 := Lib.hid ((R3.out.below b7).more b7.size); replace R4 := Lib.hid ((R4.out.below b7).more b7.size); clear b7
  go_wp2_with fail
  refine (H6.out _ B7.out).mono ?_; rintro e w8 ⟨rfl, b8⟩; have B8 := Lib.hid (below_then B7.out b8); have C8 := Lib.hid (below_then C7.out b8); have D8 := Lib.hid (below_then D7.out b8); have E8 := Lib.hid (below_then E7.out b8); replace R1 := Lib.hid ((R1.out.below b8).more b8.size); replace R2 := Lib.hid ((R2.out.below b8).more b8.size); replace R3 := Lib.hid ((R3.out.below b8).more b8.size); replace R4 := Lib.hid ((R4.out.below b8).more b8.size); clear b8
  replace O3 := Lib.hid (O3.out.keep E8.out)
  clear B3 B5 B6 B7 B8 C3 C5 C6 C7 C8 D5 D6 D7 E6 E7 E8 H1 H2 H3 H4 H5 H6
  go_wp2_with (first
    | (go_at_call_of 17 (Value.slice y1 ls.length k1); refine (same_self y1 y2 ls.length k1 k2 ls _ w8.heap.size R1.out R2.out rfl (by omega)).mono ?_; rintro e w' ⟨rfl, n1, rfl⟩)
    | (go_at_call_of 17 (Value.slice y3 ds.length k3); refine (same_self y3 y4 ds.length k3 k4 ds _ w8.heap.size (R3.out.draws _) (R4.out.draws _) rfl (by omega)).mono ?_; rintro e w' ⟨rfl, n2, rfl⟩))
  have hst := O3.out
  have hbl : Below w4.heap.size w4 (w8.drewN (n1 + n2)) := below_draws D8.out _
  clear R1 R2 R3 R4 D8 O3
  go_loopw [112] (fun i wr => ∃ k : Nat, k ≤ ds.length ∧ i = .int .i64 (k : Int) ∧ OwnsSome wr w4.heap.size (.slice y3 ds.length k3) ds.length ∧ Below w4.heap.size w4 wr) (fun i _ => ds.length - (intOf i).toNat)
  case atStart => exact ⟨0, Nat.zero_le _, rfl, hst, hbl⟩
  case round =>
    obtain ⟨k, hk, rfl, hO, hW⟩ := hrel
    clear hst hbl
    by_cases hlt : k < ds.length
    · have hdk : decide (k < ds.length) = true := by simpa using hlt
      obtain ⟨g, rfl, hg, -⟩ := HG3.out (by omega)
      obtain ⟨z, hc⟩ := hO.cell hlt
      have hf := hO.frozen k
      go_wp2
      go_roundw
      case rel => exact ⟨k + 1, by omega, by go_num, hO.set _, hW.setCell (p := ⟨g, k, none⟩) hg _⟩
      case measure => simp [intOf]; omega
    · have hdk : decide (k < ds.length) = false := by simp; omega
      have hfin := below_then B4.out hW
      have RX := Lib.hid ((HX.out.below hfin).more hfin.size)
      have hW2 := below_then C4.out hW
      have R0' := Lib.hid ((R0.out.below hW2).more hW2.size)
      have HF := Lib.hid hfin
      clear hO hW hfin hW2
      go_wp2_with (go_at_call 17; refine (same_self x x0 n cap c0 xs _ wr.heap.size RX.out R0'.out HN.out (by omega)).mono ?_; rintro e w' ⟨rfl, n6, rfl⟩)
      go_ret
      exact ⟨rfl, below_draws HF.out _⟩

set_option maxRecDepth 100000 in
theorem flydoes_walk {G : World → Prop} (H : FlyHas G) (p r : Int) (inv : Bool) (x : Option Addr) (len cap : Nat) (zs : List Int) (y : Option Addr) (len' cap' : Nat) (zs' : List Int) (w : World) (_hp : (Lit.int .u64 p).wf = true) (hr : (Lit.int .i64 r).wf = true) (hx : RowIn .u64 w x len cap zs) (hy : RowIn .u64 w y len' cap' zs') (hG : G w) :
    Calls Tryd.prog 3 #[.int .u64 p, .int .i64 r, .bool inv, .slice x len cap, .slice y len' cap'] w fun e w' => e = .returned (.bool true) ∧ Below w.heap.size w w' := by
  obtain ⟨xs, rfl, hn, hcp, hm, hrx, hw⟩ := hx.reads
  obtain ⟨ys, -, hn', hcp', hm', hry, hw'⟩ := hy.reads
  have hb := bounds_i64 hr
  unfold maxLen at hm hm'
  by_cases hl : len ≤ 12
  · by_cases hl' : len' ≤ 12
    · exact flydoes_any H p r inv x y len len' cap cap' _ ys w (by omega) hG hx.src hrx hry hn hn' hw hw' hl hl'
    · have hd1 : decide (12 < (len : Int)) = false := by simp; omega
      have hd2 : decide (12 < (len' : Int)) = true := by simp; omega
      have HV := Lib.hid (live15_any H w hG)
      clear hn hn' hrx hry hw hw' hx hy hG H
      go_enter Tryd.func3, Tryd.ntmps3
      go_wp2_with (go_at_call 10; refine HV.out.mono ?_; rintro e w1 ⟨rfl, b1⟩)
      go_ret
      exact ⟨rfl, b1⟩
  · have hd1 : decide (12 < (len : Int)) = true := by simp; omega
    have HV := Lib.hid (live15_any H w hG)
    clear hn hn' hrx hry hw hw' hx hy hG H
    go_enter Tryd.func3, Tryd.ntmps3
    go_wp2_with (go_at_call 10; refine HV.out.mono ?_; rintro e w1 ⟨rfl, b1⟩)
    go_ret
    exact ⟨rfl, b1⟩

end Go.Proofs.YtmcnamlgbkbiaaaDoor
