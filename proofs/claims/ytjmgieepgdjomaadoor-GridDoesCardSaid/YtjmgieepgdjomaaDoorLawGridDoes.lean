/-
  The walk of the law GridDoes: it returns true for every word, every slice of axes, every number of an axis and every slice of words, there or back; nothing that was there is written.
-/
import Derived.Test.YtjmgieepgdjomaaDoorLawGridBack
import Derived.Test.YtjmgieepgdjomaaDoorGridRefDo
import Derived.Deep.RegionWith
namespace Go.Proofs.YtjmgieepgdjomaaDoor
open Go.RowKit Go.Shelf

theorem OwnsSome.under {w : World} {base n : Nat} {v : Value} (h : OwnsSome w base v n) {ad : Addr} (hlt : ad.block < base) (u : Value) : OwnsSome (w.setCell ad u) base v n := by
  obtain ⟨vs, h1, h2⟩ := h
  refine ⟨vs, ⟨h1.1, ?_⟩, h2⟩
  rcases h1.2 with h3 | ⟨g, cap, cur, e1, e2, e3, e4⟩
  · exact .inl h3
  · exact .inr ⟨g, cap, cur, e1, e2, (Below.heap_setCell w ad u g (by omega)).trans e3, e4⟩
theorem eq_self7 (a : Int) : (a == a) = true := by simp
theorem sameInts_self (x y : Option Addr) (n cap cap' : Nat) (xs : List Int) (w : World) (B : Nat) (hx : Reads .i64 w B x xs) (hy : Reads .i64 w B y xs) (hn : xs.length = n) (hl : n ≤ 140737488355328) :
    Calls Tryd.prog 16 #[.slice x n cap, .slice y n cap'] w (RetQ (.bool true) w) := by
  have := sameInts_any x y n n cap cap' xs xs w B hx hy hn hn hl hl
  rw [decide_eq_true rfl] at this
  exact this

set_option maxHeartbeats 8000000 in
set_option maxRecDepth 100000 in
theorem does7_main (p : Int) (x : Option Addr) (len cap : Nat) (xa : List Ax) (a : Int) (inv : Bool) (y : Option Addr) (m cap' : Nat) (xs : List Int) (w : World) (hG : Gl w) (hx : ReadsA w w.heap.size x xa) (hn : xa.length = len) (hlb : len ≤ 8796093022208) (hsrc : Src .u64 w y m cap' xs) (hy : Reads .u64 w w.heap.size y xs) (hm : xs.length = m) (hw : Words xs) (hl : m ≤ 60)
    (HFew : Hid (∀ W, Below w.heap.size w W → Calls Tryd.prog 8 #[.slice x len cap, .int .i64 48] W (RetB (.bool true) W))) :
    Calls Tryd.prog 3 #[.int .u64 p, .slice x len cap, .int .i64 a, .bool inv, .slice y m cap'] w fun e w' => e = .returned (.bool true) ∧ Below w.heap.size w w' := by
  have d1 : decide (60 < (m : Int)) = false := by simp; omega
  have hml : m ≤ maxLen := by unfold maxLen; omega
  have HV := Lib.hid (live7_any w hG)
  have HSRC := Lib.hid hsrc
  have H1 := Lib.hid (fun W (hB : Below w.heap.size w W) => axis_any p x len cap xa a inv y m cap' xs W (hG.then hB) ((hx.below hB).more hB.size) hn hlb ((hy.below hB).more hB.size) hm hw hml)
  have H2 := Lib.hid (fun W (hB : Below w.heap.size w W) => raxis_any p x len cap xa a inv y m cap' xs W ((hx.below hB).more hB.size) hn hlb ((hy.below hB).more hB.size) hm hw hml)
  have H3 := Lib.hid (fun W (hB : Below w.heap.size w W) => do_any p x len cap xa inv y m cap' xs W (hG.then hB) ((hx.below hB).more hB.size) hn hlb ((hy.below hB).more hB.size) hm hw hml)
  have H4 := Lib.hid (fun W (hB : Below w.heap.size w W) => rdo_any p x len cap xa inv y m cap' xs W ((hx.below hB).more hB.size) hn hlb ((hy.below hB).more hB.size) hm hw hml)
  have H5 := Lib.hid (fun W (hB : Below w.heap.size w W) => check7_any p x len cap xa W (hG.then hB) ((hx.below hB).more hB.size) hn hlb)
  have H6 := Lib.hid (fun W (hB : Below w.heap.size w W) => rcheck7_any p x len cap xa W ((hx.below hB).more hB.size) hn hlb)
  have H7 := Lib.hid (fun W (hB : Below w.heap.size w W) => dims_any x len cap xa W ((hx.below hB).more hB.size) hn hlb)
  have H8 := Lib.hid (fun W (hB : Below w.heap.size w W) => rdims_any x len cap xa W ((hx.below hB).more hB.size) hn hlb)
  have ka := axL_le p xa a inv xs
  have kd := doL_le p xa inv xs
  rw [hm] at ka kd
  have HDl : Hid ((dims xa).length = len) := Lib.hid ((dims_len xa).trans hn)
  generalize axL p xa a inv xs = fs at H1 H2 ka
  generalize doL p xa inv xs = gs at H3 H4 kd
  have q1 := eq_self7 (axE p xa a xs)
  have q2 := eq_self7 (wordsE p xa xs)
  have q3 := eq_self7 (gridE p xa)
  generalize axE p xa a xs = e1 at H1 H2 q1
  generalize wordsE p xa xs = e2 at H3 H4 q2
  generalize gridE p xa = e3 at H5 H6 q3
  generalize dims xa = dl at H7 H8 HDl
  have HX := Lib.hid hy
  have HN := Lib.hid hm
  obtain ⟨i0, hi, hz0, hz1, hz2⟩ := info_parts info_u64
  clear hG hx hy hw hml hn hm hsrc
  go_enter Tryd.func3, Tryd.ntmps3
  go_wp2_with (first
    | (go_at_call 7; refine HV.out.mono ?_; rintro e w1 ⟨rfl, b1⟩; have B1 := Lib.hid b1; clear b1)
    | (go_at_call 8; refine (HFew.out _ B1.out).mono ?_; rintro e wf ⟨rfl, bf⟩; have BF := Lib.hid (below_then B1.out bf); clear bf)
    | (at_builtin; refine wpList_copy_new rfl _ _ 24 rfl 22 i0 .u64 8 Tryd.underlying24 hi hz0 hz1 hz2 y m cap' xs rfl rfl (HSRC.out.keep BF.out) (by unfold maxLen; omega) (by omega) ?_; intro v0 w2 hO2 b2))
  have B2 := Lib.hid (below_then BF.out b2)
  obtain ⟨x0, c0, rfl, -, -, hR0, -⟩ := hO2.form
  rw [HN.out]
  have R0 := Lib.hid hR0
  clear b2 hR0 hO2 hi hz0 hz1 hz2 HV HSRC B1 BF HFew
  refine (H1.out _ B2.out).mono ?_; rintro e w3 ⟨v, rfl, hO, b3⟩; obtain ⟨y1, k1, rfl, -, -, hr, hg1⟩ := hO.form; have R1 := Lib.hid hr; have O1 := Lib.hid (OwnsSome.of hO); have B3 := Lib.hid (below_then B2.out b3); have C3 := Lib.hid b3; have HG1 := Lib.hid hg1; clear b3 hO hr hg1
  go_wp2_with fail
  refine (H2.out _ B3.out).mono ?_; rintro e w4 ⟨v, rfl, hO, b4⟩; obtain ⟨y2, k2, rfl, -, -, hr, -⟩ := hO.form; have R2 := Lib.hid hr; have B4 := Lib.hid (below_then B3.out b4); have C4 := Lib.hid b4; clear b4 hO hr
  go_wp2_with fail
  refine (H3.out _ B4.out).mono ?_; rintro e w5 ⟨v, rfl, hO, b5⟩; obtain ⟨y3, k3, rfl, -, -, hr, hg3⟩ := hO.form; have R3 := Lib.hid hr; have O3 := Lib.hid (OwnsSome.of hO); have B5 := Lib.hid (below_then B4.out b5); have C5 := Lib.hid b5; have HG3 := Lib.hid hg3; clear b5 hO hr hg3
  go_wp2_with fail
  refine (H4.out _ B5.out).mono ?_; rintro e w6 ⟨v, rfl, hO, b6⟩; obtain ⟨y4, k4, rfl, -, -, hr, -⟩ := hO.form; have R4 := Lib.hid hr; have B6 := Lib.hid (below_then B5.out b6); have C6 := Lib.hid b6; clear b6 hO hr
  have C56 := Lib.hid (below_then C5.out C6.out)
  have C46 := Lib.hid (below_then C4.out C56.out)
  have S1 := Lib.hid ((R1.out.below C46.out).more C46.out.size)
  have S2 := Lib.hid ((R2.out.below C56.out).more C56.out.size)
  have S3 := Lib.hid ((R3.out.below C6.out).more C6.out.size)
  have S0 := Lib.hid (below_then C3.out C46.out)
  have OA := Lib.hid (O1.out.keep C46.out)
  have OC := Lib.hid (O3.out.keep C6.out)
  have s34 := Lib.hid C4.out.size
  have s23 := Lib.hid (And.intro C3.out.size C4.out.size)
  clear R1 R2 R3 C3 C4 C5 C6 C46 C56 B3 B4 B5 H1 H2 H3 H4 O1 O3
  go_wp2_with (first
    | (go_at_call_of 13 (Value.slice y1 fs.length k1); refine (same_self y1 y2 fs.length k1 k2 fs _ w6.heap.size S1.out S2.out rfl (by omega)).mono ?_; rintro e w' ⟨rfl, n1, rfl⟩)
    | (go_at_call_of 13 (Value.slice y3 gs.length k3); refine (same_self y3 y4 gs.length k3 k4 gs _ w6.heap.size (S3.out.draws _) (R4.out.draws _) rfl (by omega)).mono ?_; rintro e w' ⟨rfl, n2, rfl⟩)
    | (go_at_call 14; refine (H5.out _ (below_draws B6.out _)).mono ?_; rintro e w7 ⟨rfl, b7⟩; have B7 := Lib.hid (below_then (below_draws B6.out _) b7); have C7 := Lib.hid (below_of_draws b7); clear b7)
    | (go_at_call 15; refine (H6.out _ B7.out).mono ?_; rintro e w8 ⟨rfl, b8⟩; have B8 := Lib.hid (below_then B7.out b8); have C8 := Lib.hid (below_then C7.out b8); clear b8)
    | (go_at_call 17; refine (H7.out _ B8.out).mono ?_; rintro e w9 ⟨v, rfl, hO, b9⟩; obtain ⟨y5, k5, rfl, -, -, hr, -⟩ := hO.form; have R5 := Lib.hid hr; have B9 := Lib.hid (below_then B8.out b9); have C9 := Lib.hid (below_then C8.out b9); clear b9 hO hr)
    | (go_at_call 18; refine (H8.out _ B9.out).mono ?_; rintro e w10 ⟨v, rfl, hO, b10⟩; obtain ⟨y6, k6, rfl, -, -, hr, -⟩ := hO.form; have R6 := Lib.hid hr; have R5' := Lib.hid ((R5.out.below b10).more b10.size); have C10 := Lib.hid (below_then C9.out b10); clear b10 hO hr)
    | (go_at_call 16; refine (sameInts_self y5 y6 dl.length k5 k6 dl _ w10.heap.size R5'.out R6.out rfl (by rw [HDl.out]; omega)).mono ?_; rintro e w' ⟨rfl, n3, rfl⟩))
  have hst := OA.out.keep (below_draws C10.out n3)
  have hst3 := OC.out.keep (below_draws C10.out n3)
  have hbl := below_then S0.out (below_draws C10.out n3)
  clear OA OC S1 S2 S3 R4 S0 B7 B8 B9 C7 C8 C9 C10 H5 H6 H7 H8 B6 R5 R5' R6
  go_loopw [105] (fun i wr => ∃ k : Nat, k ≤ fs.length ∧ i = .int .i64 (k : Int) ∧ OwnsSome wr w2.heap.size (.slice y1 fs.length k1) fs.length ∧ OwnsSome wr w4.heap.size (.slice y3 gs.length k3) gs.length ∧ Below w2.heap.size w2 wr) (fun i _ => fs.length - (intOf i).toNat)
  case atStart => exact ⟨0, Nat.zero_le _, rfl, hst, hst3, hbl⟩
  case round =>
    obtain ⟨k, hk, rfl, hO, hO3, hW⟩ := hrel
    clear hst hst3 hbl
    by_cases hlt : k < fs.length
    · obtain ⟨g, rfl, hg, hg'⟩ := HG1.out (by omega)
      obtain ⟨u, hc⟩ := hO.cell hlt
      have hf := hO.frozen k
      have hgl := Nat.lt_of_lt_of_le hg' s34.out
      have HS := Lib.hid (fun z => And.intro (hO.set (j := k) z) (And.intro (hO3.under (ad := ⟨g, k, none⟩) hgl (.int .u64 z)) (hW.setCell (p := ⟨g, k, none⟩) hg (.int .u64 z))))
      clear hO hO3 hW
      go_wp2
      go_roundw
      case rel => exact ⟨k + 1, by omega, by go_num, (HS.out _).1, (HS.out _).2.1, (HS.out _).2.2⟩
      case measure => simp [intOf]; omega
    · have HO3 := Lib.hid hO3
      have HW := Lib.hid hW
      clear hO hO3 hW
      go_wp2
      go_loopw [117] (fun i wr => ∃ k : Nat, k ≤ gs.length ∧ i = .int .i64 (k : Int) ∧ OwnsSome wr w4.heap.size (.slice y3 gs.length k3) gs.length ∧ Below w2.heap.size w2 wr) (fun i _ => gs.length - (intOf i).toNat)
      case atStart => exact ⟨0, Nat.zero_le _, rfl, HO3.out, HW.out⟩
      case round =>
        clear HO3 HW
        obtain ⟨k, hk, rfl, hO, hW⟩ := hrel
        by_cases hlt : k < gs.length
        · obtain ⟨g, rfl, hg, -⟩ := HG3.out (by omega)
          obtain ⟨u, hc⟩ := hO.cell hlt
          have hf := hO.frozen k
          have hgl : w2.heap.size ≤ g := by have := s23.out; omega
          have HS := Lib.hid (fun z => And.intro (hO.set (j := k) z) (hW.setCell (p := ⟨g, k, none⟩) hgl (.int .u64 z)))
          clear hO hW
          go_wp2
          go_roundw
          case rel => exact ⟨k + 1, by omega, by go_num, (HS.out _).1, (HS.out _).2⟩
          case measure => simp [intOf]; omega
        · have hfin := below_then B2.out hW
          have RX := Lib.hid ((HX.out.below hfin).more hfin.size)
          have R0' := Lib.hid ((R0.out.below hW).more hW.size)
          have HF := Lib.hid hfin
          clear hO hW hfin
          go_wp2_with (go_at_call 13; refine (same_self y x0 m cap' c0 xs _ wr.heap.size RX.out R0'.out HN.out (by omega)).mono ?_; rintro e w' ⟨rfl, n6, rfl⟩)
          go_ret
          exact ⟨rfl, below_draws HF.out _⟩

set_option maxHeartbeats 1000000 in
theorem walk_GridDoes (p : Int) (x : Option Addr) (len cap : Nat) (xa : List Ax) (a : Int) (inv : Bool) (y : Option Addr) (m cap' : Nat) (zs : List Int) (w : World) (_hp : (Lit.int .u64 p).wf = true) (hA : AxisIn w x len cap xa) (hlb : len ≤ 8796093022208) (_ha : (Lit.int .i64 a).wf = true) (hr : RowIn .u64 w y m cap' zs) (hG : Gl w) :
    Calls Tryd.prog 3 #[.int .u64 p, .slice x len cap, .int .i64 a, .bool inv, .slice y m cap'] w fun e w' => e = .returned (.bool true) ∧ Below w.heap.size w w' := by
  obtain ⟨hn, hc1, hc2, hx, -⟩ := hA
  have hS := hr.src
  obtain ⟨xs, rfl, hm, hcp, hml, hy, hw⟩ := hr.reads
  have HV := Lib.hid (live7_any w hG)
  obtain ⟨b, HFew⟩ := few_any x len cap xa 48 w hx hn hlb
  clear hcp hc1 hc2 hr
  cases b
  · clear hx hy hG hw hm hn hml hS
    go_enter Tryd.func3, Tryd.ntmps3
    go_wp2_with (first
      | (go_at_call 7; refine HV.out.mono ?_; rintro e w1 ⟨rfl, b1⟩; have B1 := Lib.hid b1; clear b1)
      | (go_at_call 8; refine (HFew.out _ B1.out).mono ?_; rintro e w2 ⟨rfl, b2⟩; have B2 := Lib.hid (below_then B1.out b2); clear b2))
    go_ret
    exact ⟨rfl, B2.out⟩
  · by_cases hl : m ≤ 60
    · exact does7_main p x len cap xa a inv y m cap' _ w hG hx hn hlb hS hy hm hw hl HFew
    · have d1 : decide (60 < (m : Int)) = true := by simp; omega
      clear hx hy hG hw hm hn hml hS
      go_enter Tryd.func3, Tryd.ntmps3
      go_wp2_with (first
        | (go_at_call 7; refine HV.out.mono ?_; rintro e w1 ⟨rfl, b1⟩; have B1 := Lib.hid b1; clear b1)
        | (go_at_call 8; refine (HFew.out _ B1.out).mono ?_; rintro e w2 ⟨rfl, b2⟩; have B2 := Lib.hid (below_then B1.out b2); clear b2))
      go_ret
      exact ⟨rfl, B2.out⟩

end Go.Proofs.YtjmgieepgdjomaaDoor
