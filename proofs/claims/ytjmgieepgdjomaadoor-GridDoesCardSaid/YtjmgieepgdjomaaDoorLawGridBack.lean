/-
  The walk of the law GridBack: it returns true for every word, every slice of axes and every slice of words, there and back; nothing that was there is written.
-/
import Derived.Test.YtjmgieepgdjomaaDoorGridLive
import Derived.Test.YtjmgieepgdjomaaDoorRows2
namespace Go.Proofs.YtjmgieepgdjomaaDoor
open Go.RowKit Go.Shelf

theorem doL_le (p : Int) (xa : List Ax) (inv : Bool) (xs : List Int) : (doL p xa inv xs).length ≤ xs.length := by
  unfold doL; split
  · rw [doTo_len]; exact Nat.le_refl _
  · simp
theorem axL_le (p : Int) (xa : List Ax) (a : Int) (inv : Bool) (xs : List Int) : (axL p xa a inv xs).length ≤ xs.length := by
  unfold axL; split
  · rw [thr_len]; exact Nat.le_refl _
  · simp

set_option maxHeartbeats 2000000 in
set_option maxRecDepth 100000 in
theorem walk_GridBack (p : Int) (x : Option Addr) (len cap : Nat) (xa : List Ax) (inv : Bool) (y : Option Addr) (m cap' : Nat) (zs : List Int) (w : World) (_hp : (Lit.int .u64 p).wf = true) (hA : AxisIn w x len cap xa) (hlb : len ≤ 8796093022208) (hr : RowIn .u64 w y m cap' zs) (hG : Gl w) :
    Calls Tryd.prog 4 #[.int .u64 p, .slice x len cap, .bool inv, .slice y m cap'] w fun e w' => e = .returned (.bool true) ∧ Below w.heap.size w w' := by
  obtain ⟨hn, hc1, hc2, hx, -⟩ := hA
  obtain ⟨xs, -, hm, hcp, hml, hy, hw⟩ := hr.reads
  have hml : m ≤ maxLen := Nat.le_trans hcp hml
  have HV := Lib.hid (live7_any w hG)
  obtain ⟨b, HFew⟩ := few_any x len cap xa 64 w hx hn hlb
  clear hr hcp hc1 hc2
  cases b
  · clear hx hy hG hw hm hn hml
    go_enter Tryd.func4, Tryd.ntmps4
    go_wp2_with (first
      | (go_at_call 7; refine HV.out.mono ?_; rintro e w1 ⟨rfl, b1⟩; have B1 := Lib.hid b1; clear b1)
      | (go_at_call 8; refine (HFew.out _ B1.out).mono ?_; rintro e w2 ⟨rfl, b2⟩; have B2 := Lib.hid (below_then B1.out b2); clear b2))
    go_ret
    exact ⟨rfl, B2.out⟩
  · by_cases hl : 70 < m
    · have d1 : decide (70 < (m : Int)) = true := by simp; omega
      clear hx hy hG hw hm hn hml
      go_enter Tryd.func4, Tryd.ntmps4
      go_wp2_with (first
        | (go_at_call 7; refine HV.out.mono ?_; rintro e w1 ⟨rfl, b1⟩; have B1 := Lib.hid b1; clear b1)
        | (go_at_call 8; refine (HFew.out _ B1.out).mono ?_; rintro e w2 ⟨rfl, b2⟩; have B2 := Lib.hid (below_then B1.out b2); clear b2))
      go_ret
      exact ⟨rfl, B2.out⟩
    · have d1 : decide (70 < (m : Int)) = false := by simp; omega
      have HD := Lib.hid (fun W (hB : Below w.heap.size w W) => do_any p x len cap xa inv y m cap' xs W (hG.then hB) ((hx.below hB).more hB.size) hn hlb ((hy.below hB).more hB.size) hm hw hml)
      by_cases hE : wordsE p xa xs = 0
      · have hGr := wordsE_zero hE
        rw [hE, hGr.doL] at HD
        have hL := doTo_len p xa inv xs xa.length
        rw [hm] at hL
        have hG2 := hGr.doTo (inv := inv) xa.length
        have HD2 := Lib.hid (fun (y1 : Option Addr) (c1 : Nat) W (hB : Below w.heap.size w W) (hR : Reads .u64 W W.heap.size y1 (doTo p xa inv xs xa.length)) => do_any p x len cap xa (!inv) y1 m c1 (doTo p xa inv xs xa.length) W (hG.then hB) ((hx.below hB).more hB.size) hn hlb hR hL (hGr.doWords hw _) hml)
        rw [hG2.zero, hG2.doL, hGr.do_back hw (Nat.le_refl _)] at HD2
        have h1 := hGr.le
        rw [hm] at h1
        have hin := (Fp.isIn_iff hG2.ax.kn _).2 hG2.lt
        rw [hL] at hin
        have HIn : Hid (∀ (g off c : Nat) W, (∀ j, j < m → W.cell? ⟨g, off + j, none⟩ = some (.int .u64 ((doTo p xa inv xs xa.length).getD j 0))) → Calls Tryd.prog 19 #[.int .u64 p, .slice (some ⟨g, off, none⟩) m c] W fun e w' => e = .returned (.bool true) ∧ W = w') := Lib.hid (fun g off c W hc => by
          rw [← hin]
          exact in_row p g off m c _ W (by omega) hc)
        have HX := Lib.hid (fun W (hB : Below w.heap.size w W) => (hy.below hB).more hB.size)
        have HM := Lib.hid hm
        have HLL := Lib.hid hL
        generalize doTo p xa inv xs xa.length = ds at HD HD2 HIn HLL
        clear hx hy hG hw hm hn hml hE hGr hL hG2 hin
        go_enter Tryd.func4, Tryd.ntmps4
        go_wp2_with (first
          | (go_at_call 7; refine HV.out.mono ?_; rintro e w1 ⟨rfl, b1⟩; have B1 := Lib.hid b1; clear b1)
          | (go_at_call 8; refine (HFew.out _ B1.out).mono ?_; rintro e w2 ⟨rfl, b2⟩; have B2 := Lib.hid (below_then B1.out b2); clear b2)
          | (go_at_call_of 11 (Value.slice y m cap'); refine (HD.out _ B2.out).mono ?_; rintro e w3 ⟨v, rfl, hO, b3⟩; obtain ⟨y1, c1, rfl, -, -, hr1, hg1⟩ := hO.form; obtain ⟨g1, rfl, -, -⟩ := hg1 (by rw [HLL.out]; omega); have R1 := Lib.hid hr1; have B3 := Lib.hid (below_then B2.out b3); rw [HLL.out]; clear b3 hO hr1 hg1)
          | (go_at_call 11; refine (HD2.out _ _ _ B3.out R1.out).mono ?_; rintro e w4 ⟨v, rfl, hO, b4⟩; obtain ⟨y2, c2, rfl, -, -, hr2, -⟩ := hO.form; have R2 := Lib.hid hr2; have R1' := Lib.hid ((R1.out.below b4).more b4.size); have B4 := Lib.hid (below_then B3.out b4); rw [HM.out]; clear b4 hO hr2)
          | (go_at_call 13; refine (same_self y2 y m c2 cap' xs _ w4.heap.size R2.out (HX.out _ B4.out) HM.out (by omega)).mono ?_; rintro e w' ⟨rfl, n6, rfl⟩)
          | (go_at_call 19; refine (HIn.out g1 0 c1 _ (fun j hj => by obtain ⟨b', off', e', _, hc'⟩ := R1'.out (by rw [HLL.out]; omega); cases e'; exact hc' j (by rw [HLL.out]; exact hj))).mono ?_; rintro e w' ⟨rfl, rfl⟩))
        go_ret
        exact ⟨rfl, below_draws B4.out _⟩
      · rw [doL_no hE] at HD
        have t := ne_of_bne hE
        generalize wordsE p xa xs = er at HD t
        clear hx hy hG hw hm hn hml hE
        go_enter Tryd.func4, Tryd.ntmps4
        go_wp2_with (first
          | (go_at_call 7; refine HV.out.mono ?_; rintro e w1 ⟨rfl, b1⟩; have B1 := Lib.hid b1; clear b1)
          | (go_at_call 8; refine (HFew.out _ B1.out).mono ?_; rintro e w2 ⟨rfl, b2⟩; have B2 := Lib.hid (below_then B1.out b2); clear b2)
          | (go_at_call 11; refine (HD.out _ B2.out).mono ?_; rintro e w3 ⟨v, rfl, hO, b3⟩; obtain ⟨y1, c1, rfl, -, -, -, -⟩ := hO.form; have B3 := Lib.hid (below_then B2.out b3); clear b3 hO; simp only [List.length_nil]))
        go_ret
        exact ⟨rfl, B3.out⟩

end Go.Proofs.YtjmgieepgdjomaaDoor
