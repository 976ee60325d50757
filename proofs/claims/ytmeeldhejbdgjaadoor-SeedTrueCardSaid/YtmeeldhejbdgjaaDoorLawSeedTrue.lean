/-
  The walk of the law SeedTrue: it returns true for every word, every slice of axes, there or back, and every two slices of words; nothing that was there is written.
-/
import Derived.Test.YtmeeldhejbdgjaaDoorSeedLive
import Derived.Test.YtmeeldhejbdgjaaDoorSeedCheck
import Derived.Test.YtmeeldhejbdgjaaDoorRows2
namespace Go.Proofs.YtmeeldhejbdgjaaDoor
open Go.RowKit Go.Shelf

section
variable {p : Int} {xa : List Ax} {inv : Bool} {xs ss : List Int}
theorem Grid.ck_true (h : Grid p xa xs) (h1 : 1 ≤ ss.length) (h4 : ss.length ≤ 4) : ckE p xa xs (Go.Proofs.YtmeeldhejbdgjaaDoor.doTo p xa inv xs xa.length) ss = 0 ∧ ckB p xa inv xs (Go.Proofs.YtmeeldhejbdgjaaDoor.doTo p xa inv xs xa.length) ss = true := by
  have e : ckE p xa xs (Go.Proofs.YtmeeldhejbdgjaaDoor.doTo p xa inv xs xa.length) ss = 0 := ckE_ok h.zero (doTo_len _ _ _ _ _) (by omega)
  refine ⟨e, ckB_all e ((Fp.isIn_iff h.ax.kn _).2 (h.doTo xa.length).lt) fun k _ => ?_⟩
  unfold agree
  exact decide_eq_true rfl
end

set_option maxHeartbeats 2000000 in
set_option maxRecDepth 100000 in
theorem walk_SeedTrue (p : Int) (x : Option Addr) (len cap : Nat) (xa : List Ax) (inv : Bool) (y : Option Addr) (m cap' : Nat) (zs : List Int) (q : Option Addr) (m3 cap3 : Nat) (zs3 : List Int) (w : World) (_hp : (Lit.int .u64 p).wf = true) (hA : AxisIn w x len cap xa) (hlb : len ≤ 8796093022208) (hr : RowIn .u64 w y m cap' zs) (hr3 : RowIn .u64 w q m3 cap3 zs3) (hG : Gl w) :
    Calls Tryd.prog 4 #[.int .u64 p, .slice x len cap, .bool inv, .slice y m cap', .slice q m3 cap3] w fun e w' => e = .returned (.bool true) ∧ Below w.heap.size w w' := by
  obtain ⟨hn, hc1, hc2, hx, -⟩ := hA
  obtain ⟨xs, -, hm, hcp, hml, hy, hw⟩ := hr.reads
  obtain ⟨ss, -, hm3, hcp3, hml3, hq, hw3⟩ := hr3.reads
  have hml : m ≤ maxLen := Nat.le_trans hcp hml
  have hml3 : m3 ≤ maxLen := Nat.le_trans hcp3 hml3
  have HV := Lib.hid (live9_any w hG)
  obtain ⟨b, HFew⟩ := few_any x len cap xa 40 w hx hn hlb
  clear hr hr3 hcp3 hc1 hc2
  by_cases hgo : b = true ∧ m ≤ 50 ∧ 1 ≤ m3 ∧ m3 ≤ 4
  · obtain ⟨rfl, g1, g2, g3⟩ := hgo
    have d1 : decide (50 < (m : Int)) = false := by simp; omega
    have d2 : decide ((m3 : Int) < 1) = false := by simp; omega
    have d3 : decide (4 < (m3 : Int)) = false := by simp; omega
    have HD := Lib.hid (fun W (hB : Below w.heap.size w W) => do_any p x len cap xa inv y m cap' xs W (hG.then hB) ((hx.below hB).more hB.size) hn hlb ((hy.below hB).more hB.size) hm hw hml)
    by_cases hE : wordsE p xa xs = 0
    · have hGr := wordsE_zero hE
      rw [hE, hGr.doL] at HD
      have hL := doTo_len p xa inv xs xa.length
      rw [hm] at hL
      have HC := Lib.hid (fun (y1 : Option Addr) (c1 : Nat) W (hB : Below w.heap.size w W) (hR : Reads .u64 W W.heap.size y1 (doTo p xa inv xs xa.length)) => Check_any p x len cap xa inv y m cap' xs y1 m c1 (doTo p xa inv xs xa.length) q m3 cap3 ss W (hG.then hB) ((hx.below hB).more hB.size) hn hlb ((hy.below hB).more hB.size) hm hw hml hcp hR hL (hGr.doWords hw _) hml ((hq.below hB).more hB.size) hm3 hw3 hml3)
      rw [(hGr.ck_true (inv := inv) (ss := ss) (by omega) (by omega)).1, (hGr.ck_true (inv := inv) (ss := ss) (by omega) (by omega)).2] at HC
      have HLL := Lib.hid hL
      generalize doTo p xa inv xs xa.length = ds at HD HC HLL
      clear hx hy hG hw hm hn hml hE hGr hL hq hm3 hw3 hml3 hcp
      go_enter Tryd.func4, Tryd.ntmps4
      go_wp2_with (first
        | (go_at_call 7; refine HV.out.mono ?_; rintro e w1 ⟨rfl, b1⟩; have B1 := Lib.hid b1; clear b1)
        | (go_at_call 8; refine (HFew.out _ B1.out).mono ?_; rintro e w2 ⟨rfl, b2⟩; have B2 := Lib.hid (below_then B1.out b2); clear b2)
        | (go_at_call 15; refine (HD.out _ B2.out).mono ?_; rintro e w3 ⟨v, rfl, hO, b3⟩; obtain ⟨y1, c1, rfl, -, -, hr1, -⟩ := hO.form; have R1 := Lib.hid hr1; have B3 := Lib.hid (below_then B2.out b3); rw [HLL.out]; clear b3 hO hr1)
        | (go_at_call 13; refine (HC.out _ _ _ B3.out R1.out).mono ?_; rintro e w4 ⟨rfl, b4⟩; have B4 := Lib.hid (below_then B3.out b4); clear b4))
      go_ret
      exact ⟨rfl, B4.out⟩
    · rw [doL_no hE] at HD
      have HC := Lib.hid (fun (y1 : Option Addr) (c1 : Nat) W (hB : Below w.heap.size w W) => Check_any p x len cap xa inv y m cap' xs y1 0 c1 [] q m3 cap3 ss W (hG.then hB) ((hx.below hB).more hB.size) hn hlb ((hy.below hB).more hB.size) hm hw hml hcp Reads.nil rfl (fun j => by simp) (by unfold maxLen; omega) ((hq.below hB).more hB.size) hm3 hw3 hml3)
      rw [ckB_no (by rw [ckE_words hE]; exact hE), ckE_words hE] at HC
      have t := ne_of_bne hE
      have t2 : (wordsE p xa xs == 0) = false := beq_eq_false_iff_ne.2 hE
      generalize wordsE p xa xs = er at HD HC t t2
      clear hx hy hG hw hm hn hml hE hq hm3 hw3 hml3 hcp
      go_enter Tryd.func4, Tryd.ntmps4
      go_wp2_with (first
        | (go_at_call 7; refine HV.out.mono ?_; rintro e w1 ⟨rfl, b1⟩; have B1 := Lib.hid b1; clear b1)
        | (go_at_call 8; refine (HFew.out _ B1.out).mono ?_; rintro e w2 ⟨rfl, b2⟩; have B2 := Lib.hid (below_then B1.out b2); clear b2)
        | (go_at_call 15; refine (HD.out _ B2.out).mono ?_; rintro e w3 ⟨v, rfl, hO, b3⟩; obtain ⟨y1, c1, rfl, -, -, -, -⟩ := hO.form; have B3 := Lib.hid (below_then B2.out b3); clear b3 hO; simp only [List.length_nil])
        | (go_at_call 13; refine (HC.out _ _ _ B3.out).mono ?_; rintro e w4 ⟨rfl, b4⟩; have B4 := Lib.hid (below_then B3.out b4); clear b4))
      go_ret
      exact ⟨rfl, B4.out⟩
  · cases b
    · clear hx hy hG hw hm hn hml hq hm3 hw3 hml3 hcp hgo
      go_enter Tryd.func4, Tryd.ntmps4
      go_wp2_with (first
        | (go_at_call 7; refine HV.out.mono ?_; rintro e w1 ⟨rfl, b1⟩; have B1 := Lib.hid b1; clear b1)
        | (go_at_call 8; refine (HFew.out _ B1.out).mono ?_; rintro e w2 ⟨rfl, b2⟩; have B2 := Lib.hid (below_then B1.out b2); clear b2))
      go_ret
      exact ⟨rfl, B2.out⟩
    · by_cases k1 : 50 < m
      · have d1 : decide (50 < (m : Int)) = true := by simp; omega
        clear hx hy hG hw hm hn hml hq hm3 hw3 hml3 hcp hgo
        go_enter Tryd.func4, Tryd.ntmps4
        go_wp2_with (first
          | (go_at_call 7; refine HV.out.mono ?_; rintro e w1 ⟨rfl, b1⟩; have B1 := Lib.hid b1; clear b1)
          | (go_at_call 8; refine (HFew.out _ B1.out).mono ?_; rintro e w2 ⟨rfl, b2⟩; have B2 := Lib.hid (below_then B1.out b2); clear b2))
        go_ret
        exact ⟨rfl, B2.out⟩
      · have d1 : decide (50 < (m : Int)) = false := by simp; omega
        by_cases k2 : m3 < 1
        · obtain rfl : m3 = 0 := by omega
          clear hx hy hG hw hm hn hml hq hm3 hw3 hml3 hcp hgo
          go_enter Tryd.func4, Tryd.ntmps4
          go_wp2_with (first
            | (go_at_call 7; refine HV.out.mono ?_; rintro e w1 ⟨rfl, b1⟩; have B1 := Lib.hid b1; clear b1)
            | (go_at_call 8; refine (HFew.out _ B1.out).mono ?_; rintro e w2 ⟨rfl, b2⟩; have B2 := Lib.hid (below_then B1.out b2); clear b2))
          go_ret
          exact ⟨rfl, B2.out⟩
        · have d2 : decide ((m3 : Int) < 1) = false := by simp; omega
          have k3 : 4 < m3 := by
            rcases Nat.lt_or_ge 4 m3 with h | h
            · exact h
            · exact absurd ⟨rfl, by omega, by omega, h⟩ hgo
          have d3 : decide (4 < (m3 : Int)) = true := by simp; omega
          clear hx hy hG hw hm hn hml hq hm3 hw3 hml3 hcp hgo
          go_enter Tryd.func4, Tryd.ntmps4
          go_wp2_with (first
            | (go_at_call 7; refine HV.out.mono ?_; rintro e w1 ⟨rfl, b1⟩; have B1 := Lib.hid b1; clear b1)
            | (go_at_call 8; refine (HFew.out _ B1.out).mono ?_; rintro e w2 ⟨rfl, b2⟩; have B2 := Lib.hid (below_then B1.out b2); clear b2))
          go_ret
          exact ⟨rfl, B2.out⟩

end Go.Proofs.YtmeeldhejbdgjaaDoor
