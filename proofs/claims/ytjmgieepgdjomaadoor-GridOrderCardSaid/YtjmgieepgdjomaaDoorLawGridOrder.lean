/-
  The walk of the law GridOrder: it returns true for every word, every slice of axes, any two of them, and every slice of words, there or back; nothing that was there is written.
-/
import Derived.Test.YtjmgieepgdjomaaDoorLawGridBack
import Derived.Deep.RegionWith
namespace Go.Proofs.YtjmgieepgdjomaaDoor
open Go.RowKit Go.Shelf

/-- What GridOrder asks of both ways round. -/
theorem axL_comm {p : Int} {xa : List Ax} {xs : List Int} {a b : Int} {inv : Bool} (ha : axE p xa a xs = 0) (hb : axE p xa b xs = 0) (hne : a ≠ b) :
    axE p xa b (axL p xa a inv xs) = 0 ∧ axE p xa a (axL p xa b inv xs) = 0 ∧ axL p xa a inv (axL p xa b inv xs) = axL p xa b inv (axL p xa a inv xs) := by
  obtain ⟨h, j, rfl, hj⟩ := axE_zero ha
  obtain ⟨_, k, rfl, hk⟩ := axE_zero hb
  rw [h.axL hj, h.axL hk]
  have h1 := h.thr (a := j) (inv := inv)
  have h2 := h.thr (a := k) (inv := inv)
  exact ⟨h1.axE hk, h2.axE hj, by rw [h1.axL hk, h2.axL hj]; exact h.thr_comm hj hk (by omega)⟩
theorem axL_len {p : Int} {xa : List Ax} {xs : List Int} {a : Int} {inv : Bool} (ha : axE p xa a xs = 0) : (axL p xa a inv xs).length = xs.length := by unfold axL; rw [if_pos ha, thr_len]
theorem axL_words {p : Int} {xa : List Ax} {xs : List Int} {a : Int} {inv : Bool} (ha : axE p xa a xs = 0) : Words (axL p xa a inv xs) := by
  obtain ⟨h, j, rfl, hj⟩ := axE_zero ha
  rw [h.axL hj]; exact h.thrWords

set_option maxHeartbeats 2000000 in
set_option maxRecDepth 100000 in
theorem walk_GridOrder (p : Int) (x : Option Addr) (len cap : Nat) (xa : List Ax) (a b : Int) (inv : Bool) (y : Option Addr) (m cap' : Nat) (zs : List Int) (w : World) (_hp : (Lit.int .u64 p).wf = true) (hA : AxisIn w x len cap xa) (hlb : len ≤ 8796093022208) (_ha : (Lit.int .i64 a).wf = true) (_hb : (Lit.int .i64 b).wf = true) (hr : RowIn .u64 w y m cap' zs) (hG : Gl w) :
    Calls Tryd.prog 5 #[.int .u64 p, .slice x len cap, .int .i64 a, .int .i64 b, .bool inv, .slice y m cap'] w fun e w' => e = .returned (.bool true) ∧ Below w.heap.size w w' := by
  obtain ⟨hn, hc1, hc2, hx, -⟩ := hA
  obtain ⟨xs, -, hm, hcp, hml, hy, hw⟩ := hr.reads
  have hml : m ≤ maxLen := Nat.le_trans hcp hml
  have HV := Lib.hid (live7_any w hG)
  obtain ⟨q, HFew⟩ := few_any x len cap xa 48 w hx hn hlb
  clear hr hcp hc1 hc2 _hp _ha _hb
  cases q
  · clear hx hy hG hw hm hn hml
    go_enter Tryd.func5, Tryd.ntmps5
    go_wp2_with (first
      | (go_at_call 7; refine HV.out.mono ?_; rintro e w1 ⟨rfl, b1⟩; have B1 := Lib.hid b1; clear b1)
      | (go_at_call 8; refine (HFew.out _ B1.out).mono ?_; rintro e w2 ⟨rfl, b2⟩; have B2 := Lib.hid (below_then B1.out b2); clear b2))
    go_ret
    exact ⟨rfl, B2.out⟩
  · by_cases hl : 60 < m
    · have d1 : decide (60 < (m : Int)) = true := by simp; omega
      clear hx hy hG hw hm hn hml
      go_enter Tryd.func5, Tryd.ntmps5
      go_wp2_with (first
        | (go_at_call 7; refine HV.out.mono ?_; rintro e w1 ⟨rfl, b1⟩; have B1 := Lib.hid b1; clear b1)
        | (go_at_call 8; refine (HFew.out _ B1.out).mono ?_; rintro e w2 ⟨rfl, b2⟩; have B2 := Lib.hid (below_then B1.out b2); clear b2))
      go_ret
      exact ⟨rfl, B2.out⟩
    · have d1 : decide (60 < (m : Int)) = false := by simp; omega
      by_cases hab : a = b
      · subst hab
        have d2 : (a == a) = true := by simp
        clear hx hy hG hw hm hn hml
        go_enter Tryd.func5, Tryd.ntmps5
        go_wp2_with (first
          | (go_at_call 7; refine HV.out.mono ?_; rintro e w1 ⟨rfl, b1⟩; have B1 := Lib.hid b1; clear b1)
          | (go_at_call 8; refine (HFew.out _ B1.out).mono ?_; rintro e w2 ⟨rfl, b2⟩; have B2 := Lib.hid (below_then B1.out b2); clear b2))
        go_ret
        exact ⟨rfl, B2.out⟩
      · have d2 : (a == b) = false := by simpa using hab
        have HA := Lib.hid (fun W (hB : Below w.heap.size w W) => axis_any p x len cap xa a inv y m cap' xs W (hG.then hB) ((hx.below hB).more hB.size) hn hlb ((hy.below hB).more hB.size) hm hw hml)
        have HB := Lib.hid (fun W (hB : Below w.heap.size w W) => axis_any p x len cap xa b inv y m cap' xs W (hG.then hB) ((hx.below hB).more hB.size) hn hlb ((hy.below hB).more hB.size) hm hw hml)
        by_cases hE : axE p xa a xs = 0 ∧ axE p xa b xs = 0
        · obtain ⟨ea, eb⟩ := hE
          obtain ⟨c1, c2, c3⟩ := axL_comm (inv := inv) ea eb hab
          have l1 := axL_len (inv := inv) ea
          have l2 := axL_len (inv := inv) eb
          have l3 := axL_len (inv := inv) c1
          have l4 := axL_len (inv := inv) c2
          rw [hm] at l1 l2
          rw [l1] at l3
          rw [l2] at l4
          have HA2 := Lib.hid (fun (y1 : Option Addr) (k1 : Nat) W (hB : Below w.heap.size w W) (hR : Reads .u64 W W.heap.size y1 (axL p xa b inv xs)) => axis_any p x len cap xa a inv y1 m k1 (axL p xa b inv xs) W (hG.then hB) ((hx.below hB).more hB.size) hn hlb hR l2 (axL_words eb) hml)
          have HB2 := Lib.hid (fun (y1 : Option Addr) (k1 : Nat) W (hB : Below w.heap.size w W) (hR : Reads .u64 W W.heap.size y1 (axL p xa a inv xs)) => axis_any p x len cap xa b inv y1 m k1 (axL p xa a inv xs) W (hG.then hB) ((hx.below hB).more hB.size) hn hlb hR l1 (axL_words ea) hml)
          rw [c3, c2] at HA2
          rw [c1] at HB2
          rw [ea] at HA
          rw [eb] at HB
          rw [c3] at l4
          generalize axL p xa b inv (axL p xa a inv xs) = rs at HA2 HB2 l3
          generalize axL p xa a inv xs = la at HA HB2 l1
          generalize axL p xa b inv xs = bs at HB HA2 l2
          have L1 := Lib.hid l1
          have L2 := Lib.hid l2
          have L3 := Lib.hid l3
          clear hx hy hG hw hm hn hml ea eb c1 c2 c3 l1 l2 l3 l4 hab
          go_enter Tryd.func5, Tryd.ntmps5
          go_wp2_with (first
            | (go_at_call 7; refine HV.out.mono ?_; rintro e w1 ⟨rfl, b1⟩; have B1 := Lib.hid b1; clear b1)
            | (go_at_call 8; refine (HFew.out _ B1.out).mono ?_; rintro e w2 ⟨rfl, b2⟩; have B2 := Lib.hid (below_then B1.out b2); clear b2)
            | (go_at_call 9; refine (HA.out _ B2.out).mono ?_; rintro e w3 ⟨v, rfl, hO, b3⟩; obtain ⟨y1, k1, rfl, -, -, hr1, -⟩ := hO.form; have R1 := Lib.hid hr1; have B3 := Lib.hid (below_then B2.out b3); rw [L1.out]; clear b3 hO hr1 HA)
            | (go_at_call 9; refine (HB.out _ B3.out).mono ?_; rintro e w4 ⟨v, rfl, hO, b4⟩; obtain ⟨y2, k2, rfl, -, -, hr2, -⟩ := hO.form; have R2 := Lib.hid hr2; have R1' := Lib.hid ((R1.out.below b4).more b4.size); have B4 := Lib.hid (below_then B3.out b4); rw [L2.out]; clear b4 hO hr2 HB R1)
            | (go_at_call 9; refine (HB2.out _ _ _ B4.out R1'.out).mono ?_; rintro e w5 ⟨v, rfl, hO, b5⟩; obtain ⟨y3, k3, rfl, -, -, hr3, -⟩ := hO.form; have R3 := Lib.hid hr3; have R2' := Lib.hid ((R2.out.below b5).more b5.size); have B5 := Lib.hid (below_then B4.out b5); rw [L3.out]; clear b5 hO hr3 HB2 R2)
            | (go_at_call 9; refine (HA2.out _ _ _ B5.out R2'.out).mono ?_; rintro e w6 ⟨v, rfl, hO, b6⟩; obtain ⟨y4, k4, rfl, -, -, hr4, -⟩ := hO.form; have R4 := Lib.hid hr4; have R3' := Lib.hid ((R3.out.below b6).more b6.size); have B6 := Lib.hid (below_then B5.out b6); rw [L3.out]; clear b6 hO hr4 HA2 R3)
            | (go_at_call 13; refine (same_self y3 y4 m k3 k4 rs _ w6.heap.size R3'.out R4.out L3.out (by omega)).mono ?_; rintro e w' ⟨rfl, n6, rfl⟩))
          go_ret
          exact ⟨rfl, below_draws B6.out _⟩
        · have HLa := Lib.hid (axL_le p xa a inv xs)
          generalize axL p xa a inv xs = la at HA HLa
          generalize axL p xa b inv xs = bs at HB
          obtain ⟨ea, ha⟩ : ∃ ea, ea = axE p xa a xs := ⟨_, rfl⟩
          obtain ⟨eb, hb⟩ : ∃ eb, eb = axE p xa b xs := ⟨_, rfl⟩
          rw [← ha] at HA hE
          rw [← hb] at HB hE
          have hE' : ((ea != 0) = true) ∨ ((ea != 0) = false ∧ (eb != 0) = true) := by
            by_cases h0 : ea = 0
            · right; exact ⟨by simp [h0], by simpa using fun h => hE ⟨h0, h⟩⟩
            · left; simpa using h0
          clear hx hy hG hw hm hn hml ha hb hE hab
          rcases hE' with t | ⟨t1, t2⟩
          all_goals
            go_enter Tryd.func5, Tryd.ntmps5
            go_wp2_with (first
              | (go_at_call 7; refine HV.out.mono ?_; rintro e w1 ⟨rfl, b1⟩; have B1 := Lib.hid b1; clear b1)
              | (go_at_call 8; refine (HFew.out _ B1.out).mono ?_; rintro e w2 ⟨rfl, b2⟩; have B2 := Lib.hid (below_then B1.out b2); clear b2)
              | (go_at_call 9; refine (HA.out _ B2.out).mono ?_; rintro e w3 ⟨v3, rfl, hO, b3⟩; have B3 := Lib.hid (below_then B2.out b3); clear b3 hO HA)
              | (go_at_call 9; refine (HB.out _ B3.out).mono ?_; rintro e w4 ⟨v4, rfl, hO, b4⟩; have B4 := Lib.hid (below_then B3.out b4); clear b4 hO HB))
            go_ret
            exact ⟨rfl, B4.out⟩

end Go.Proofs.YtjmgieepgdjomaaDoor
