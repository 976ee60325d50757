/-
  What Expect and Check of package seed come to, over every input.
-/
import Derived.Test.YtmeeldhejbdgjaaDoorExpected
import Derived.Test.YtmeeldhejbdgjaaDoorGeoms
import Derived.Test.YtmeeldhejbdgjaaDoorGrids
namespace Go.Proofs.YtmeeldhejbdgjaaDoor
open Go.RowKit Go.Shelf

set_option maxHeartbeats 1000000 in
theorem swords_any (p : Int) (x : Option Addr) (n cap : Nat) (xa : List Ax) (y : Option Addr) (m cap' : Nat) (xs : List Int) (w : World) (hG : Gl w) (hx : ReadsA w w.heap.size x xa) (hn : xa.length = n) (hl : n ≤ 8796093022208) (hy : Reads .u64 w w.heap.size y xs) (hm : xs.length = m) (hml : m ≤ maxLen) :
    Calls Tryd.prog 34 #[.int .u64 p, .slice x n cap, .slice y m cap'] w (RetB (.int .i64 (wordsE p xa xs)) w) := by
  have HC := Lib.hid (check7_any p x n cap xa w hG hx hn hl)
  have HD := Lib.hid (fun W (hB : Below w.heap.size w W) => dims_any x n cap xa W ((hx.below hB).more hB.size) hn hl)
  by_cases hE : gridE p xa = 0
  · have hA := gridE_zero hE
    have hml' : (m : Int) ≤ 9223372036854775807 := by unfold maxLen at hml; omega
    have HO := Lib.hid hA.ok
    have HDM := Lib.hid hA.is
    have HDL := Lib.hid (dims_len xa)
    by_cases hp : xs.length = Sh.prod (szs xa)
    · have h1 := hA.ok.here
      have h2 := hA.ok.le
      obtain ⟨b, off, rfl, hb, hc⟩ := hy (by omega)
      have HI : Hid (∀ W, Below w.heap.size w W → Calls Tryd.prog 17 #[.int .u64 p, .slice (some ⟨b, off, none⟩) m cap'] W fun e w' => e = .returned (.bool (Fp.isIn p (fun j => xs.getD j 0) xs.length)) ∧ W = w') := Lib.hid (fun W hW => by
        rw [hm]
        exact in_row p b off m cap' _ W hml' (fun j hj => (hW.cell (p := ⟨b, off + j, none⟩) hb).trans (hc j (by omega))))
      have hne : ((m : Int) != ((Sh.prod (szs xa) : Nat) : Int)) = false := by rw [← hp, hm]; exact bne_self' _
      cases hi : Fp.isIn p (fun j => xs.getD j 0) xs.length
      · rw [wordsE_word hE hp hi]
        rw [hi] at HI
        rw [hE] at HC
        clear hE hA hp hi hc hx hy hm hn h1 h2 hG
        go_enter Tryd.func34, Tryd.ntmps34
        go_wp2_with (first
        | (go_at_call 28; refine HC.out.mono ?_; rintro e w0 ⟨rfl, b0⟩; have B0 := Lib.hid b0; clear b0)
        | (go_at_call 21; refine (HD.out _ B0.out).mono ?_; rintro e w1 ⟨v, rfl, hO, b1⟩; obtain ⟨y1, c, rfl, -, -, hr, -⟩ := hO.form; have R1 := Lib.hid hr; have B1 := Lib.hid (below_then B0.out b1); clear hO hr b1)
        | (go_at_call 41; refine (all_ok (szs xa) HO.out y1 _ c w1 w1.heap.size (by rw [← HDM.out]; exact R1.out) (by rw [HDL.out, szs_len])).mono ?_; rintro e w' ⟨rfl, rfl⟩)
        | (go_at_call 17; refine (HI.out _ B1.out).mono ?_; rintro e w' ⟨rfl, rfl⟩))
        go_ret
        exact ⟨rfl, B1.out⟩
      · rw [wordsE_ok hE hp hi]
        rw [hi] at HI
        rw [hE] at HC
        clear hE hA hp hi hc hx hy hm hn h1 h2 hG
        go_enter Tryd.func34, Tryd.ntmps34
        go_wp2_with (first
        | (go_at_call 28; refine HC.out.mono ?_; rintro e w0 ⟨rfl, b0⟩; have B0 := Lib.hid b0; clear b0)
        | (go_at_call 21; refine (HD.out _ B0.out).mono ?_; rintro e w1 ⟨v, rfl, hO, b1⟩; obtain ⟨y1, c, rfl, -, -, hr, -⟩ := hO.form; have R1 := Lib.hid hr; have B1 := Lib.hid (below_then B0.out b1); clear hO hr b1)
        | (go_at_call 41; refine (all_ok (szs xa) HO.out y1 _ c w1 w1.heap.size (by rw [← HDM.out]; exact R1.out) (by rw [HDL.out, szs_len])).mono ?_; rintro e w' ⟨rfl, rfl⟩)
        | (go_at_call 17; refine (HI.out _ B1.out).mono ?_; rintro e w' ⟨rfl, rfl⟩))
        go_ret
        exact ⟨rfl, B1.out⟩
    · rw [wordsE_len hE hp]
      have hne : (m : Int) ≠ ((Sh.prod (szs xa) : Nat) : Int) := by omega
      have hne : ((m : Int) != ((Sh.prod (szs xa) : Nat) : Int)) = true := bne_of_ne hne
      rw [hE] at HC
      clear hE hA hp hx hy hm hn hG
      go_enter Tryd.func34, Tryd.ntmps34
      go_wp2_with (first
        | (go_at_call 28; refine HC.out.mono ?_; rintro e w0 ⟨rfl, b0⟩; have B0 := Lib.hid b0; clear b0)
        | (go_at_call 21; refine (HD.out _ B0.out).mono ?_; rintro e w1 ⟨v, rfl, hO, b1⟩; obtain ⟨y1, c, rfl, -, -, hr, -⟩ := hO.form; have R1 := Lib.hid hr; have B1 := Lib.hid (below_then B0.out b1); clear hO hr b1)
        | (go_at_call 41; refine (all_ok (szs xa) HO.out y1 _ c w1 w1.heap.size (by rw [← HDM.out]; exact R1.out) (by rw [HDL.out, szs_len])).mono ?_; rintro e w' ⟨rfl, rfl⟩))
      go_ret
      exact ⟨rfl, B1.out⟩
  · rw [wordsE_grid hE]
    have t := ne_of_bne hE
    generalize gridE p xa = er at HC t
    clear hE hx hy hm hn HD hG
    go_enter Tryd.func34, Tryd.ntmps34
    go_wp2_with (go_at_call 28; refine HC.out.mono ?_; rintro e w0 ⟨rfl, b0⟩; have B0 := Lib.hid b0; clear b0)
    go_ret
    exact ⟨rfl, B0.out⟩

/-- What Expect tells. -/
def exN (p : Int) (xa : List Ax) (inv : Bool) (xs : List Int) (r : Int) : Int := if wordsE p xa xs = 0 then Fp.ev p (doTo p xa inv xs xa.length) r else 0
theorem exN_no {p : Int} {xa : List Ax} {xs : List Int} (h : wordsE p xa xs ≠ 0) (inv : Bool) (r : Int) : exN p xa inv xs r = 0 := by unfold exN; rw [if_neg h]
theorem exN_yes {p : Int} {xa : List Ax} {xs : List Int} (h : wordsE p xa xs = 0) (inv : Bool) (r : Int) : exN p xa inv xs r = Fp.ev p (doTo p xa inv xs xa.length) r := by unfold exN; rw [if_pos h]
theorem exN_bd (p : Int) (xa : List Ax) (inv : Bool) (xs : List Int) (r : Int) : 0 ≤ exN p xa inv xs r ∧ exN p xa inv xs r < 18446744069414584321 := by
  unfold exN; split
  · obtain ⟨a, b, -⟩ := Fp.ev_bd p (doTo p xa inv xs xa.length) r; exact ⟨a, b⟩
  · omega

set_option maxRecDepth 100000 in
set_option maxHeartbeats 1000000 in
theorem Expect_any (p : Int) (x : Option Addr) (n cap : Nat) (xa : List Ax) (inv : Bool) (y : Option Addr) (m cap' : Nat) (xs : List Int) (r : Int) (w : World) (hG : Gl w) (hx : ReadsA w w.heap.size x xa) (hn : xa.length = n) (hl : n ≤ 8796093022208) (hy : Reads .u64 w w.heap.size y xs) (hm : xs.length = m) (hw : Words xs) (hml : m ≤ maxLen) (hc : m ≤ cap')
    (r0 : 0 ≤ r) (r1 : r < 18446744073709551616) :
    Calls Tryd.prog 11 #[.int .u64 p, .slice x n cap, .bool inv, .slice y m cap', .int .u64 r] w (RetB (.tuple #[.int .u64 (exN p xa inv xs r), .int .i64 (wordsE p xa xs)]) w) := by
  have HC := Lib.hid (swords_any p x n cap xa y m cap' xs w hG hx hn hl hy hm hml)
  by_cases hE : wordsE p xa xs = 0
  · rw [exN_yes hE, hE]
    rw [hE] at HC
    have HX := Lib.hid (fun W (hB : Below w.heap.size w W) => expected_any p x n cap xa inv y m cap' xs r W (hG.then hB) ((hx.below hB).more hB.size) hn ((hy.below hB).more hB.size) hm hw hc (wordsE_zero hE) r0 r1)
    generalize Fp.ev p (doTo p xa inv xs xa.length) r = u at HX ⊢
    clear hE hG hx hy hw hn hm hml hc
    go_enter Tryd.func11, Tryd.ntmps11
    go_wp2_with (first
      | (go_at_call 34; refine HC.out.mono ?_; rintro e w1 ⟨rfl, b1⟩; have B1 := Lib.hid b1; clear b1)
      | (go_at_call 35; refine (HX.out _ B1.out).mono ?_; rintro e w2 ⟨rfl, b2⟩))
    go_ret2
    exact ⟨rfl, below_then B1.out b2⟩
  · rw [exN_no hE]
    have t := ne_of_bne hE
    generalize wordsE p xa xs = er at HC t ⊢
    clear hE hG hx hy hw hn hm hml hc
    go_enter Tryd.func11, Tryd.ntmps11
    go_wp2_with (go_at_call 34; refine HC.out.mono ?_; rintro e w1 ⟨rfl, b1⟩)
    go_ret2
    exact ⟨rfl, b1⟩

/-- What Check tells: an error, and whether all seeds agree. -/
def ckE (p : Int) (xa : List Ax) (xs ys ss : List Int) : Int := if wordsE p xa xs ≠ 0 then wordsE p xa xs else if ys.length ≠ xs.length then 6 else if ss.length = 0 ∨ 4 < ss.length then 8 else 0
def agree (p : Int) (xa : List Ax) (inv : Bool) (xs ys ss : List Int) (k : Nat) : Bool := decide (Fp.ev p ys (ss.getD k 0) = Fp.ev p (doTo p xa inv xs xa.length) (ss.getD k 0))
def agrees (p : Int) (xa : List Ax) (inv : Bool) (xs ys ss : List Int) : Bool := (List.range ss.length).all (agree p xa inv xs ys ss)
def ckB (p : Int) (xa : List Ax) (inv : Bool) (xs ys ss : List Int) : Bool := decide (ckE p xa xs ys ss = 0) && (Fp.isIn p (fun j => ys.getD j 0) ys.length && agrees p xa inv xs ys ss)
section
variable {p : Int} {xa : List Ax} {inv : Bool} {xs ys ss : List Int}
theorem ckE_words (h : wordsE p xa xs ≠ 0) : ckE p xa xs ys ss = wordsE p xa xs := by unfold ckE; rw [if_pos h]
theorem ckE_len (h : wordsE p xa xs = 0) (hl : ys.length ≠ xs.length) : ckE p xa xs ys ss = 6 := by unfold ckE; rw [if_neg (by simp [h]), if_pos hl]
theorem ckE_seeds (h : wordsE p xa xs = 0) (hl : ys.length = xs.length) (hs : ss.length = 0 ∨ 4 < ss.length) : ckE p xa xs ys ss = 8 := by unfold ckE; rw [if_neg (by simp [h]), if_neg (by simp [hl]), if_pos hs]
theorem ckE_ok (h : wordsE p xa xs = 0) (hl : ys.length = xs.length) (hs : ¬ (ss.length = 0 ∨ 4 < ss.length)) : ckE p xa xs ys ss = 0 := by unfold ckE; rw [if_neg (by simp [h]), if_neg (by simp [hl]), if_neg hs]
theorem ckB_no (h : ckE p xa xs ys ss ≠ 0) : ckB p xa inv xs ys ss = false := by unfold ckB; rw [decide_eq_false h, Bool.false_and]
theorem ckB_in (h : Fp.isIn p (fun j => ys.getD j 0) ys.length = false) : ckB p xa inv xs ys ss = false := by unfold ckB; rw [h, Bool.false_and, Bool.and_false]
theorem ckB_all (h : ckE p xa xs ys ss = 0) (hi : Fp.isIn p (fun j => ys.getD j 0) ys.length = true) (ha : ∀ k, k < ss.length → agree p xa inv xs ys ss k = true) : ckB p xa inv xs ys ss = true := by
  unfold ckB agrees; rw [decide_eq_true h, hi, Bool.true_and, Bool.true_and, List.all_eq_true]
  exact fun k hk => ha k (List.mem_range.1 hk)
theorem ckB_one {k : Nat} (hk : k < ss.length) (ha : agree p xa inv xs ys ss k = false) : ckB p xa inv xs ys ss = false := by
  have : agrees p xa inv xs ys ss = false := by
    cases h : agrees p xa inv xs ys ss
    · rfl
    · unfold agrees at h
      rw [List.all_eq_true] at h
      rw [h k (List.mem_range.2 hk)] at ha
      cases ha
  unfold ckB; rw [this, Bool.and_false, Bool.and_false]
theorem agree_ne {k : Nat} (h : agree p xa inv xs ys ss k = false) : (Fp.ev p ys (ss.getD k 0) != Fp.ev p (doTo p xa inv xs xa.length) (ss.getD k 0)) = true := by
  unfold agree at h; rw [decide_eq_false_iff_not] at h; exact bne_of_ne h
theorem agree_eq {k : Nat} (h : agree p xa inv xs ys ss k = true) : Fp.ev p ys (ss.getD k 0) = Fp.ev p (doTo p xa inv xs xa.length) (ss.getD k 0) := by
  unfold agree at h; exact of_decide_eq_true h
end

set_option maxRecDepth 100000 in
set_option maxHeartbeats 2000000 in
theorem Check_any (p : Int) (x : Option Addr) (n cap : Nat) (xa : List Ax) (inv : Bool) (y : Option Addr) (m cap' : Nat) (xs : List Int) (z : Option Addr) (m2 cap2 : Nat) (ys : List Int) (q : Option Addr) (m3 cap3 : Nat) (ss : List Int) (w : World) (hG : Gl w) (hx : ReadsA w w.heap.size x xa) (hn : xa.length = n) (hl : n ≤ 8796093022208)
    (hy : Reads .u64 w w.heap.size y xs) (hm : xs.length = m) (hw : Words xs) (hml : m ≤ maxLen) (hc : m ≤ cap') (hz : Reads .u64 w w.heap.size z ys) (hm2 : ys.length = m2) (hw2 : Words ys) (hml2 : m2 ≤ maxLen) (hq : Reads .u64 w w.heap.size q ss) (hm3 : ss.length = m3) (hw3 : Words ss) (hml3 : m3 ≤ maxLen) :
    Calls Tryd.prog 13 #[.int .u64 p, .slice x n cap, .bool inv, .slice y m cap', .slice z m2 cap2, .slice q m3 cap3] w (RetB (.tuple #[.bool (ckB p xa inv xs ys ss), .int .i64 (ckE p xa xs ys ss)]) w) := by
  have HC := Lib.hid (swords_any p x n cap xa y m cap' xs w hG hx hn hl hy hm hml)
  have hb2 : (m2 : Int) ≤ 9223372036854775807 := by unfold maxLen at hml2; omega
  have hb1 : (m : Int) ≤ 9223372036854775807 := by unfold maxLen at hml; omega
  have hb3 : (m3 : Int) ≤ 9223372036854775807 := by unfold maxLen at hml3; omega
  by_cases hE : wordsE p xa xs = 0
  · rw [hE] at HC
    by_cases hlen : m2 = m
    · subst hlen
      have hyx : ys.length = xs.length := by omega
      by_cases hs : m3 = 0 ∨ 4 < m3
      · have e := ckE_seeds (ys := ys) (ss := ss) hE hyx (by omega)
        rw [ckB_no (by rw [e]; decide), e]
        by_cases h0 : m3 = 0
        · subst h0
          clear hE hG hx hy hw hn hm hml hc hz hm2 hw2 hml2 hq hm3 hw3 hml3 hyx hs e
          go_enter Tryd.func13, Tryd.ntmps13
          go_wp2_with (go_at_call 34; refine HC.out.mono ?_; rintro e w1 ⟨rfl, b1⟩; have B1 := Lib.hid b1; clear b1)
          go_ret2
          exact ⟨rfl, B1.out⟩
        · have h5 : 4 < m3 := by omega
          have d1 : ((m3 : Int) == 0) = false := by simp; omega
          have d2 : decide ((4 : Int) < (m3 : Int)) = true := by simp; omega
          clear hE hG hx hy hw hn hm hml hc hz hm2 hw2 hml2 hq hm3 hw3 hml3 hyx hs e
          go_enter Tryd.func13, Tryd.ntmps13
          go_wp2_with (go_at_call 34; refine HC.out.mono ?_; rintro e w1 ⟨rfl, b1⟩; have B1 := Lib.hid b1; clear b1)
          go_ret2
          exact ⟨rfl, B1.out⟩
      · have e := ckE_ok (ys := ys) (ss := ss) hE hyx (by omega)
        have hGr := wordsE_zero hE
        obtain ⟨g1, g2⟩ := hGr.le
        have d1 : ((m3 : Int) == 0) = false := by simp; omega
        have d2 : decide ((4 : Int) < (m3 : Int)) = false := by simp; omega
        obtain ⟨b, off, rfl, hb, hcy⟩ := hz (by omega)
        have HI : Hid (∀ W, Below w.heap.size w W → Calls Tryd.prog 17 #[.int .u64 p, .slice (some ⟨b, off, none⟩) m2 cap2] W fun e w' => e = .returned (.bool (Fp.isIn p (fun j => ys.getD j 0) ys.length)) ∧ W = w') := Lib.hid (fun W hW => by
          rw [hm2]
          exact in_row p b off m2 cap2 _ W hb2 (fun j hj => (hW.cell (p := ⟨b, off + j, none⟩) hb).trans (hcy j (by omega))))
        cases hi : Fp.isIn p (fun j => ys.getD j 0) ys.length
        · rw [ckB_in hi, e]
          rw [hi] at HI
          clear hE hG hx hy hw hn hm hml hc hz hm2 hw2 hml2 hq hm3 hw3 hml3 hyx hs e hGr hcy hi
          go_enter Tryd.func13, Tryd.ntmps13
          go_wp2_with (first
            | (go_at_call 34; refine HC.out.mono ?_; rintro e w1 ⟨rfl, b1⟩; have B1 := Lib.hid b1; clear b1)
            | (go_at_call 17; refine (HI.out _ B1.out).mono ?_; rintro e w' ⟨rfl, rfl⟩))
          go_ret2
          exact ⟨rfl, B1.out⟩
        · rw [hi] at HI
          have hkn := hGr.ax.kn
          have HB := Lib.hid (fun ha => ckB_all (inv := inv) e hi ha)
          have HN : Hid (∀ k, k < m3 → agree p xa inv xs ys ss k = false → ckB p xa inv xs ys ss = false) := Lib.hid (fun k hk ha => ckB_one (by omega) ha)
          rw [e]
          obtain ⟨b3, off3, rfl, hb3', hcs⟩ := hq (by omega)
          have HX := Lib.hid (fun W (hB : Below w.heap.size w W) (k : Nat) => expected_any p x n cap xa inv y m2 cap' xs (ss.getD k 0) W (hG.then hB) ((hx.below hB).more hB.size) hn ((hy.below hB).more hB.size) hm hw hc hGr (hw3 k).1 (hw3 k).2)
          have HV : Hid (∀ W, Below w.heap.size w W → ∀ k : Nat, Calls Tryd.prog 19 #[.int .u64 p, .slice (some ⟨b, off, none⟩) m2 cap2, .int .u64 (ss.getD k 0)] W (RetB (.tuple #[.int .u64 (Fp.ev p ys (ss.getD k 0)), .int .i64 0]) W)) := Lib.hid (fun W hB k => by
            have := Eval_any p (ss.getD k 0) (some ⟨b, off, none⟩) m2 cap2 ys W ((hz.below hB).more hB.size) hm2 hw2 (by omega) (hw3 k).1 (hw3 k).2
            have ee := evalE_ok (n := m2) hkn (by omega)
            have ee' := ee
            rw [← hm2] at ee'
            rwa [evalN_ok ee', ee] at this)
          have HCS : Hid (∀ W, Below w.heap.size w W → ∀ k, k < m3 → W.cell? ⟨b3, off3 + k, none⟩ = some (.int .u64 (ss.getD k 0))) := Lib.hid (fun W hB k hk => (hB.cell (p := ⟨b3, off3 + k, none⟩) hb3').trans (hcs k (by omega)))
          have HA := Lib.hid (fun k (h : agree p xa inv xs ys ss k = false) => agree_ne h)
          have HA2 := Lib.hid (fun k (h : agree p xa inv xs ys ss k = true) => agree_eq h)
          have HVB := Lib.hid (fun k => Fp.ev_bd p ys (ss.getD k 0))
          have HM3 := Lib.hid hm3
          have h34 : m3 ≤ 4 := by omega
          generalize ckB p xa inv xs ys ss = res at HB HN ⊢
          generalize agree p xa inv xs ys ss = ag at HB HN HA HA2
          clear hE hG hx hy hw hn hm hml hc hz hm2 hw2 hml2 hq hm3 hw3 hml3 hyx hs e hGr hcy hcs hi hkn
          go_enter Tryd.func13, Tryd.ntmps13
          go_wp2_with (first
            | (go_at_call 34; refine HC.out.mono ?_; rintro e w1 ⟨rfl, b1⟩; have B1 := Lib.hid b1; clear b1)
            | (go_at_call 17; refine (HI.out _ B1.out).mono ?_; rintro e w' ⟨rfl, rfl⟩))
          go_loopw [45] (fun i wr => ∃ k : Nat, k ≤ m3 ∧ i = .int .i64 (k : Int) ∧ Hid (∀ j, j < k → ag j = true) ∧ Hid (Below w.heap.size w wr)) (fun i _ => m3 - (intOf i).toNat)
          case atStart => exact ⟨0, Nat.zero_le _, rfl, Lib.hid (fun j hj => by omega), B1⟩
          case round =>
            obtain ⟨k, hk, rfl, HP, HBl⟩ := hrel
            by_cases hlt : k < m3
            · have hdk : decide (k < m3) = true := by simpa using hlt
              have hcell := HCS.out wr HBl.out k hlt
              have HV1 := Lib.hid (HV.out wr HBl.out k)
              have HX1 := Lib.hid (fun W (hB : Below wr.heap.size wr W) => HX.out W (below_then HBl.out hB) k)
              cases ha : ag k
              · have hne := HA.out k ha
                have HR := Lib.hid (HN.out k hlt ha)
                generalize Fp.ev p ys (ss.getD k 0) = u at HV1 hne
                generalize Fp.ev p (doTo p xa inv xs xa.length) (ss.getD k 0) = v at HX1 hne
                generalize ss.getD k 0 = sd at hcell HV1 HX1
                clear ha
                go_wp2_with (first
                  | (go_at_call 19; refine HV1.out.mono ?_; rintro e w2 ⟨rfl, b2⟩; have B2 := Lib.hid b2; clear b2)
                  | (go_at_call 35; refine (HX1.out _ B2.out).mono ?_; rintro e w3 ⟨rfl, b3⟩; have B3 := Lib.hid (below_then B2.out b3); clear b3))
                go_ret2
                exact ⟨by rw [HR.out]; rfl, below_then HBl.out B3.out⟩
              · have heq := HA2.out k ha
                rw [heq] at HV1
                generalize Fp.ev p (doTo p xa inv xs xa.length) (ss.getD k 0) = v at HX1 HV1
                generalize ss.getD k 0 = sd at hcell HV1 HX1
                have HP' : Hid (∀ j, j < k + 1 → ag j = true) := Lib.hid (fun j hj => by
                  rcases Nat.lt_or_ge j k with h | h
                  · exact HP.out j h
                  · rw [show j = k by omega]; exact ha)
                clear ha heq
                go_wp2_with (first
                  | (go_at_call 19; refine HV1.out.mono ?_; rintro e w2 ⟨rfl, b2⟩; have B2 := Lib.hid b2; clear b2)
                  | (go_at_call 35; refine (HX1.out _ B2.out).mono ?_; rintro e w3 ⟨rfl, b3⟩; have B3 := Lib.hid (below_then B2.out b3); clear b3))
                go_roundw
                case rel => exact ⟨k + 1, hlt, by go_num, HP', Lib.hid (below_then HBl.out B3.out)⟩
                case measure => simp [intOf]; omega
            · obtain rfl : k = m3 := by omega
              have HR := Lib.hid (HB.out (fun j hj => HP.out j (by rw [HM3.out] at hj; exact hj)))
              go_wp2
              go_ret2
              exact ⟨by rw [HR.out]; rfl, HBl.out⟩
    · have e := ckE_len (ss := ss) hE (show ys.length ≠ xs.length by omega)
      rw [ckB_no (by rw [e]; decide), e]
      have hne : ((m2 : Int) != (m : Int)) = true := bne_of_ne (by omega)
      clear hE hG hx hy hw hn hm hml hc hz hm2 hw2 hml2 hq hm3 hw3 hml3 e hlen
      go_enter Tryd.func13, Tryd.ntmps13
      go_wp2_with (go_at_call 34; refine HC.out.mono ?_; rintro e w1 ⟨rfl, b1⟩; have B1 := Lib.hid b1; clear b1)
      go_ret2
      exact ⟨rfl, B1.out⟩
  · rw [ckB_no (by rw [ckE_words hE]; exact hE), ckE_words hE]
    have t := ne_of_bne hE
    generalize wordsE p xa xs = er at HC t ⊢
    clear hE hG hx hy hw hn hm hml hc hz hm2 hw2 hml2 hq hm3 hw3 hml3
    go_enter Tryd.func13, Tryd.ntmps13
    go_wp2_with (go_at_call 34; refine HC.out.mono ?_; rintro e w1 ⟨rfl, b1⟩)
    go_ret2
    exact ⟨rfl, b1⟩

end Go.Proofs.YtmeeldhejbdgjaaDoor
