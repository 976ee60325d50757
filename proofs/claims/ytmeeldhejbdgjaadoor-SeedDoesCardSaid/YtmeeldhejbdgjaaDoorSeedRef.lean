/-
  What the document's Weight, Expect and Check (brackenref09) come to, over every input.
-/
import Derived.Test.YtmeeldhejbdgjaaDoorSeedWeight
import Derived.Test.YtmeeldhejbdgjaaDoorSeedCheck
import Derived.Test.YtmeeldhejbdgjaaDoorGeoms
import Derived.Test.YtmeeldhejbdgjaaDoorGrids
namespace Go.Proofs.YtmeeldhejbdgjaaDoor
open Go.RowKit Go.Shelf

/-- Words that are all 0, but word i, which is 1. -/
def unN (i j : Nat) : Int := if j = i then 1 else 0
def un (n i : Nat) : List Int := (List.range n).map (unN i)
theorem un_len (n i : Nat) : (un n i).length = n := by simp [un]
theorem un_bd (i j : Nat) : 0 ≤ unN i j ∧ unN i j < 18446744073709551616 := by unfold unN; split <;> omega
theorem un_words (n i : Nat) : Words (un n i) := fun j => by
  by_cases h : j < n
  · unfold un; rw [getD_range _ h]; exact un_bd i j
  · simp [un, h]
section
variable {p : Int} {a : Ax}
theorem Axes.unit (h : Axes p [a]) (i : Nat) : Grid p [a] (un (gL [a] 0) i) := by
  refine ⟨h, ?_, fun j hj => ?_⟩
  · rw [un_len]; show _ = gL [a] 0 * 1; rw [Nat.mul_one]
  · rw [un_len] at hj
    have := Fp.kn_bd h.kn
    unfold un
    rw [getD_range _ hj]
    unfold unN
    split <;> omega
/-- The weight of a word is what the seed makes of the transform of that word alone. -/
theorem Axes.weight (h : Axes p [a]) (inv : Bool) (z : Int) {i : Nat} (hi : i < gL [a] 0) : Fp.ev p (doTo p [a] inv (un (gL [a] 0) i) 1) z = wtN p (gN [a] 0) inv (gL [a] 0) i z := by
  have hG := h.unit i
  have hb := Fp.ev_bd p (doTo p [a] inv (un (gL [a] 0) i) 1) z
  have hb2 := wtN_bd p (gN [a] 0) inv (gL [a] 0) i z
  refine eq_of_eqm ?_ ⟨hb.1, hb.2.2 h.kn⟩ ⟨hb2.1, hb2.2.2 h.kn⟩
  refine (hG.ev_all (inv := inv) z).trans ?_
  have hp : Sh.prod (szs [a]) = gL [a] 0 := by show gL [a] 0 * 1 = _; rw [Nat.mul_one]
  rw [hp]
  refine (Fp.sum_one hi fun j hj hne => ?_).trans ?_
  · unfold un; rw [getD_range _ hj]; unfold unN; rw [if_neg hne, Int.zero_mul]; exact Fp.eqm.rfl
  · have e1 : (un (gL [a] 0) i).getD i 0 = 1 := by unfold un; rw [getD_range _ hi]; unfold unN; rw [if_pos rfl]
    rw [e1, Int.one_mul]
    show Fp.eqm p (plW p [a] inv z 0 i * 1) _
    rw [Int.mul_one]
    unfold plW
    have e2 : gI [a] 0 = 1 := rfl
    rw [e2, Nat.div_one, Nat.mod_eq_of_lt hi]
    refine Fp.eqm.of ?_
    unfold wtN
    refine Fp.red_of_eqm (Fp.sum_mod fun c _ => Fp.eqm.rfl.mul (Fp.eqm.pow ?_ c))
    unfold Fp.pw
    rw [Int.pow_one]
    exact Fp.eqm_red h.kn _
end

set_option maxRecDepth 100000 in
set_option maxHeartbeats 1000000 in
theorem rExpect_any (p : Int) (x : Option Addr) (n cap : Nat) (xa : List Ax) (inv : Bool) (y : Option Addr) (m cap' : Nat) (xs : List Int) (r : Int) (w : World) (hx : ReadsA w w.heap.size x xa) (hn : xa.length = n) (hl : n ≤ 8796093022208) (hy : Reads .u64 w w.heap.size y xs) (hm : xs.length = m) (hw : Words xs) (hml : m ≤ maxLen)
    (r0 : 0 ≤ r) (r1 : r < 18446744073709551616) :
    Calls Tryd.prog 12 #[.int .u64 p, .slice x n cap, .bool inv, .slice y m cap', .int .u64 r] w (RetB (.tuple #[.int .u64 (exN p xa inv xs r), .int .i64 (wordsE p xa xs)]) w) := by
  have HD := Lib.hid (rdo_any p x n cap xa inv y m cap' xs w hx hn hl hy hm hw hml)
  by_cases hE : wordsE p xa xs = 0
  · have hGr := wordsE_zero hE
    rw [exN_yes hE, hE]
    rw [hE, hGr.doL] at HD
    have hL := doTo_len p xa inv xs xa.length
    rw [hm] at hL
    have hle := hGr.le
    rw [hm] at hle
    have HV : Hid (∀ (y1 : Option Addr) (c1 : Nat) W, Reads .u64 W W.heap.size y1 (doTo p xa inv xs xa.length) → Calls Tryd.prog 33 #[.int .u64 p, .slice y1 m c1, .int .u64 r] W (RetQ (.tuple #[.int .u64 (Fp.ev p (doTo p xa inv xs xa.length) r), .int .i64 0]) W)) := Lib.hid (fun y1 c1 W hR => by
      have := reval_any p r y1 m c1 (doTo p xa inv xs xa.length) W hR hL (hGr.doWords hw _) (by omega) r0 r1
      have ee := evalE_ok (n := m) hGr.ax.kn (by omega)
      have ee' := ee
      rw [← hL] at ee'
      rwa [evalN_ok ee', ee] at this)
    have HLL := Lib.hid hL
    generalize Fp.ev p (doTo p xa inv xs xa.length) r = u at HV ⊢
    generalize doTo p xa inv xs xa.length = ds at HD HV HLL
    clear hE hx hy hw hn hm hml hGr hL
    go_enter Tryd.func12, Tryd.ntmps12
    go_wp2_with (first
      | (go_at_call 32; refine HD.out.mono ?_; rintro e w1 ⟨v, rfl, hO, b1⟩; obtain ⟨y1, c1, rfl, -, -, hr1, -⟩ := hO.form; have R1 := Lib.hid hr1; have B1 := Lib.hid b1; rw [HLL.out]; clear hO hr1 b1)
      | (go_at_call 33; refine (HV.out _ _ _ R1.out).mono ?_; rintro e w' ⟨rfl, nd, rfl⟩))
    go_ret2
    exact ⟨rfl, below_draws B1.out nd⟩
  · rw [exN_no hE]
    rw [doL_no hE] at HD
    have t := ne_of_bne hE
    generalize wordsE p xa xs = er at HD t ⊢
    clear hE hx hy hw hn hm hml
    go_enter Tryd.func12, Tryd.ntmps12
    go_wp2_with (go_at_call 32; refine HD.out.mono ?_; rintro e w1 ⟨v, rfl, hO, b1⟩; obtain ⟨y1, c1, rfl, -, -, -, -⟩ := hO.form; have B1 := Lib.hid b1; clear hO b1; simp only [List.length_nil])
    go_ret2
    exact ⟨rfl, B1.out⟩

theorem ckB_rest {p : Int} {xa : List Ax} {inv : Bool} {xs ys ss : List Int} (h : ckE p xa xs ys ss = 0) (ha : ∀ k, k < ss.length → agree p xa inv xs ys ss k = true) : ckB p xa inv xs ys ss = Fp.isIn p (fun j => ys.getD j 0) ys.length := by
  cases hi : Fp.isIn p (fun j => ys.getD j 0) ys.length
  · exact ckB_in hi
  · exact ckB_all h hi ha
theorem agree_ne' {p : Int} {xa : List Ax} {inv : Bool} {xs ys ss : List Int} {k : Nat} (h : agree p xa inv xs ys ss k = false) : (Fp.ev p (doTo p xa inv xs xa.length) (ss.getD k 0) != Fp.ev p ys (ss.getD k 0)) = true := by
  unfold agree at h; rw [decide_eq_false_iff_not] at h; exact bne_of_ne (Ne.symm h)

set_option maxRecDepth 100000 in
set_option maxHeartbeats 2000000 in
theorem rCheck_any (p : Int) (x : Option Addr) (n cap : Nat) (xa : List Ax) (inv : Bool) (y : Option Addr) (m cap' : Nat) (xs : List Int) (z : Option Addr) (m2 cap2 : Nat) (ys : List Int) (q : Option Addr) (m3 cap3 : Nat) (ss : List Int) (w : World) (hx : ReadsA w w.heap.size x xa) (hn : xa.length = n) (hl : n ≤ 8796093022208)
    (hy : Reads .u64 w w.heap.size y xs) (hm : xs.length = m) (hw : Words xs) (hml : m ≤ maxLen) (hz : Reads .u64 w w.heap.size z ys) (hm2 : ys.length = m2) (hw2 : Words ys) (hml2 : m2 ≤ maxLen) (hq : Reads .u64 w w.heap.size q ss) (hm3 : ss.length = m3) (hw3 : Words ss) (hml3 : m3 ≤ maxLen) :
    Calls Tryd.prog 14 #[.int .u64 p, .slice x n cap, .bool inv, .slice y m cap', .slice z m2 cap2, .slice q m3 cap3] w (RetB (.tuple #[.bool (ckB p xa inv xs ys ss), .int .i64 (ckE p xa xs ys ss)]) w) := by
  have HD := Lib.hid (rdo_any p x n cap xa inv y m cap' xs w hx hn hl hy hm hw hml)
  have hb2 : (m2 : Int) ≤ 9223372036854775807 := by unfold maxLen at hml2; omega
  have hb1 : (m : Int) ≤ 9223372036854775807 := by unfold maxLen at hml; omega
  have hb3 : (m3 : Int) ≤ 9223372036854775807 := by unfold maxLen at hml3; omega
  by_cases hE : wordsE p xa xs = 0
  · have hGr := wordsE_zero hE
    rw [hE, hGr.doL] at HD
    have hL := doTo_len p xa inv xs xa.length
    rw [hm] at hL
    have HLL := Lib.hid hL
    have hle := hGr.le
    rw [hm] at hle
    by_cases hlen : m2 = m
    · subst hlen
      have hyx : ys.length = xs.length := by omega
      by_cases hs : m3 = 0 ∨ 4 < m3
      · have e := ckE_seeds (ys := ys) (ss := ss) hE hyx (by omega)
        rw [ckB_no (by rw [e]; decide), e]
        generalize doTo p xa inv xs xa.length = ds at HD HLL
        by_cases h0 : m3 = 0
        · subst h0
          clear hE hx hy hw hn hm hml hz hm2 hw2 hml2 hq hm3 hw3 hml3 hyx hs e hGr hL
          go_enter Tryd.func14, Tryd.ntmps14
          go_wp2_with (go_at_call 32; refine HD.out.mono ?_; rintro e w1 ⟨v, rfl, hO, b1⟩; obtain ⟨y1, c1, rfl, -, -, -, -⟩ := hO.form; have B1 := Lib.hid b1; rw [HLL.out]; clear hO b1)
          go_ret2
          exact ⟨rfl, B1.out⟩
        · have h5 : 4 < m3 := by omega
          have d1 : decide ((m3 : Int) < 1) = false := by simp; omega
          have d2 : decide ((4 : Int) < (m3 : Int)) = true := by simp; omega
          clear hE hx hy hw hn hm hml hz hm2 hw2 hml2 hq hm3 hw3 hml3 hyx hs e hGr hL
          go_enter Tryd.func14, Tryd.ntmps14
          go_wp2_with (go_at_call 32; refine HD.out.mono ?_; rintro e w1 ⟨v, rfl, hO, b1⟩; obtain ⟨y1, c1, rfl, -, -, -, -⟩ := hO.form; have B1 := Lib.hid b1; rw [HLL.out]; clear hO b1)
          go_ret2
          exact ⟨rfl, B1.out⟩
      · have e := ckE_ok (ys := ys) (ss := ss) hE hyx (by omega)
        have d1 : decide ((m3 : Int) < 1) = false := by simp; omega
        have d2 : decide ((4 : Int) < (m3 : Int)) = false := by simp; omega
        have hkn := hGr.ax.kn
        have HB := Lib.hid (fun ha => ckB_rest (inv := inv) e ha)
        have HN : Hid (∀ k, k < m3 → agree p xa inv xs ys ss k = false → ckB p xa inv xs ys ss = false) := Lib.hid (fun k hk ha => ckB_one (by omega) ha)
        rw [e]
        obtain ⟨b, off, rfl, hb, hcy⟩ := hz (by omega)
        have HI : Hid (∀ W, Below w.heap.size w W → Calls Tryd.prog 36 #[.int .u64 p, .slice (some ⟨b, off, none⟩) m2 cap2] W fun e w' => e = .returned (.bool (Fp.isIn p (fun j => ys.getD j 0) ys.length)) ∧ W = w') := Lib.hid (fun W hW => by
          rw [hm2]
          exact rin_row p b off m2 cap2 _ W hb2 (fun j hj => (hW.cell (p := ⟨b, off + j, none⟩) hb).trans (hcy j (by omega))))
        obtain ⟨b3, off3, rfl, hb3', hcs⟩ := hq (by omega)
        have HX : Hid (∀ (y1 : Option Addr) (c1 : Nat) (k : Nat) W, Reads .u64 W W.heap.size y1 (doTo p xa inv xs xa.length) → Calls Tryd.prog 33 #[.int .u64 p, .slice y1 m2 c1, .int .u64 (ss.getD k 0)] W (RetQ (.tuple #[.int .u64 (Fp.ev p (doTo p xa inv xs xa.length) (ss.getD k 0)), .int .i64 0]) W)) := Lib.hid (fun y1 c1 k W hR => by
          have := reval_any p (ss.getD k 0) y1 m2 c1 (doTo p xa inv xs xa.length) W hR hL (hGr.doWords hw _) (by omega) (hw3 k).1 (hw3 k).2
          have ee := evalE_ok (n := m2) hkn (by omega)
          have ee' := ee
          rw [← hL] at ee'
          rwa [evalN_ok ee', ee] at this)
        have HV : Hid (∀ W, Below w.heap.size w W → ∀ k : Nat, Calls Tryd.prog 33 #[.int .u64 p, .slice (some ⟨b, off, none⟩) m2 cap2, .int .u64 (ss.getD k 0)] W (RetQ (.tuple #[.int .u64 (Fp.ev p ys (ss.getD k 0)), .int .i64 0]) W)) := Lib.hid (fun W hB k => by
          have := reval_any p (ss.getD k 0) (some ⟨b, off, none⟩) m2 cap2 ys W ((hz.below hB).more hB.size) hm2 hw2 (by omega) (hw3 k).1 (hw3 k).2
          have ee := evalE_ok (n := m2) hkn (by omega)
          have ee' := ee
          rw [← hm2] at ee'
          rwa [evalN_ok ee', ee] at this)
        have HCS : Hid (∀ W, Below w.heap.size w W → ∀ k, k < m3 → W.cell? ⟨b3, off3 + k, none⟩ = some (.int .u64 (ss.getD k 0))) := Lib.hid (fun W hB k hk => (hB.cell (p := ⟨b3, off3 + k, none⟩) hb3').trans (hcs k (by omega)))
        have HA := Lib.hid (fun k (h : agree p xa inv xs ys ss k = false) => agree_ne' h)
        have HA2 := Lib.hid (fun k (h : agree p xa inv xs ys ss k = true) => agree_eq h)
        have HM3 := Lib.hid hm3
        have h34 : m3 ≤ 4 := by omega
        generalize ckB p xa inv xs ys ss = res at HB HN ⊢
        generalize agree p xa inv xs ys ss = ag at HB HN HA HA2
        clear hE hx hy hw hn hm hml hz hm2 hw2 hml2 hq hm3 hw3 hml3 hyx hs e hGr hcy hcs hkn hL
        go_enter Tryd.func14, Tryd.ntmps14
        go_wp2_with (go_at_call 32; refine HD.out.mono ?_; rintro e w1 ⟨v, rfl, hO, b1⟩; obtain ⟨y1, c1, rfl, -, -, hr1, -⟩ := hO.form; have R1 := Lib.hid hr1; have B1 := Lib.hid b1; rw [HLL.out]; clear hO hr1 b1)
        go_loopw [48] (fun i wr => ∃ k : Nat, k ≤ m3 ∧ i = .int .i64 (k : Int) ∧ Hid (∀ j, j < k → ag j = true) ∧ Hid (Below w1.heap.size w1 wr)) (fun i _ => m3 - (intOf i).toNat)
        case atStart => exact ⟨0, Nat.zero_le _, rfl, Lib.hid (fun j hj => by omega), Lib.hid (Below.refl _ _)⟩
        case round =>
          obtain ⟨k, hk, rfl, HP, HBl⟩ := hrel
          have HBw := Lib.hid (below_then B1.out HBl.out)
          by_cases hlt : k < m3
          · have hdk : decide (k < m3) = true := by simpa using hlt
            have hcell := HCS.out wr HBw.out k hlt
            have HX1 := Lib.hid (HX.out y1 c1 k wr ((R1.out.below HBl.out).more HBl.out.size))
            have HV1 := Lib.hid (fun n => HV.out (wr.drewN n) (below_draws HBw.out n) k)
            cases ha : ag k
            · have hne := HA.out k ha
              have HR := Lib.hid (HN.out k hlt ha)
              generalize Fp.ev p ys (ss.getD k 0) = u at HV1 hne
              generalize Fp.ev p (doTo p xa inv xs xa.length) (ss.getD k 0) = v at HX1 hne
              generalize ss.getD k 0 = sd at hcell HV1 HX1
              clear ha
              go_wp2_with (first
                | (go_at_call_of 33 (Value.slice y1 m2 c1); refine HX1.out.mono ?_; rintro e w' ⟨rfl, n1, rfl⟩)
                | (go_at_call 33; refine (HV1.out _).mono ?_; rintro e w' ⟨rfl, n2, rfl⟩))
              go_ret2
              exact ⟨by rw [HR.out]; rfl, below_draws HBw.out _⟩
            · have heq := HA2.out k ha
              rw [heq] at HV1
              generalize Fp.ev p (doTo p xa inv xs xa.length) (ss.getD k 0) = v at HX1 HV1
              generalize ss.getD k 0 = sd at hcell HV1 HX1
              have HP' : Hid (∀ j, j < k + 1 → ag j = true) := Lib.hid (fun j hj => by
                rcases Nat.lt_or_ge j k with h | h
                · exact HP.out j h
                · rw [show j = k by omega]; exact ha)
              clear ha heq
              go_wp2_with (first
                | (go_at_call_of 33 (Value.slice y1 m2 c1); refine HX1.out.mono ?_; rintro e w' ⟨rfl, n1, rfl⟩)
                | (go_at_call 33; refine (HV1.out _).mono ?_; rintro e w' ⟨rfl, n2, rfl⟩))
              go_roundw
              case rel => exact ⟨k + 1, hlt, by go_num, HP', Lib.hid (below_draws HBl.out _)⟩
              case measure => simp [intOf]; omega
          · obtain rfl : k = m3 := by omega
            have HR := Lib.hid (HB.out (fun j hj => HP.out j (by rw [HM3.out] at hj; exact hj)))
            have HI1 := Lib.hid (HI.out wr HBw.out)
            generalize Fp.isIn p (fun j => ys.getD j 0) ys.length = bb at HR HI1
            go_wp2_with (go_at_call 36; refine HI1.out.mono ?_; rintro e w' ⟨rfl, rfl⟩)
            go_ret2
            exact ⟨by rw [HR.out]; rfl, HBw.out⟩
    · have e := ckE_len (ss := ss) hE (show ys.length ≠ xs.length by omega)
      rw [ckB_no (by rw [e]; decide), e]
      have hne : ((m2 : Int) != (m : Int)) = true := bne_of_ne (by omega)
      generalize doTo p xa inv xs xa.length = ds at HD HLL
      clear hE hx hy hw hn hm hml hz hm2 hw2 hml2 hq hm3 hw3 hml3 e hlen hGr hL
      go_enter Tryd.func14, Tryd.ntmps14
      go_wp2_with (go_at_call 32; refine HD.out.mono ?_; rintro e w1 ⟨v, rfl, hO, b1⟩; obtain ⟨y1, c1, rfl, -, -, -, -⟩ := hO.form; have B1 := Lib.hid b1; rw [HLL.out]; clear hO b1)
      go_ret2
      exact ⟨rfl, B1.out⟩
  · rw [ckB_no (by rw [ckE_words hE]; exact hE), ckE_words hE]
    rw [doL_no hE] at HD
    have t := ne_of_bne hE
    generalize wordsE p xa xs = er at HD t ⊢
    clear hE hx hy hw hn hm hml hz hm2 hw2 hml2 hq hm3 hw3 hml3
    go_enter Tryd.func14, Tryd.ntmps14
    go_wp2_with (go_at_call 32; refine HD.out.mono ?_; rintro e w1 ⟨v, rfl, hO, b1⟩; obtain ⟨y1, c1, rfl, -, -, -, -⟩ := hO.form; have B1 := Lib.hid b1; clear hO b1; simp only [List.length_nil])
    go_ret2
    exact ⟨rfl, B1.out⟩

/-- The word i of a row of noughts is made 1, and behind it one axis is laid: what can be read then. -/
theorem unit_laid {w0 w1 w2 : World} {L k : Nat} {ag : Bool} (B1 : Below (w0.alloc (.cells #[.int .i64 (L : Int), .bool ag] 26)).heap.size (w0.alloc (.cells #[.int .i64 (L : Int), .bool ag] 26)) w1) (b2 : Below w1.heap.size w1 w2) (R2 : RowAt .u64 22 w2 w1.heap.size w1.heap.size L (fun _ => 0)) :
    (w2.setCell ⟨w1.heap.size, k, none⟩ (.int .u64 1)).cell? ⟨w0.heap.size, 0, none⟩ = some (.int .i64 (L : Int)) ∧ (w2.setCell ⟨w1.heap.size, k, none⟩ (.int .u64 1)).cell? ⟨w0.heap.size, 1, none⟩ = some (.bool ag) ∧
      ReadsA ((w2.setCell ⟨w1.heap.size, k, none⟩ (.int .u64 1)).alloc (.cells #[.int .i64 (L : Int), .bool ag] 26)) ((w2.setCell ⟨w1.heap.size, k, none⟩ (.int .u64 1)).alloc (.cells #[.int .i64 (L : Int), .bool ag] 26)).heap.size (some ⟨w2.heap.size, 0, none⟩) [(⟨(L : Int), ag⟩ : Ax)] ∧
      Reads .u64 ((w2.setCell ⟨w1.heap.size, k, none⟩ (.int .u64 1)).alloc (.cells #[.int .i64 (L : Int), .bool ag] 26)) ((w2.setCell ⟨w1.heap.size, k, none⟩ (.int .u64 1)).alloc (.cells #[.int .i64 (L : Int), .bool ag] 26)).heap.size (some ⟨w1.heap.size, 0, none⟩) (un L k) ∧
      Below w1.heap.size w1 ((w2.setCell ⟨w1.heap.size, k, none⟩ (.int .u64 1)).alloc (.cells #[.int .i64 (L : Int), .bool ag] 26)) := by
  have hs : (w2.setCell ⟨w1.heap.size, k, none⟩ (.int .u64 1)).heap.size = w2.heap.size := by simp
  have hb : Below w1.heap.size w1 (w2.setCell ⟨w1.heap.size, k, none⟩ (.int .u64 1)) := b2.setCell (p := ⟨w1.heap.size, k, none⟩) (Nat.le_refl _) _
  obtain ⟨c0, c1, -⟩ := box_call (below_then B1 hb)
  have R3 : RowAt .u64 22 (w2.setCell ⟨w1.heap.size, k, none⟩ (.int .u64 1)) w1.heap.size w1.heap.size L (unN k) := by
    have := R2.set (f' := unN k) k (fun t _ h => by unfold unN; rw [if_neg h])
    have e : unN k k = 1 := by unfold unN; rw [if_pos rfl]
    rwa [e] at this
  refine ⟨c0, c1, reads_one (t := 26) ?_ (by rw [World.size_alloc, hs]; omega), ?_, below_al hb _⟩
  · rw [← hs]; exact heap_alloc_new _ _
  · have := (R3.below (below_al (Below.refl _ _) (.cells #[.int .i64 (L : Int), .bool ag] 26))).reads
    exact this

set_option maxRecDepth 100000 in
set_option maxHeartbeats 2000000 in
theorem rWeight_any (p : Int) (a : Ax) (inv : Bool) (i z : Int) (w : World) (ha : -9223372036854775808 ≤ a.n ∧ a.n < 9223372036854775808) (hi : -9223372036854775808 ≤ i ∧ i < 9223372036854775808) (z0 : 0 ≤ z) (z1 : z < 18446744073709551616) :
    Calls Tryd.prog 10 #[.int .u64 p, .agg #[.int .i64 a.n, .bool a.neg], .bool inv, .int .i64 i, .int .u64 z] w (RetB (.tuple #[.int .u64 (wtR p a inv i z), .int .i64 (wtE p a i)]) w) := by
  obtain ⟨W1, hW1⟩ : ∃ W1, W1 = (w.alloc (.cells #[.int .i64 a.n, .bool a.neg] 26)).alloc (.cells #[.int .i64 a.n, .bool a.neg] 26) := ⟨_, rfl⟩
  have hB1 : Below w.heap.size w W1 := by rw [hW1]; exact below_al (below_al (Below.refl _ _) _) _
  have s1 : W1.heap.size = w.heap.size + 1 + 1 := by rw [hW1, World.size_alloc, World.size_alloc]
  have hr1 : ReadsA W1 W1.heap.size (some ⟨w.heap.size + 1, 0, none⟩) [a] := reads_one (by
    have := heap_alloc_new (w.alloc (.cells #[.int .i64 a.n, .bool a.neg] 26)) (.cells #[.int .i64 a.n, .bool a.neg] 26)
    rw [World.size_alloc] at this
    rw [hW1]; exact this) (by omega)
  have HC := Lib.hid (rcheck7_any p (some ⟨w.heap.size + 1, 0, none⟩) 1 1 [a] W1 hr1 rfl (by omega))
  rw [hW1] at HC
  by_cases hE : gridE p [a] = 0
  · have hA := gridE_zero hE
    have l1 := hA.L (a := 0) (by simp)
    have l2 := hA.L_le (a := 0) (by simp)
    have hint := hA.int (a := 0) (by simp)
    obtain ⟨an, ag⟩ := a
    obtain ⟨L, hL⟩ : ∃ L, L = gL [(⟨an, ag⟩ : Ax)] 0 := ⟨_, rfl⟩
    rw [← hL] at l1 l2 hint
    obtain rfl : an = (L : Int) := hint
    rw [hE] at HC
    have hB0 : Below (w.alloc (.cells #[.int .i64 (L : Int), .bool ag] 26)).heap.size (w.alloc (.cells #[.int .i64 (L : Int), .bool ag] 26)) W1 := by rw [hW1]; exact below_al (Below.refl _ _) _
    have HB0 := Lib.hid hB0
    have HB1 := Lib.hid hB1
    rw [hW1] at HB0 HB1
    dsimp only at HC ha HB0 HB1
    by_cases hin : i < 0 ∨ (L : Int) ≤ i
    · have e := wtE_arg (a := ⟨(L : Int), ag⟩) hE hin
      rw [wtR_no (by rw [e]; decide), e]
      by_cases h0 : i < 0
      · have d1 : decide (i < 0) = true := by simpa using h0
        clear hE hr1 hB1 s1 hW1 hA hL hB0 e hin
        go_enter Tryd.func10, Tryd.ntmps10
        go_wp2_with (go_at_call 31; refine HC.out.mono ?_; rintro e w1 ⟨rfl, b1⟩; obtain ⟨bx, -, -⟩ := box_call (below_then HB0.out b1); have B1 := Lib.hid (below_then HB1.out b1); clear b1)
        go_ret2
        exact ⟨rfl, B1.out⟩
      · have d1 : decide (i < 0) = false := by simpa using h0
        have h1 : (L : Int) ≤ i := by omega
        have d2 : decide ((L : Int) ≤ i) = true := by simpa using h1
        clear hE hr1 hB1 s1 hW1 hA hL hB0 e hin
        go_enter Tryd.func10, Tryd.ntmps10
        go_wp2_with (go_at_call 31; refine HC.out.mono ?_; rintro e w1 ⟨rfl, b1⟩; obtain ⟨bx, -, -⟩ := box_call (below_then HB0.out b1); have B1 := Lib.hid (below_then HB1.out b1); clear b1)
        go_ret2
        exact ⟨rfl, B1.out⟩
    · have e := wtE_ok (a := ⟨(L : Int), ag⟩) hE hin
      rw [wtR_yes e, e]
      obtain ⟨k, rfl⟩ : ∃ k : Nat, i = (k : Int) := ⟨i.toNat, by omega⟩
      have hk : k < L := by omega
      have hG := hA.unit k
      have hWt := hA.weight inv z (i := k) (by rw [← hL]; exact hk)
      rw [← hL] at hG hWt
      have h0 : ¬ ((k : Int) < 0) := by omega
      have d2 : decide ((L : Int) ≤ (k : Int)) = false := by simp; omega
      dsimp only
      rw [Int.toNat_natCast, Int.toNat_natCast]
      have hN : gN [(⟨(L : Int), ag⟩ : Ax)] 0 = ag := rfl
      rw [hN] at hWt
      rw [← hWt]
      have hdl := doTo_len p [(⟨(L : Int), ag⟩ : Ax)] inv (un L k) 1
      rw [un_len] at hdl
      have HD : Hid (∀ (g1 g2 : Nat) W, ReadsA W W.heap.size (some ⟨g1, 0, none⟩) [(⟨(L : Int), ag⟩ : Ax)] → Reads .u64 W W.heap.size (some ⟨g2, 0, none⟩) (un L k) → Calls Tryd.prog 32 #[.int .u64 p, .slice (some ⟨g1, 0, none⟩) 1 1, .bool inv, .slice (some ⟨g2, 0, none⟩) L L] W (LineRet W (doTo p [(⟨(L : Int), ag⟩ : Ax)] inv (un L k) 1) 0)) := Lib.hid (fun g1 g2 W h1 h2 => by
        have := rdo_any p (some ⟨g1, 0, none⟩) 1 1 [(⟨(L : Int), ag⟩ : Ax)] inv (some ⟨g2, 0, none⟩) L L (un L k) W h1 rfl (by omega) h2 (un_len _ _) (un_words _ _) (by unfold maxLen; omega)
        rwa [hG.zero, hG.doL] at this)
      have HV : Hid (∀ (y1 : Option Addr) (c1 : Nat) W, Reads .u64 W W.heap.size y1 (doTo p [(⟨(L : Int), ag⟩ : Ax)] inv (un L k) 1) → Calls Tryd.prog 33 #[.int .u64 p, .slice y1 L c1, .int .u64 z] W (RetQ (.tuple #[.int .u64 (Fp.ev p (doTo p [(⟨(L : Int), ag⟩ : Ax)] inv (un L k) 1) z), .int .i64 0]) W)) := Lib.hid (fun y1 c1 W hR => by
        have := reval_any p z y1 L c1 _ W hR hdl (hG.doWords (un_words _ _) _) (by omega) z0 z1
        have ee := evalE_ok (n := L) hA.kn (by omega)
        have ee' := ee
        rw [← hdl] at ee'
        rwa [evalN_ok ee', ee] at this)
      have HLL := Lib.hid hdl
      generalize Fp.ev p (doTo p [(⟨(L : Int), ag⟩ : Ax)] inv (un L k) 1) z = res at HV ⊢
      generalize doTo p [(⟨(L : Int), ag⟩ : Ax)] inv (un L k) 1 = ds at HD HV HLL
      obtain ⟨i0, hi0, hz0, hz1, hz2⟩ := info_parts info_u64
      have HZ2 := Lib.hid hz2
      clear hE hr1 hB1 s1 hW1 hA hL hB0 e hin h0 hWt hG hN hdl hz2
      go_enter Tryd.func10, Tryd.ntmps10
      go_wp2_with (first
        | (go_at_call 31; refine HC.out.mono ?_; rintro e w1 ⟨rfl, b1⟩; obtain ⟨bx, bxg, hs1w⟩ := box_call (below_then HB0.out b1); have B1 := Lib.hid (below_then HB1.out b1); have B1' := Lib.hid (below_then HB0.out b1); clear b1)
        | (at_make; refine wpList_make_full _ rfl _ _ 24 rfl w1.heap.size 22 i0 (.int .u64 0) 1 Tryd.underlying24 hi0 hz0 hz1 .i64 .i64 _ _ L rfl rfl rfl rfl (by rw [HZ2.out]; omega) (by unfold maxLen; omega) (Nat.le_refl _) ?_; intro w2 hown hgrow; have R2 := RowAt.start hown; have b2 := (Below.refl w1.heap.size w1).grown hgrow (Nat.le_refl _) (fun k e => by cases e); have hg2 := R2.lt.2; have c2 := R2.cell k hk; have f2 := R2.frozen k; obtain ⟨k0, k1, ra, ru, b4⟩ := unit_laid (k := k) B1'.out b2 R2; have RA := Lib.hid ra; have RU := Lib.hid ru; have B4 := Lib.hid (below_then B1.out b4); clear R2 b2 hown hgrow bx bxg hs1w ra ru b4)
        | (go_at_call 32; refine (HD.out _ _ _ RA.out RU.out).mono ?_; rintro e w5 ⟨v, rfl, hO, b5⟩; obtain ⟨y1, c1, rfl, -, -, hr1, -⟩ := hO.form; have R1 := Lib.hid hr1; have B5 := Lib.hid (below_then B4.out b5); rw [HLL.out]; clear hO hr1 b5)
        | (go_at_call 33; refine (HV.out _ _ _ R1.out).mono ?_; rintro e w' ⟨rfl, nd, rfl⟩))
      go_ret2
      exact ⟨rfl, below_draws B5.out nd⟩
  · rw [wtR_no (by rw [wtE_grid hE]; exact hE), wtE_grid hE]
    have t := ne_of_bne hE
    have HB1 := Lib.hid hB1
    generalize gridE p [a] = er at HC t ⊢
    obtain ⟨an, ag⟩ := a
    dsimp only at HC ha ⊢
    rw [hW1] at HB1
    dsimp only at HB1
    clear hE hr1 hB1 s1 hW1
    go_enter Tryd.func10, Tryd.ntmps10
    go_wp2_with (go_at_call 31; refine HC.out.mono ?_; rintro e w1 ⟨rfl, b1⟩; have B1 := Lib.hid (below_then HB1.out b1); clear b1)
    go_ret2
    exact ⟨rfl, B1.out⟩

end Go.Proofs.YtmeeldhejbdgjaaDoor
