/-
  The walk of the law GridOne: it returns true for every word, whatever is Neg, and every slice of words, there or back; nothing that was there is written.
-/
import Derived.Test.YtjmgieepgdjomaaDoorLawGridBack
import Derived.Deep.RegionWith
namespace Go.Proofs.YtjmgieepgdjomaaDoor
open Go.RowKit Go.Shelf

def one1 (n : Nat) (neg : Bool) : List Ax := [⟨(n : Int), neg⟩]
def one3 (n : Nat) (neg other : Bool) : List Ax := [⟨1, other⟩, ⟨(n : Int), neg⟩, ⟨1, false⟩]
section
variable {p : Int} {n : Nat} {neg other inv : Bool} {xs : List Int}
theorem ok1 (h1 : 1 ≤ n) (h2 : n ≤ 4096) : Sh.Ok (szs (one1 n neg)) ∧ dims (one1 n neg) = Sh.ints (szs (one1 n neg)) := by
  have e : szs (one1 n neg) = [n] := by simp [szs, one1]
  rw [e]
  exact ⟨⟨by simp, by simp, by simpa using h1, by simpa [Sh.prod] using h2⟩, by simp [dims, one1, Sh.ints]⟩
theorem ok3 (h1 : 1 ≤ n) (h2 : n ≤ 4096) : Sh.Ok (szs (one3 n neg other)) ∧ dims (one3 n neg other) = Sh.ints (szs (one3 n neg other)) := by
  have e : szs (one3 n neg other) = [1, n, 1] := by simp [szs, one3]
  rw [e]
  exact ⟨⟨by simp, by simp, by simpa using h1, by simpa [Sh.prod] using h2⟩, by simp [dims, one3, Sh.ints]⟩
theorem no1 : Sh.No (dims (one1 0 neg)) := fun ns ok e => by
  have e1 : szs (one1 0 neg) = ns := szs_of e
  have := ok.pos 0 (by rw [← e1]; simp [szs, one1])
  omega
theorem no3 : Sh.No (dims (one3 0 neg other)) := fun ns ok e => by
  have e1 : szs (one3 0 neg other) = ns := szs_of e
  have := ok.pos 0 (by rw [← e1]; simp [szs, one3])
  omega
/-- No words at all: what is told of both. -/
theorem one_none : wordsE p (one1 0 neg) xs = (if Fp.kn p = false then 2 else 3) ∧ wordsE p (one3 0 neg other) xs = (if Fp.kn p = false then 2 else 3) := by
  cases h : Fp.kn p
  · have e1 := gridE_prime (xa := one1 0 neg) h
    have e2 := gridE_prime (xa := one3 0 neg other) h
    rw [wordsE_grid (by omega), wordsE_grid (by omega), e1, e2]
    simp
  · have e1 := gridE_dims (xa := one1 0 neg) h no1
    have e2 := gridE_dims (xa := one3 0 neg other) h no3
    rw [wordsE_grid (by omega), wordsE_grid (by omega), e1, e2]
    simp
theorem sm_one : Fac.sm 1 = true := by decide
theorem two_dvd (h : Fp.kn p = true) (b : Bool) : (p - 1) % ((Fp.od b 1 : Nat) : Int) = 0 := by
  rcases Fp.kn_cases h with rfl | rfl | rfl <;> cases b <;> decide
theorem all1 {P : Nat → Prop} (h0 : P 0) : ∀ k, k < (one1 n neg).length → P k := fun k hk => by
  have : k = 0 := by simp [one1] at hk; omega
  subst this; exact h0
theorem all3 {P : Nat → Prop} (h0 : P 0) (h1 : P 1) (h2 : P 2) : ∀ k, k < (one3 n neg other).length → P k := fun k hk => by
  have : k = 0 ∨ k = 1 ∨ k = 2 := by simp [one3] at hk; omega
  rcases this with rfl | rfl | rfl
  · exact h0
  · exact h1
  · exact h2
/-- Both have what the line has, wrong or not. -/
theorem one_line (hl : xs.length = n) (h1 : 1 ≤ n) (h2 : n ≤ 4096) : wordsE p (one1 n neg) xs = lineE p xs neg ∧ wordsE p (one3 n neg other) xs = lineE p xs neg := by
  obtain ⟨o1, d1⟩ := ok1 (neg := neg) h1 h2
  obtain ⟨o3, d3⟩ := ok3 (neg := neg) (other := other) h1 h2
  have p1 : Sh.prod (szs (one1 n neg)) = n := by simp [szs, one1, Sh.prod]
  have p3 : Sh.prod (szs (one3 n neg other)) = n := by simp [szs, one3, Sh.prod]
  subst hl
  rcases lineE_cases p xs neg with ⟨hE, h⟩ | ⟨hE, h, hs⟩ | ⟨hE, h, hs, hr⟩ | ⟨hE, h, hs, hr, hi⟩ | ⟨hE, h⟩
  · have e1 := gridE_prime (xa := one1 xs.length neg) h
    have e2 := gridE_prime (xa := one3 xs.length neg other) h
    rw [wordsE_grid (by omega), wordsE_grid (by omega), e1, e2, hE]
    exact ⟨rfl, rfl⟩
  · have e1 := gridE_size (p := p) h o1 d1 (k := 0) (by simp [one1]) hs
    have e2 := gridE_size (p := p) h o3 d3 (k := 1) (by simp [one3]) hs
    rw [wordsE_grid (by omega), wordsE_grid (by omega), e1, e2, hE]
    exact ⟨rfl, rfl⟩
  · have s1 : ∀ k, k < (one1 xs.length neg).length → axS (one1 xs.length neg) k = true := all1 hs
    have s3 : ∀ k, k < (one3 xs.length neg other).length → axS (one3 xs.length neg other) k = true := all3 sm_one hs sm_one
    have e1 := gridE_order (p := p) h o1 d1 s1 (k := 0) (by simp [one1]) hr
    have e2 := gridE_order (p := p) h o3 d3 s3 (k := 1) (by simp [one3]) hr
    rw [wordsE_grid (by omega), wordsE_grid (by omega), e1, e2, hE]
    exact ⟨rfl, rfl⟩
  · have A1 : Axes p (one1 xs.length neg) := ⟨h, o1, d1, all1 hs, all1 hr⟩
    have A3 : Axes p (one3 xs.length neg other) := ⟨h, o3, d3, all3 sm_one hs sm_one, all3 (two_dvd h other) hr (two_dvd h false)⟩
    rw [wordsE_word A1.zero p1.symm hi, wordsE_word A3.zero p3.symm hi, hE]
    exact ⟨rfl, rfl⟩
  · have A1 : Axes p (one1 xs.length neg) := ⟨h.kn, o1, d1, all1 h.sm, all1 h.dvd⟩
    have A3 : Axes p (one3 xs.length neg other) := ⟨h.kn, o3, d3, all3 sm_one h.sm sm_one, all3 (two_dvd h.kn other) h.dvd (two_dvd h.kn false)⟩
    have hi := (Fp.isIn_iff h.kn _).2 h.lt
    rw [wordsE_ok A1.zero p1.symm hi, wordsE_ok A3.zero p3.symm hi, hE]
    exact ⟨rfl, rfl⟩
/-- Both are the line's transform. -/
theorem one_do (hl : xs.length = n) (h1 : 1 ≤ n) (h2 : n ≤ 4096) (hw : Words xs) : doL p (one1 n neg) inv xs = tr p neg inv xs ∧ doL p (one3 n neg other) inv xs = tr p neg inv xs := by
  obtain ⟨e1, e3⟩ := one_line (p := p) (neg := neg) (other := other) hl h1 h2
  by_cases hE : lineE p xs neg = 0
  · have g1 := wordsE_zero (e1.trans hE)
    have g3 := wordsE_zero (e3.trans hE)
    have hL := lineE_zero hE
    rw [g1.doL, g3.doL]
    constructor
    · show thr p (one1 n neg) 0 inv xs = _
      rw [g1.thr_line (by simp [one1]) (by simp [gI, szs, one1, Sh.prod]) (by simp [gL, szs, one1, hl])]
      rfl
    · show thr p (one3 n neg other) 2 inv (thr p (one3 n neg other) 1 inv (thr p (one3 n neg other) 0 inv xs)) = _
      rw [g3.thr_one hw (by simp [one3]) (by simp [gL, szs, one3])]
      have g4 := g3.thr (a := 1) (inv := inv)
      have w4 := g3.thrWords (a := 1) (inv := inv)
      rw [g4.thr_one w4 (by simp [one3]) (by simp [gL, szs, one3])]
      rw [g3.thr_line (by simp [one3]) (by simp [gI, szs, one3, Sh.prod]) (by simp [gL, szs, one3, hl])]
      rfl
  · have e : tr p neg inv xs = [] := by
      unfold tr fwd bwd
      rw [if_neg hE, if_neg hE]; split <;> rfl
    rw [doL_no (by rw [e1]; exact hE), doL_no (by rw [e3]; exact hE), e]
    exact ⟨rfl, rfl⟩
end
theorem tr_le (p : Int) (neg inv : Bool) (xs : List Int) : (tr p neg inv xs).length ≤ xs.length := by
  unfold tr fwd bwd
  split <;> split <;> simp

theorem one1_reads (w : World) (t : TypeId) (n : Nat) (neg : Bool) : ReadsA (w.alloc (.cells #[.int .i64 (n : Int), .bool neg] t)) (w.heap.size + 1) (some ⟨w.heap.size, 0, none⟩) (one1 n neg) := fun _ =>
  ⟨w.heap.size, 0, rfl, Nat.lt_succ_self _, fun j hj => by
    have : j = 0 := by simp [one1] at hj; omega
    subst this; simp [one1]⟩
theorem one3_reads (w : World) (t : TypeId) (n : Nat) (neg other : Bool) : ReadsA (w.alloc (.cells #[.int .i64 1, .bool other, .int .i64 (n : Int), .bool neg, .int .i64 1, .bool false] t)) (w.heap.size + 1) (some ⟨w.heap.size, 0, none⟩) (one3 n neg other) := fun _ =>
  ⟨w.heap.size, 0, rfl, Nat.lt_succ_self _, fun j hj => by
    have : j = 0 ∨ j = 1 ∨ j = 2 := by simp [one3] at hj; omega
    rcases this with rfl | rfl | rfl <;> simp [one3]⟩

set_option maxHeartbeats 2000000 in
set_option maxRecDepth 100000 in
theorem walk_GridOne (p : Int) (neg other inv : Bool) (y : Option Addr) (m cap' : Nat) (zs : List Int) (w : World) (_hp : (Lit.int .u64 p).wf = true) (hr : RowIn .u64 w y m cap' zs) (hG : Gl w) :
    Calls Tryd.prog 6 #[.int .u64 p, .bool neg, .bool other, .bool inv, .slice y m cap'] w fun e w' => e = .returned (.bool true) ∧ Below w.heap.size w w' := by
  obtain ⟨xs, -, hm, hcp, hml, hy, hw⟩ := hr.reads
  have hml : m ≤ maxLen := Nat.le_trans hcp hml
  have HV := Lib.hid (live7_any w hG)
  clear hr hcp _hp
  by_cases hl : 24 < m
  · have d1 : decide (24 < (m : Int)) = true := by simp; omega
    clear hy hG hw hm hml
    go_enter Tryd.func6, Tryd.ntmps6
    go_wp2_with (go_at_call 7; refine HV.out.mono ?_; rintro e w1 ⟨rfl, b1⟩; have B1 := Lib.hid b1; clear b1)
    go_ret
    exact ⟨rfl, B1.out⟩
  · have d1 : decide (24 < (m : Int)) = false := by simp; omega
    have HD1 := Lib.hid (fun W (hB : Below w.heap.size w W) => do_any p (some ⟨W.heap.size, 0, none⟩) 1 1 (one1 m neg) inv y m cap' xs (W.alloc (.cells #[.int .i64 (m : Int), .bool neg] 41)) (hG.then (below_al hB _)) ((one1_reads W 41 m neg).more (by simp)) rfl (by omega) ((hy.below (below_al hB _)).more (below_al hB _).size) hm hw hml)
    have HD3 := Lib.hid (fun W (hB : Below w.heap.size w W) => do_any p (some ⟨W.heap.size, 0, none⟩) 3 3 (one3 m neg other) inv y m cap' xs (W.alloc (.cells #[.int .i64 1, .bool other, .int .i64 (m : Int), .bool neg, .int .i64 1, .bool false] 41)) (hG.then (below_al hB _)) ((one3_reads W 41 m neg other).more (by simp)) rfl (by omega) ((hy.below (below_al hB _)).more (below_al hB _).size) hm hw hml)
    have HF := Lib.hid (fun W (hB : Below w.heap.size w W) => forward_any p y m cap' xs neg W (hG.then hB) ((hy.below hB).more hB.size) hm hw hml)
    have HI := Lib.hid (fun W (hB : Below w.heap.size w W) => inverse_any p y m cap' xs neg W (hG.then hB) ((hy.below hB).more hB.size) hm hw hml)
    have HT := Lib.hid (tr_le p neg inv xs)
    have HM := Lib.hid hm
    by_cases h0 : m = 0
    · subst h0
      obtain ⟨e1, e3⟩ := one_none (p := p) (neg := neg) (other := other) (xs := xs)
      have hx0 : xs = [] := List.length_eq_zero_iff.1 hm
      have hE : (lineE p xs neg != 0) = true := by
        rw [bne_iff_ne, hx0]
        intro e
        have := (lineE_zero e).len
        simp at this
      have hc : (if Fp.kn p = false then (2 : Int) else 3) = 2 ∨ (if Fp.kn p = false then (2 : Int) else 3) = 3 := by split <;> simp
      rw [e1] at HD1
      rw [e3] at HD3
      generalize (if Fp.kn p = false then (2 : Int) else 3) = er at HD1 HD3 hc
      generalize doL p (one1 0 neg) inv xs = l1 at HD1
      generalize doL p (one3 0 neg other) inv xs = l3 at HD3
      generalize fwd p xs neg = lf at HF
      generalize bwd p xs neg = lb at HI
      generalize lineE p xs neg = el at HF HI hE
      clear hy hG hw hm hml e1 e3 hx0 HT HM
      rcases hc with rfl | rfl <;> cases inv
      all_goals
        go_enter Tryd.func6, Tryd.ntmps6
        go_wp2_with (first
          | (go_at_call 7; refine HV.out.mono ?_; rintro e w1 ⟨rfl, b1⟩; have B1 := Lib.hid b1; clear b1)
          | (go_at_call 11; refine (HD1.out _ B1.out).mono ?_; rintro e w2 ⟨v2, rfl, hO, b2⟩; have B2 := Lib.hid (below_then (below_al B1.out _) b2); have B3 := B2; clear b2 hO HD1)
          | (go_at_call 20; refine (HF.out _ B2.out).mono ?_; rintro e w3 ⟨v3, rfl, hO, b3⟩; clear B3; have B3 := Lib.hid (below_then B2.out b3); clear b3 hO HF)
          | (go_at_call 21; refine (HI.out _ B3.out).mono ?_; rintro e w4 ⟨v4, rfl, hO, b4⟩; have B4 := Lib.hid (below_then B3.out b4); clear B3; have B3 := B4; clear b4 hO HI B4)
          | (go_at_call 11; refine (HD3.out _ B3.out).mono ?_; rintro e w5 ⟨v5, rfl, hO, b5⟩; have B5 := Lib.hid (below_then (below_al B3.out _) b5); clear b5 hO HD3))
        go_ret
        exact ⟨rfl, B5.out⟩
    · have d2 : ((m : Int) == 0) = false := by simpa using h0
      obtain ⟨e1, e3⟩ := one_line (p := p) (neg := neg) (other := other) hm (by omega) (by omega)
      obtain ⟨f1, f3⟩ := one_do (p := p) (neg := neg) (other := other) (inv := inv) hm (by omega) (by omega) hw
      rw [e1, f1] at HD1
      rw [e3, f3] at HD3
      have q1 : (lineE p xs neg == lineE p xs neg) = true := by simp
      have hF' : inv = false → fwd p xs neg = tr p neg inv xs := fun e => by rw [e]; simp [tr]
      have hI' : inv = true → bwd p xs neg = tr p neg inv xs := fun e => by rw [e]; simp [tr]
      cases inv
      · rw [hF' rfl] at HF
        generalize tr p neg false xs = ls at HD1 HD3 HF HT
        generalize lineE p xs neg = er at HD1 HD3 HF q1
        have hls : ls.length ≤ 24 := by have := HT.out; have := HM.out; omega
        clear hy hG hw hm hml e1 e3 f1 f3 hF' hI' HI HT HM
        go_enter Tryd.func6, Tryd.ntmps6
        go_wp2_with (first
          | (go_at_call 7; refine HV.out.mono ?_; rintro e w1 ⟨rfl, b1⟩; have B1 := Lib.hid b1; clear b1)
          | (go_at_call 11; refine (HD1.out _ B1.out).mono ?_; rintro e w2 ⟨v2, rfl, hO, b2⟩; obtain ⟨y1, k1, rfl, -, -, hr1, -⟩ := hO.form; have R1 := Lib.hid hr1; have B2 := Lib.hid (below_then (below_al B1.out _) b2); clear b2 hO hr1 HD1)
          | (go_at_call 20; refine (HF.out _ B2.out).mono ?_; rintro e w3 ⟨v3, rfl, hO, b3⟩; obtain ⟨y2, k2, rfl, -, -, hr2, -⟩ := hO.form; have R2 := Lib.hid hr2; have C3 := Lib.hid b3; have B3 := Lib.hid (below_then B2.out b3); clear b3 hO hr2 HF)
          | (go_at_call 11; refine (HD3.out _ B3.out).mono ?_; rintro e w5 ⟨v5, rfl, hO, b5⟩; obtain ⟨y3, k3, rfl, -, -, hr3, -⟩ := hO.form; have R3 := Lib.hid hr3; have D5 := Lib.hid (below_then (below_al (Below.refl _ w3) _) b5); have B5 := Lib.hid (below_then B3.out D5.out); have S2 := Lib.hid ((R2.out.below D5.out).more D5.out.size); have S1 := Lib.hid ((R1.out.below (below_then C3.out D5.out)).more (below_then C3.out D5.out).size); clear b5 hO hr3 HD3)
          | (go_at_call_of 13 (Value.slice y3 ls.length k3); refine (same_self y3 y1 ls.length k3 k1 ls _ w5.heap.size (R3.out.draws _) (S1.out.draws _) rfl (by omega)).mono ?_; rintro e w' ⟨rfl, n2, rfl⟩)
          | (go_at_call 13; refine (same_self y1 y2 ls.length k1 k2 ls _ w5.heap.size S1.out S2.out rfl (by omega)).mono ?_; rintro e w' ⟨rfl, n1, rfl⟩))
        go_ret
        exact ⟨rfl, below_draws B5.out _⟩
      · rw [hI' rfl] at HI
        generalize tr p neg true xs = ls at HD1 HD3 HI HT
        generalize fwd p xs neg = lf at HF
        generalize lineE p xs neg = er at HD1 HD3 HF HI q1
        have hls : ls.length ≤ 24 := by have := HT.out; have := HM.out; omega
        clear hy hG hw hm hml e1 e3 f1 f3 hF' hI' HT HM
        go_enter Tryd.func6, Tryd.ntmps6
        go_wp2_with (first
          | (go_at_call 7; refine HV.out.mono ?_; rintro e w1 ⟨rfl, b1⟩; have B1 := Lib.hid b1; clear b1)
          | (go_at_call 11; refine (HD1.out _ B1.out).mono ?_; rintro e w2 ⟨v2, rfl, hO, b2⟩; obtain ⟨y1, k1, rfl, -, -, hr1, -⟩ := hO.form; have R1 := Lib.hid hr1; have B2 := Lib.hid (below_then (below_al B1.out _) b2); clear b2 hO hr1 HD1)
          | (go_at_call 20; refine (HF.out _ B2.out).mono ?_; rintro e w3 ⟨v3, rfl, hO, b3⟩; have C3 := Lib.hid b3; have B3 := Lib.hid (below_then B2.out b3); clear b3 hO HF)
          | (go_at_call 21; refine (HI.out _ B3.out).mono ?_; rintro e w4 ⟨v4, rfl, hO, b4⟩; obtain ⟨y2, k2, rfl, -, -, hr2, -⟩ := hO.form; have R2 := Lib.hid hr2; have C4 := Lib.hid (below_then C3.out b4); have B4 := Lib.hid (below_then B3.out b4); clear b4 hO hr2 HI)
          | (go_at_call 11; refine (HD3.out _ B4.out).mono ?_; rintro e w5 ⟨v5, rfl, hO, b5⟩; obtain ⟨y3, k3, rfl, -, -, hr3, -⟩ := hO.form; have R3 := Lib.hid hr3; have D5 := Lib.hid (below_then (below_al (Below.refl _ w4) _) b5); have B5 := Lib.hid (below_then B4.out D5.out); have S2 := Lib.hid ((R2.out.below D5.out).more D5.out.size); have S1 := Lib.hid ((R1.out.below (below_then C4.out D5.out)).more (below_then C4.out D5.out).size); clear b5 hO hr3 HD3)
          | (go_at_call_of 13 (Value.slice y3 ls.length k3); refine (same_self y3 y1 ls.length k3 k1 ls _ w5.heap.size (R3.out.draws _) (S1.out.draws _) rfl (by omega)).mono ?_; rintro e w' ⟨rfl, n2, rfl⟩)
          | (go_at_call 13; refine (same_self y1 y2 ls.length k1 k2 ls _ w5.heap.size S1.out S2.out rfl (by omega)).mono ?_; rintro e w' ⟨rfl, n1, rfl⟩))
        go_ret
        exact ⟨rfl, below_draws B5.out _⟩

end Go.Proofs.YtjmgieepgdjomaaDoor
