/-
  The walk of CodeMakes: what Fix tells is a codeword, is what it was handed with its fixes made, and has no more to be fixed; each fix changes its word, and of the words there is one at the most.
-/
import Derived.Test.YtpdiilfpbkmebaaLawCodeOne
import Derived.Deep.RegionWith
namespace Go.Proofs.Ytpdiilfpbkmebaa
open Go.RowKit

namespace Cd
/-- The place of the fix ahead of number k. -/
def lastAd (X : List Fx) (k : Nat) : Int := if k = 0 then -1 else (X.getD (k - 1) noFx).ad
theorem lastAd_next (X : List Fx) (k : Nat) : lastAd X (k + 1) = (X.getD k noFx).ad := by unfold lastAd; rw [if_neg (by omega), Nat.add_sub_cancel]
theorem fix_take (X : List Fx) (k : Nat) (h : k < X.length) : X.take (k + 1) = X.take k ++ [X.getD k noFx] := by
  rw [List.take_add_one, List.getElem?_eq_getElem h, List.getD_eq_getElem?_getD, List.getElem?_eq_getElem h]; rfl
/-- How many of the first k fixes are made ahead of place m. -/
def cnt (X : List Fx) (m : Nat) (k : Nat) : Nat := ((X.take k).filter fun s => decide (s.ad < (m : Int))).length
theorem cnt_zero (X : List Fx) (m : Nat) : cnt X m 0 = 0 := rfl
theorem cnt_le (X : List Fx) (m k : Nat) : cnt X m k ≤ k := by
  unfold cnt
  have := List.length_filter_le (fun s : Fx => decide (s.ad < (m : Int))) (X.take k)
  rw [List.length_take] at this
  omega
theorem cnt_all (X : List Fx) (m : Nat) : cnt X m X.length = (X.filter fun s => decide (s.ad < (m : Int))).length := by unfold cnt; rw [List.take_length]
theorem cnt_next (X : List Fx) (m k : Nat) (h : k < X.length) {a : Nat} (ha : (X.getD k noFx).ad = (a : Int)) : cnt X m (k + 1) = cnt X m k + if a < m then 1 else 0 := by
  unfold cnt
  rw [fix_take X k h, List.filter_append, List.length_append]
  congr 1
  by_cases c : a < m
  · rw [if_pos c, List.filter_cons_of_pos (by rw [ha]; simp; omega)]; rfl
  · rw [if_neg c, List.filter_cons_of_neg (by rw [ha]; simp; omega)]; rfl
/-- What the fix number k is, when those ahead of it are made. -/
theorem dif_here {c r : List Int} {n k : Nat} (hc : c.length = n) (hk : k < (dif c r n).length) :
    ∃ (a : Nat) (b g : Int), (dif c r n).getD k noFx = ⟨(a : Int), b, g⟩ ∧ a < n ∧ lastAd (dif c r n) k < (a : Int) ∧ -1 ≤ lastAd (dif c r n) k ∧ (mend c ((dif c r n).take k)).getD a 0 = b ∧ b ≠ g := by
  have hmem : (dif c r n).getD k noFx ∈ dif c r n := by rw [List.getD_eq_getElem?_getD, List.getElem?_eq_getElem hk]; exact List.getElem_mem _
  obtain ⟨j, hj, hs, hne⟩ := dif_mem n hmem
  have hpw := dif_rise c r n
  rw [List.pairwise_iff_getElem] at hpw
  have hrise : ∀ i, i < k → ((dif c r n).getD i noFx).ad < ((dif c r n).getD k noFx).ad := fun i hi => by
    have := hpw i k (by omega) hk hi
    rw [List.getD_eq_getElem?_getD, List.getD_eq_getElem?_getD, List.getElem?_eq_getElem (show i < (dif c r n).length by omega), List.getElem?_eq_getElem hk]
    exact this
  refine ⟨j, c.getD j 0, r.getD j 0, hs, hj, ?_, ?_, ?_, hne⟩
  · unfold lastAd
    split
    · omega
    · have := hrise (k - 1) (by omega)
      rw [hs] at this
      exact this
  · unfold lastAd
    split
    · omega
    · have hm1 : (dif c r n).getD (k - 1) noFx ∈ dif c r n := by rw [List.getD_eq_getElem?_getD, List.getElem?_eq_getElem (show k - 1 < (dif c r n).length by omega)]; exact List.getElem_mem _
      obtain ⟨i, hi, hs', -⟩ := dif_mem n hm1
      rw [hs']
      dsimp only
      omega
  · refine mend_far _ _ _ (fun s hs' => ?_)
    have hin := List.mem_of_mem_take hs'
    obtain ⟨i, hi, rfl, -⟩ := dif_mem n hin
    refine ⟨by dsimp only; omega, by dsimp only; omega, ?_⟩
    obtain ⟨q, hq, e⟩ := List.mem_iff_getElem.1 hs'
    rw [List.length_take] at hq
    have h1 := hrise q (by omega)
    rw [List.getElem_take] at e
    rw [List.getD_eq_getElem?_getD, List.getElem?_eq_getElem (show q < (dif c r n).length by omega)] at h1
    simp only [Option.getD_some] at h1
    rw [e, hs] at h1
    dsimp only at h1 ⊢
    omega
end Cd

set_option maxRecDepth 100000 in
set_option maxHeartbeats 4000000 in
theorem makes_no (p : Int) (x : Option Addr) (n cap : Nat) (xs : List Int) (w : World) (hx : Reads .u64 w w.heap.size x xs) (hn : xs.length = n) (hc : n ≤ cap) (hcm : cap ≤ maxLen) (hw : Words xs) (h46 : n ≤ 46) (he : Cd.fiE p xs ≠ 0) :
    Calls Try.prog 6 #[.int .u64 p, .slice x n cap] w fun e w' => e = .returned (.bool true) ∧ Below w.heap.size w w' := by
  have HV := Lib.hid (live14_any w)
  have d1 : decide ((46 : Int) < (n : Int)) = false := by simp; omega
  have HF := Lib.hid (fun W (hW : Below w.heap.size w W) => kfix_any p x n cap xs W (hx.later hW) hn hc hcm hw)
  obtain ⟨e1, e2⟩ := Cd.fi_none he
  rw [e1, e2] at HF
  have hne : (Cd.fiE p xs != 0) = true := by rw [bne_iff_ne]; exact he
  generalize Cd.fiE p xs = er at HF hne
  clear hx hn hw he e1 e2 hc hcm
  go_enter Try.func6, Try.ntmps6
  go_wp2_with (first
    | (go_at_call 10; refine HV.out.mono ?_; rintro e w1 ⟨rfl, hb1⟩; have B1 := Lib.hid hb1; clear hb1 HV)
    | (go_at_call 17; refine (HF.out _ B1.out).mono ?_; rintro e w2 hr; obtain ⟨x2, c2, y2, d2, rfl, -, -, -, -, hB⟩ := hr.open (n := 0) (m := 0) rfl rfl; have B2 := Lib.hid (below_on' B1.out hB); clear hr hB))
  go_ret
  exact ⟨rfl, B2.out⟩

set_option maxRecDepth 100000 in
set_option maxHeartbeats 16000000 in
theorem makes_ok (p : Int) (x : Option Addr) (n cap : Nat) (L : List Int) (w : World) (hx : Reads .u64 w w.heap.size x L) (hs : Src .u64 w x n cap L) (hc : n ≤ cap) (hcm : cap ≤ maxLen) (hw : Words L) (h46 : n ≤ 46) (he : Cd.fiE p L = 0) :
    Calls Try.prog 6 #[.int .u64 p, .slice x n cap] w fun e w' => e = .returned (.bool true) ∧ Below w.heap.size w w' := by
  have HV := Lib.hid (live14_any w)
  have hn := hs.1
  have d1 : decide ((46 : Int) < (n : Int)) = false := by simp; omega
  obtain ⟨i0, hi, hz0, hz1, hz2⟩ := info_parts info_u64
  obtain ⟨h0, h1', ys, hmn⟩ := Cd.fi_zero he
  obtain ⟨k1, k2, -, k4, k5⟩ := Cd.fi_some h0 h1' hmn
  obtain ⟨hkn, h7, -⟩ := Cd.lnE_zero.1 h0
  obtain ⟨few1, few2⟩ := Cd.fix_few he
  rw [hn] at h0 h7 k2 k5 few1 few2
  have HF1 := Lib.hid (fun W (hW : Below w.heap.size w W) => kfix_any p x n cap L W (hx.later hW) hn hc hcm hw)
  rw [he, k4, k5] at HF1
  rw [k5] at few1 few2
  obtain ⟨T, hT⟩ : ∃ T, T = Cd.cw p ys := ⟨_, rfl⟩
  have hlT : T.length = n := by rw [hT, Cd.cw_len]; omega
  have hwys : Words ys := by
    obtain ⟨-, ⟨rfl, -⟩ | ⟨-, i, -, rfl⟩⟩ := Cd.mn_some hmn
    · intro j
      by_cases hj : j < n - 6
      · have : (Cd.hd L).getD j 0 = L.getD j 0 := by unfold Cd.hd; rw [List.getD_eq_getElem?_getD, List.getElem?_take, if_pos (by omega), ← List.getD_eq_getElem?_getD]
        rw [this]; exact hw j
      · rw [List.getD_eq_getElem?_getD, List.getElem?_eq_none (by omega)]; simp
    · refine Words.put (fun j => ?_) i (Cd.nx_bd hkn _ _ _).1 (by have := Cd.nx_bd hkn (Cd.hd L) (wd (Cd.tl L) 0) i; have := Fp.kn_bd hkn; omega)
      have hl := Cd.hd_len L
      by_cases hj : j < n - 6
      · have : (Cd.hd L).getD j 0 = L.getD j 0 := by unfold Cd.hd; rw [List.getD_eq_getElem?_getD, List.getElem?_take, if_pos (by omega), ← List.getD_eq_getElem?_getD]
        rw [this]; exact hw j
      · rw [List.getD_eq_getElem?_getD, List.getElem?_eq_none (by omega)]; simp
  have hwT : Words T := by rw [hT]; exact cw_words hkn hwys
  obtain ⟨f1, f2, f3, f4⟩ := Cd.cw_fix k1
  rw [← hT] at HF1 f1 f2 f3 f4 few1 few2
  have HF2 := Lib.hid (fun W x c (hr : Reads .u64 W W.heap.size x T) hc hm => kfix_any p x n c T W hr hlT hc hm hwT)
  rw [f1, f2, f3] at HF2
  have HLk := Lib.hid (fun W x c (hr : Reads .u64 W W.heap.size x T) hc hm => klook_any p x n c T W hr hlT hc hm hwT)
  rw [f4, h0] at HLk
  have S2 := Lib.hid (fun W x y c c' (hx : Reads .u64 W W.heap.size x T) (hy : Reads .u64 W W.heap.size y T) => sameW_any x y n n c c' T T W W.heap.size hx hy hlT hlT (by omega) (by omega))
  rw [decide_eq_true rfl] at S2
  obtain ⟨X, hX⟩ : ∃ X, X = Cd.dif L T n := ⟨_, rfl⟩
  have HM : Hid (mend L X = T) := Lib.hid (by rw [hX]; exact Cd.mend_dif hn hlT)
  have HF : Hid (∀ k, k < X.length → ∃ (a : Nat) (b g : Int), X.getD k noFx = ⟨(a : Int), b, g⟩ ∧ a < n ∧ Cd.lastAd X k < (a : Int) ∧ -1 ≤ Cd.lastAd X k ∧ (mend L (X.take k)).getD a 0 = b ∧ b ≠ g) := Lib.hid (fun k hk => by rw [hX] at hk ⊢; exact Cd.dif_here hn hk)
  have hXl : X.length ≤ 46 := by rw [hX]; have := Cd.dif_len L T n; omega
  obtain ⟨m, hm⟩ : ∃ m : Nat, m = n - 6 := ⟨_, rfl⟩
  have hzm : (n : Int) - 6 = (m : Int) := by omega
  rw [← hX] at HF1 few1 few2
  rw [← hm] at few1 few2
  have HFew : Hid (Cd.cnt X m X.length ≤ 1 ∧ X.length ≤ Cd.cnt X m X.length + 2) := Lib.hid (by rw [Cd.cnt_all]; exact ⟨few1, few2⟩)
  have HCn := Lib.hid (fun k h a ha => Cd.cnt_next X m k h (a := a) ha)
  have HC0 := Lib.hid (Cd.cnt_zero X m)
  have HCl := Lib.hid (Cd.cnt_le X m)
  have HSL := Lib.hid (fun W (hB : Below w.heap.size w W) => hs.keep hB)
  obtain ⟨nx, hnx⟩ : ∃ nx, X.length = nx := ⟨_, rfl⟩
  have HX := Lib.hid hnx
  have HT := Lib.hid hlT
  have HN := Lib.hid hn
  have hnxb : nx ≤ 46 := by omega
  clear hx hs hn he h0 h1' hmn k1 k2 k4 k5 hkn few1 few2 hw hT hlT hwys hwT f1 f2 f3 f4 hX hXl hnx hm
  generalize Cd.cnt X m = cn at HFew HCn HC0 HCl
  go_enter Try.func6, Try.ntmps6
  go_wp2_with (first
    | (go_at_call 10; refine HV.out.mono ?_; rintro e w1 ⟨rfl, hb1⟩; have B1 := Lib.hid hb1; clear hb1 HV)
    | (go_at_call 17; refine (HF1.out w1 B1.out).mono ?_; rintro e w2 hr; obtain ⟨xa, ca, ya, da, rfl, hO, hca, hma, hR, hB⟩ := hr.open HT.out HX.out; have B2 := Lib.hid (below_on' B1.out hB); have OA := Lib.hid hO; have QA := Lib.hid (And.intro hca hma); have RX := Lib.hid hR; clear hr hB hO hR hca hma HF1 B1)
    | (at_builtin; refine wpList_copy_new rfl _ _ 23 rfl 22 i0 .u64 8 Try.underlying23 hi hz0 hz1 hz2 _ n cap L rfl rfl (HSL.out _ B2.out) (by unfold maxLen; omega) (by omega) ?_; intro v4 w4 hO4 hB4; obtain ⟨xc, cc, rfl, hcc1, hcc2, -, -⟩ := hO4.form; rw [HN.out] at hO4 hcc1 ⊢; have T4 := Lib.hid hB4; have O4 := Lib.hid hO4; have HQ := Lib.hid (And.intro hcc1 hcc2); clear hO4 hB4 hcc1 hcc2))
  go_loopw [9, 10, 42] (fun v c i wr => ∃ (k : Nat) (la o : Int), k ≤ nx ∧ i = .int .i64 (k : Int) ∧ v = .int .i64 la ∧ c = .int .i64 o ∧ Hid (la = Cd.lastAd X k) ∧ Hid (o = ((cn k : Nat) : Int)) ∧ Hid (Owns .u64 22 wr w2.heap.size (.slice xc n cc) (mend L (X.take k)) ∧ Below w2.heap.size w2 wr)) (fun _ _ i _ => nx - (intOf i).toNat)
  case atStart => exact ⟨0, _, 0, Nat.zero_le _, rfl, rfl, rfl, Lib.hid rfl, Lib.hid (by rw [HC0.out]; rfl), Lib.hid ⟨O4.out, T4.out⟩⟩
  case round =>
    clear T4 O4
    obtain ⟨k, la, o, hk, rfl, rfl, rfl, HLa, HOc, HI⟩ := hrel
    by_cases hlt : k < nx
    · obtain ⟨a, b, g, hs, ha, h1, h2, h4, h5⟩ := HF.out k (by have := HX.out; omega)
      obtain ⟨bz, oz, rfl, -, hcz⟩ := (RX.out.since HI.out.2) (by have := HX.out; omega)
      have hcu := hcz k (by have := HX.out; omega)
      rw [hs] at hcu
      have hML : (mend L (X.take k)).length = n := by rw [mend_len, HN.out]
      obtain ⟨x', c', e', -, -, -, hf⟩ := HI.out.1.form
      simp only [Value.slice.injEq] at e'
      obtain ⟨rfl, -, rfl⟩ := e'
      obtain ⟨gc, rfl, hg1, hg2⟩ := hf (by omega)
      have hca := HI.out.1.num hML (j := a) ha
      have hfa := HI.out.1.melt hML a
      rw [h4] at hca
      have HMD : Hid (mend L (X.take (k + 1)) = (mend L (X.take k)).set a g) := Lib.hid (by rw [Cd.fix_take X k (by have := HX.out; omega), mend_snoc, hs, Int.toNat_natCast])
      have HLn : Hid ((a : Int) = Cd.lastAd X (k + 1)) := Lib.hid (by rw [Cd.lastAd_next, hs])
      have HCn1 := Lib.hid (HCn.out k (by have := HX.out; omega) a (by rw [hs]))
      rw [← HLa.out] at h1 h2
      have t1 : decide ((a : Int) ≤ la) = false := by simp; omega
      have t2 : decide (n ≤ a) = false := by simp; omega
      have t3' : (b == g) = false := by simpa using h5
      have hob : 0 ≤ o ∧ o ≤ (k : Int) := by have := HOc.out; have := HCl.out k; omega
      obtain ⟨hob0, hob1⟩ := hob
      have hBx := below_al (Below.refl _ wr) (fxO ⟨(a : Int), b, g⟩)
      have HB6 := Lib.hid (below_al HI.out.2 (fxO ⟨(a : Int), b, g⟩))
      have HO6 := Lib.hid (HI.out.1.alloc (fxO ⟨(a : Int), b, g⟩))
      have hca6 := (hBx.cell (p := ⟨gc, a, none⟩) hg2).trans hca
      have hfa6 := (hBx.frozen (p := ⟨gc, a, none⟩) hg2).trans hfa
      have HG := Lib.hid hg1
      have HML := Lib.hid hML
      have hne : ¬ wr.heap.size = gc := by omega
      have hne' : ¬ gc = wr.heap.size := by omega
      obtain ⟨q0, q1, q2⟩ := hcu
      unfold fxO at HB6 HO6 hca6 hfa6
      dsimp only at q0 q1 q2 HB6 HO6 hca6 hfa6
      have ha' : (a : Int) < (n : Int) := by omega
      clear hcz hs h4 h5 hf hML hBx hca hfa hg1 hg2 HI HLa h1
      go_wp2
      obtain ⟨W6, hW6⟩ : ∃ W6, W6 = wr.alloc (.cells #[.int .i64 (a : Int), .int .u64 b, .int .u64 g] 43) := ⟨_, rfl⟩
      have s0 : W6.cell? ⟨wr.heap.size, 0, none⟩ = some (.int .i64 (a : Int)) := by rw [hW6]; simp
      have s1 : W6.cell? ⟨wr.heap.size, 1, none⟩ = some (.int .u64 b) := by rw [hW6]; simp
      have s2 : W6.cell? ⟨wr.heap.size, 2, none⟩ = some (.int .u64 g) := by rw [hW6]; simp
      rw [← hW6] at HB6 HO6 hca6 hfa6 ⊢
      clear hW6 q0 q1 q2
      go_quiet (fail)
      have s3 : ((W6.drewN nq).setCell ⟨gc, a, none⟩ (.int .u64 g)).cell? ⟨wr.heap.size, 0, none⟩ = some (.int .i64 (a : Int)) := by
        rw [World.cell?_of_block (w := W6.drewN nq) (Below.heap_setCell _ _ _ _ (by exact hne))]
        exact s0
      by_cases ham : a < m
      · have t4 : decide (a < m) = true := by simpa using ham
        rw [if_pos ham] at HCn1
        clear ham
        go_wp2
        go_roundw
        case rel => exact ⟨k + 1, _, o + 1, by omega, by go_num, rfl, by go_num, HLn, Lib.hid (by have := HOc.out; have := HCn1.out; omega), Lib.hid ⟨by rw [HMD.out]; exact (HO6.out.draws nq).put HML.out a g, (below_draws HB6.out nq).setCell (p := ⟨gc, a, none⟩) HG.out _⟩⟩
        case measure => simp [intOf]; omega
      · have t4 : decide (a < m) = false := by simpa using ham
        rw [if_neg ham] at HCn1
        clear ham
        go_wp2
        go_roundw
        case rel => exact ⟨k + 1, _, o, by omega, by go_num, rfl, rfl, HLn, Lib.hid (by have := HOc.out; have := HCn1.out; omega), Lib.hid ⟨by rw [HMD.out]; exact (HO6.out.draws nq).put HML.out a g, (below_draws HB6.out nq).setCell (p := ⟨gc, a, none⟩) HG.out _⟩⟩
        case measure => simp [intOf]; omega
    · obtain rfl : k = nx := by omega
      have hke : X.take k = X := List.take_of_length_le (by have := HX.out; omega)
      have hO := HI.out.1
      rw [hke, HM.out] at hO
      have OC := Lib.hid hO
      have BW := Lib.hid HI.out.2
      have BR := Lib.hid (below_on' B2.out HI.out.2)
      have hfew := HFew.out
      rw [HX.out] at hfew
      have hob : 0 ≤ o ∧ o ≤ 1 ∧ (k : Int) - o ≤ 2 := by have := HOc.out; omega
      obtain ⟨hob0, hob1, hob2⟩ := hob
      have t1 : decide (o ≤ 1) = true := by simpa using hob1
      have t2 : decide ((k : Int) - o ≤ 2) = true := by simpa using hob2
      clear hke hO HI HLa HF HM RX hfew HFew
      go_wp2_with (first
        | (go_at_call 15; refine (HLk.out wr xa ca (OA.out.rd.later BW.out) QA.out.1 QA.out.2).mono ?_; rintro e w6 ⟨rfl, hB⟩; have T6 := Lib.hid (below_on' BW.out hB); have U6 := Lib.hid hB; clear hB)
        | (go_at_call 17; refine (HF2.out w6 xa ca (OA.out.rd.later T6.out) QA.out.1 QA.out.2).mono ?_; rintro e w7 hr; obtain ⟨x7, c7, y7, d7, rfl, hO, -, -, -, hB⟩ := hr.open HT.out (m := 0) rfl; have T7 := Lib.hid (below_on' T6.out hB); have U7 := Lib.hid (below_on' U6.out hB); have O7 := Lib.hid hO; clear hr hB hO)
        | (go_at_call_of 19 (Value.slice x7 n c7); refine (S2.out w7 x7 xa c7 ca O7.out.rd (OA.out.rd.later T7.out)).mono ?_; rintro e w8 ⟨rfl, nd, rfl⟩)
        | (go_at_call 19; refine (S2.out (w7.drewN nd) xc xa cc ca ((OC.out.rd.later U7.out).draws nd) ((OA.out.rd.later T7.out).draws nd)).mono ?_; rintro e w9 ⟨rfl, nd2, rfl⟩))
      go_ret
      exact ⟨rfl, below_draws (below_on' B2.out T7.out) _⟩

set_option maxRecDepth 100000 in
set_option maxHeartbeats 1000000 in
theorem walk_CodeMakes (p : Int) (x : Option Addr) (n cap : Nat) (zs : List Int) (w : World) (_hp : (Lit.int .u64 p).wf = true) (r : RowIn .u64 w x n cap zs) :
    Calls Try.prog 6 #[.int .u64 p, .slice x n cap] w fun e w' => e = .returned (.bool true) ∧ Below w.heap.size w w' := by
  have s := r.src
  obtain ⟨L, hL, hn, hc, hcm, hx, hw⟩ := r.reads
  rw [← hL] at s
  by_cases h : n ≤ 46
  · by_cases he : Cd.fiE p L = 0
    · exact makes_ok p x n cap L w hx s hc hcm hw h he
    · exact makes_no p x n cap L w hx hn hc hcm hw h he
  · have d1 : decide ((46 : Int) < (n : Int)) = true := by simp; omega
    have HV := Lib.hid (live14_any w)
    clear r s hL hn hc hcm hx hw
    go_enter Try.func6, Try.ntmps6
    go_wp2_with (go_at_call 10; refine HV.out.mono ?_; rintro e w1 ⟨rfl, hb1⟩)
    go_ret
    exact ⟨rfl, hb1⟩

end Go.Proofs.Ytpdiilfpbkmebaa
