/-
  The walk of the law PlanBack: it returns true for every prime, all axes, either way, all words; nothing that was there is written.
-/
import Derived.Test.YtlbfllaaabginaaDoorLawPlanWhole
import Derived.Test.YtlbfllaaabginaaDoorLawPlanDoes
import Derived.Test.YtlbfllaaabginaaDoorSpApp
import Derived.Deep.CutRange
namespace Go.Proofs.YtlbfllaaabginaaDoor
open Go.RowKit

namespace Stp
/-- What has become of the words when j of the steps L1, and then of the steps L2, are done. -/
def cur (p : Int) (xa : List Ax) (inv : Bool) (L1 L2 : List Sp) (xs : List Int) (j : Nat) : List Int := goS p xa (!inv) (L2.take (j - L1.length)) (goS p xa inv (L1.take j) xs)
section
variable {p : Int} {xa : List Ax} {inv : Bool} {L1 L2 : List Sp} {xs : List Int} {j : Nat}
theorem cur_zero : cur p xa inv L1 L2 xs 0 = xs := by unfold cur; simp [goS]
theorem cur_len : (cur p xa inv L1 L2 xs j).length = xs.length := by unfold cur; rw [goS_len, goS_len]
theorem cur_nums (hk : Fp.kn p = true) (hx : Nums p xs) : Nums p (cur p xa inv L1 L2 xs j) := by unfold cur; exact goS_nums hk _ _ _ _ (goS_nums hk _ _ _ _ hx)
theorem cur_there (h : j < L1.length) : cur p xa inv L1 L2 xs (j + 1) = stp p xa inv (L1.getD j noSp) (cur p xa inv L1 L2 xs j) := by
  unfold cur
  rw [show j + 1 - L1.length = 0 by omega, show j - L1.length = 0 by omega, take_more L1 noSp j h, goS_snoc]
  rfl
theorem cur_back (h : L1.length ≤ j) (h2 : j - L1.length < L2.length) : cur p xa inv L1 L2 xs (j + 1) = stp p xa (!inv) (L2.getD (j - L1.length) noSp) (cur p xa inv L1 L2 xs j) := by
  unfold cur
  rw [show j + 1 - L1.length = (j - L1.length) + 1 by omega, take_more L2 noSp _ h2, goS_snoc, List.take_of_length_le (by omega : L1.length ≤ j + 1), List.take_of_length_le h]
theorem cur_end : cur p xa inv L1 L2 xs (L1.length + L2.length) = goS p xa (!inv) L2 (goS p xa inv L1 xs) := by
  unfold cur
  rw [List.take_of_length_le (by omega : L1.length ≤ L1.length + L2.length), show L1.length + L2.length - L1.length = L2.length by omega, List.take_length]
end
end Stp

theorem getD_two {α : Type} (a b : List α) (d : α) (j : Nat) : (a ++ b).getD j d = if j < a.length then a.getD j d else b.getD (j - a.length) d := by
  split
  · rename_i h
    rw [List.getD_eq_getElem?_getD, List.getElem?_append_left h, List.getD_eq_getElem?_getD]
  · rename_i h
    rw [List.getD_eq_getElem?_getD, List.getElem?_append_right (by omega), List.getD_eq_getElem?_getD]

set_option maxRecDepth 100000 in
set_option maxHeartbeats 8000000 in
theorem planback_yes (HP : PlanHas Gl) (H : StepHas Gl) (p : Int) (x : Option Addr) (n cap : Nat) (xa : List Ax) (inv : Bool) (y : Option Addr) (m cap' : Nat) (xs : List Int) (w : World) (hG : Gl w) (hx : ReadsA w w.heap.size x xa) (hn : xa.length = n) (hlb : n ≤ 8796093022208)
    (hy : Reads .u64 w w.heap.size y xs) (hm : xs.length = m) (hw : Words xs) (hml : m ≤ maxLen) (hl : m ≤ 50) (hA : Axes p xa) (HFew : Hid (∀ W, Below w.heap.size w W → Calls Tryd.prog 12 #[.slice x n cap, .int .i64 40] W (RetB (.bool true) W))) :
    Calls Tryd.prog 6 #[.int .u64 p, .slice x n cap, .bool inv, .slice y m cap'] w fun e w' => e = .returned (.bool true) ∧ Below w.heap.size w w' := by
  have d1 : decide (50 < (m : Int)) = false := by simp; omega
  have HV := Lib.hid (live17_any HP _ hG)
  have HSt0 := Lib.hid (fun (iv : Bool) W (hB : Below w.heap.size w W) => HP.steps p x n cap xa iv W (HP.keep hG hB) ((hx.below hB).more hB.size) hn hlb)
  have e0 : ∀ iv, Stp.plL p xa iv = Stp.plS xa iv xa.length := fun iv => by unfold Stp.plL; rw [if_pos hA.zero]
  have HSt : Hid (∀ (iv : Bool) W, Below w.heap.size w W → Calls Tryd.prog 13 #[.int .u64 p, .slice x n cap, .bool iv] W (RetSs W (Stp.plS xa iv xa.length) 0)) := Lib.hid (fun iv W hB => by
    have := HSt0.out iv W hB
    rwa [hA.zero, e0] at this)
  have h4 : xa.length ≤ 4 := by have := hA.ok.four; rwa [szs_len] at this
  have hp1 : (Stp.plS xa inv xa.length).length ≤ 100 := by have := Stp.plS_len (inv := inv) hA (Nat.le_refl xa.length); omega
  have hp2 : (Stp.plS xa (!inv) xa.length).length ≤ 100 := by have := Stp.plS_len (inv := !inv) hA (Nat.le_refl xa.length); omega
  have HM1 := Lib.hid (list_mem (Stp.plS xa inv xa.length) noSp)
  have HM2 := Lib.hid (list_mem (Stp.plS xa (!inv) xa.length) noSp)
  have hS1 := HSt.out inv
  have hS2 := HSt.out (!inv)
  have HY := Lib.hid hy
  -- what a step does to the words so far, or why it is refused
  by_cases hg : wordsE p xa xs = 0
  · have hGr := wordsE_zero hg
    have hxn := Stp.grid_nums hGr hw
    have hkn := hA.kn
    have HDo := Lib.hid (fun iv s z c ys W => Stp.plan_do (cap := cap) H hG hx hn hlb hA (hm.symm.trans hGr.len) hml iv s z c ys W)
    have HD1 : Hid (∀ (s : Sp) (z : Option Addr) (c : Nat) (ys : List Int) (W : World), s ∈ Stp.plS xa inv xa.length → Below w.heap.size w W → Reads .u64 W W.heap.size z ys → ys.length = m → Stp.Nums p ys →
      Calls Tryd.prog 26 #[.int .u64 p, .slice x n cap, .bool inv, spV s, .slice z m c] W (LineRet W (Stp.stp p xa inv s ys) 0)) := Lib.hid (fun s z c ys W => HDo.out inv s z c ys W)
    have HD2 : Hid (∀ (s : Sp) (z : Option Addr) (c : Nat) (ys : List Int) (W : World), s ∈ Stp.plS xa (!inv) xa.length → Below w.heap.size w W → Reads .u64 W W.heap.size z ys → ys.length = m → Stp.Nums p ys →
      Calls Tryd.prog 26 #[.int .u64 p, .slice x n cap, .bool (!inv), spV s, .slice z m c] W (LineRet W (Stp.stp p xa (!inv) s ys) 0)) := Lib.hid (fun s z c ys W => HDo.out (!inv) s z c ys W)
    have hEnd := (Stp.cur_end (p := p) (xa := xa) (inv := inv) (L1 := Stp.plS xa inv xa.length) (L2 := Stp.plS xa (!inv) xa.length) (xs := xs)).trans (Stp.go_back hGr hw (Nat.le_refl xa.length))
    generalize Stp.plS xa inv xa.length = L1 at hS1 HD1 hEnd hp1 HM1
    generalize Stp.plS xa (!inv) xa.length = L2 at hS2 HD2 hEnd hp2 HM2
    have HLen : Hid (∀ j, (Stp.cur p xa inv L1 L2 xs j).length = m) := Lib.hid (fun j => by rw [Stp.cur_len, hm])
    have HNum : Hid (∀ j, Stp.Nums p (Stp.cur p xa inv L1 L2 xs j)) := Lib.hid (fun j => Stp.cur_nums hkn hxn)
    have HC1 : Hid (∀ j, j < L1.length → Stp.cur p xa inv L1 L2 xs (j + 1) = Stp.stp p xa inv (L1.getD j noSp) (Stp.cur p xa inv L1 L2 xs j)) := Lib.hid (fun j h => Stp.cur_there h)
    have HC2 : Hid (∀ j, L1.length ≤ j → j - L1.length < L2.length → Stp.cur p xa inv L1 L2 xs (j + 1) = Stp.stp p xa (!inv) (L2.getD (j - L1.length) noSp) (Stp.cur p xa inv L1 L2 xs j)) := Lib.hid (fun j h h2 => Stp.cur_back h h2)
    have HC0 : Hid (Stp.cur p xa inv L1 L2 xs 0 = xs) := Lib.hid Stp.cur_zero
    generalize Stp.cur p xa inv L1 L2 xs = cr at HLen HNum HC1 HC2 HC0 hEnd
    have HEnd := Lib.hid hEnd
    obtain ⟨m1, hm1⟩ : ∃ m1, m1 = L1.length := ⟨_, rfl⟩
    obtain ⟨m2, hm2⟩ : ∃ m2, m2 = L2.length := ⟨_, rfl⟩
    have HQ1 := Lib.hid hm1
    have HQ2 := Lib.hid hm2
    rw [← hm1] at hp1
    rw [← hm2] at hp2
    obtain ⟨q, hq⟩ : ∃ q, q = m1 + m2 := ⟨_, rfl⟩
    have HQ : Hid ((L1 ++ L2).length = q) := Lib.hid (by rw [List.length_append, hq, hm1, hm2])
    have HQs := Lib.hid hq
    have hq2 : q ≤ 200 := by omega
    have HXm := Lib.hid hm
    clear hq hy hG hw hm hn hml H HP hGr hx hA hkn hxn h4 e0 hm1 hm2 hEnd hg HDo HSt HSt0
    have HS1 := Lib.hid hS1
    have HS2 := Lib.hid hS2
    clear hS1 hS2
    cases inv
    all_goals
      simp only [Bool.not_false, Bool.not_true] at HS2 HD2 HC2
      go_enter Tryd.func6, Tryd.ntmps6
      go_upto_region 10 with (first
        | (go_at_call 11; refine HV.out.mono ?_; rintro e w1 ⟨rfl, b1⟩; have B1 := Lib.hid b1; clear b1)
        | (go_at_call 12; refine (HFew.out _ B1.out).mono ?_; rintro e w2 ⟨rfl, b2⟩; have B2 := Lib.hid (below_then B1.out b2); clear b2)
        | (go_at_call 13; refine (HS1.out _ B2.out).mono ?_; rintro e w3 ⟨v, rfl, hO, b3⟩; obtain ⟨xl, cl, rfl, hsr, hrl, hbl⟩ := hO.src; have S1 := Lib.hid (And.intro hsr hbl); have R1 := Lib.hid hrl; have B3 := Lib.hid (below_then B2.out b3); rw [← HQ1.out] at S1 ⊢; clear b3 hO hrl hsr hbl B2)
        | (go_at_call 13; refine (HS2.out _ B3.out).mono ?_; rintro e w4 ⟨v, rfl, hO, b4⟩; obtain ⟨xl2, cl2, rfl, hsr, hrl, hbl⟩ := hO.src; have S2 := Lib.hid (And.intro hsr hbl); have B4 := Lib.hid (below_then B3.out b4); have S1' := Lib.hid (S1.out.1.below (fun ad e => (S1.out.2 ad e).2) b4); have Z4 := Lib.hid b4.size; rw [← HQ2.out] at S2 ⊢; clear b4 hO hrl hsr hbl))
      go_wp2_with (first
        | (at_builtin; refine wpList_append_sps rfl _ _ rfl w4.heap.size _ [] rfl OwnsP.nil xl m1 cl L1 rfl S1'.out (by simp; omega) (Nat.le_refl _) ?_; intro v5 w5 hO5 hg5; have O5 := Lib.hid hO5; have B5 := Lib.hid ((Below.refl w4.heap.size w4).grown hg5 (Nat.le_refl _) (fun g e => by cases e)); have S2' := Lib.hid (S2.out.1.below (fun ad e => (S2.out.2 ad e).2) B5.out); clear hO5 hg5)
        | (at_builtin; refine wpList_append_sps rfl _ _ rfl w4.heap.size _ _ rfl O5.out xl2 m2 cl2 L2 rfl S2'.out (by have := HQ1.out; simp; omega) B5.out.size ?_; intro v6 w6 hO6 hg6; have B6 := Lib.hid (below_then B4.out (B5.out.grown hg6 B5.out.size (fun g e => (O5.out.inside e).1))); obtain ⟨x6, c6, rfl, -, -, hr6⟩ := hO6.form; have R6 := Lib.hid hr6; simp only [List.nil_append] at R6 ⊢; rw [HQ.out]; clear hO6 hg6 hr6))
      go_loopw [13, 67] (fun v i wr => ∃ (j : Nat) (z : Option Addr) (c : Nat), j ≤ q ∧ i = .int .i64 (j : Int) ∧ v = .slice z m c ∧ Hid (Reads .u64 wr wr.heap.size z (cr j)) ∧ Hid (Below w6.heap.size w6 wr)) (fun _ i _ => q - (intOf i).toNat)
      case atStart =>
        refine ⟨0, _, _, Nat.zero_le _, rfl, rfl, Lib.hid ?_, Lib.hid (Below.refl _ _)⟩
        rw [HC0.out]
        exact (HY.out.below B6.out).more B6.out.size
      case round =>
        obtain ⟨j, z, c, hj, rfl, rfl, HR, HBr⟩ := hrel
        by_cases hlj : j < q
        · have hdj : decide (j < q) = true := by simpa using hlj
          obtain ⟨bs, os, rfl, hbs, hcs⟩ := R6.out (by rw [HQ.out]; omega)
          obtain ⟨s0, s1, s2, s3, s4⟩ := hcs j (by rw [HQ.out]; exact hlj)
          have k0 := (HBr.out.cell (p := ⟨bs, os + j * 5, none⟩) hbs).trans s0
          have k1 := (HBr.out.cell (p := ⟨bs, os + j * 5 + 1, none⟩) hbs).trans s1
          have k2 := (HBr.out.cell (p := ⟨bs, os + j * 5 + 2, none⟩) hbs).trans s2
          have k3 := (HBr.out.cell (p := ⟨bs, os + j * 5 + 3, none⟩) hbs).trans s3
          have k4 := (HBr.out.cell (p := ⟨bs, os + j * 5 + 4, none⟩) hbs).trans s4
          have HGt := Lib.hid (getD_two L1 L2 noSp j)
          obtain ⟨t, ht⟩ : ∃ t, t = (L1 ++ L2).getD j noSp := ⟨_, rfl⟩
          have HTt := Lib.hid ht
          rw [← ht] at k0 k1 k2 k3 k4 HGt
          clear ht hcs s0 s1 s2 s3 s4
          by_cases h1 : j < m1
          · have h1' : j < L1.length := by rw [← HQ1.out]; exact h1
            have e1 := HGt.out
            rw [if_pos h1'] at e1
            have HN := Lib.hid (HC1.out j h1')
            have hin := HM1.out j h1'
            rw [← e1] at hin HN
            have HIn := Lib.hid hin
            have hd1 : decide (j < m1) = true := by simpa using h1
            clear e1 hin h1' HGt HTt h1
            obtain ⟨sa, sw, sr, sl, sm⟩ := t
            dsimp only at k0 k1 k2 k3 k4
            go_upto_region 13 with fail
            have SA := Lib.hid (SpAt.new wr 49 ⟨sa, sw, sr, sl, sm⟩)
            have HB3 := Lib.hid (below_al HBr.out (.cells #[.int .i64 sa, .bool sw, .int .i64 sr, .int .i64 sl, .int .i64 sm] 49))
            have HR3 := Lib.hid ((HR.out.below (below_al (Below.refl _ wr) (.cells #[.int .i64 sa, .bool sw, .int .i64 sr, .int .i64 sl, .int .i64 sm] 49))).more (below_al (Below.refl _ wr) (.cells #[.int .i64 sa, .bool sw, .int .i64 sr, .int .i64 sl, .int .i64 sm] 49)).size)
            dsimp only at SA
            obtain ⟨W3, hW3⟩ : ∃ W3, W3 = wr.alloc (.cells #[.int .i64 sa, .bool sw, .int .i64 sr, .int .i64 sl, .int .i64 sm] 49) := ⟨_, rfl⟩
            rw [← hW3] at SA HB3 HR3 ⊢
            obtain ⟨q0, q1, q2, q3, q4⟩ := SA.out
            dsimp only at q0 q1 q2 q3 q4
            clear hW3 k0 k1 k2 k3 k4
            have HD3 := Lib.hid (HD1.out ⟨sa, sw, sr, sl, sm⟩ z c _ W3 HIn.out (below_then B6.out HB3.out) HR3.out (HLen.out _) (HNum.out _))
            rw [← HN.out] at HD3
            unfold spV at HD3
            dsimp only at HD3
            go_wp2_with (go_at_call 26; refine HD3.out.mono ?_; rintro e w7 ⟨v, rfl, hO, b7⟩; obtain ⟨y7, c7, rfl, -, -, hr7, -⟩ := hO.form; have R7 := Lib.hid hr7; have B7 := Lib.hid (below_then HB3.out b7); rw [HLen.out]; clear b7 hO hr7)
            go_roundw
            case rel => exact ⟨j + 1, _, _, by omega, by go_num, rfl, R7, B7⟩
            case measure => simp [intOf]; omega
          · have h1' : ¬ j < L1.length := by rw [← HQ1.out]; exact h1
            have e1 := HGt.out
            rw [if_neg h1'] at e1
            have h2' : j - L1.length < L2.length := by rw [← HQ1.out, ← HQ2.out]; have := HQs.out; omega
            have HN := Lib.hid (HC2.out j (by omega) h2')
            have hin := HM2.out _ h2'
            rw [← e1] at hin HN
            have HIn := Lib.hid hin
            have hd1 : decide (j < m1) = false := by simpa using h1
            clear e1 hin h1' h2' HGt HTt h1
            obtain ⟨sa, sw, sr, sl, sm⟩ := t
            dsimp only at k0 k1 k2 k3 k4
            go_upto_region 13 with fail
            have SA := Lib.hid (SpAt.new wr 49 ⟨sa, sw, sr, sl, sm⟩)
            have HB3 := Lib.hid (below_al HBr.out (.cells #[.int .i64 sa, .bool sw, .int .i64 sr, .int .i64 sl, .int .i64 sm] 49))
            have HR3 := Lib.hid ((HR.out.below (below_al (Below.refl _ wr) (.cells #[.int .i64 sa, .bool sw, .int .i64 sr, .int .i64 sl, .int .i64 sm] 49))).more (below_al (Below.refl _ wr) (.cells #[.int .i64 sa, .bool sw, .int .i64 sr, .int .i64 sl, .int .i64 sm] 49)).size)
            dsimp only at SA
            obtain ⟨W3, hW3⟩ : ∃ W3, W3 = wr.alloc (.cells #[.int .i64 sa, .bool sw, .int .i64 sr, .int .i64 sl, .int .i64 sm] 49) := ⟨_, rfl⟩
            rw [← hW3] at SA HB3 HR3 ⊢
            obtain ⟨q0, q1, q2, q3, q4⟩ := SA.out
            dsimp only at q0 q1 q2 q3 q4
            clear hW3 k0 k1 k2 k3 k4
            have HD3 := Lib.hid (HD2.out ⟨sa, sw, sr, sl, sm⟩ z c _ W3 HIn.out (below_then B6.out HB3.out) HR3.out (HLen.out _) (HNum.out _))
            rw [← HN.out] at HD3
            unfold spV at HD3
            dsimp only at HD3
            go_wp2_with (go_at_call 26; refine HD3.out.mono ?_; rintro e w7 ⟨v, rfl, hO, b7⟩; obtain ⟨y7, c7, rfl, -, -, hr7, -⟩ := hO.form; have R7 := Lib.hid hr7; have B7 := Lib.hid (below_then HB3.out b7); rw [HLen.out]; clear b7 hO hr7)
            go_roundw
            case rel => exact ⟨j + 1, _, _, by omega, by go_num, rfl, R7, B7⟩
            case measure => simp [intOf]; omega
        · obtain rfl : j = q := by omega
          have hdj : decide (j < j) = false := by simp
          have e1 : cr j = xs := by rw [HQs.out, HQ1.out, HQ2.out]; exact HEnd.out
          rw [e1] at HR
          have HF := Lib.hid (below_then B6.out HBr.out)
          have HYr := Lib.hid ((HY.out.below HF.out).more HF.out.size)
          clear e1
          go_wp2_with (go_at_call 22; refine (same_self z y m c cap' xs _ wr.heap.size HR.out HYr.out HXm.out (by omega)).mono ?_; rintro e w' ⟨rfl, n6, rfl⟩)
          go_ret
          exact ⟨rfl, below_draws HF.out _⟩
  · have hwE : ∀ s, Stp.Sok p xa s → Stp.wE p xa s xs = wordsE p xa xs ∧ ∀ iv, Stp.wL p xa iv s xs = [] := fun s hs => by
      have e1 : Stp.wE p xa s xs = wordsE p xa xs := by unfold Stp.wE wordsE; rw [hs.zero, hA.zero]
      exact ⟨e1, fun iv => by unfold Stp.wL; rw [e1, if_neg hg]⟩
    have her : wordsE p xa xs = 6 ∨ wordsE p xa xs = 7 := by
      unfold wordsE at hg ⊢
      rw [if_neg (by simp [hA.zero])] at hg ⊢
      split
      · exact .inl rfl
      · split
        · exact .inr rfl
        · rename_i h1 h2
          rw [if_neg h1, if_neg h2] at hg
          exact absurd rfl hg
    have HD : Hid (∀ (iv : Bool) (s : Sp) (W : World), Stp.Sok p xa s → Below w.heap.size w W →
      Calls Tryd.prog 26 #[.int .u64 p, .slice x n cap, .bool iv, spV s, .slice y m cap'] W (LineRet W [] (wordsE p xa xs))) := Lib.hid (fun iv s W hs hB => by
      have := H.doo p x n cap xa iv s y m cap' xs W (H.keep hG hB) ((hx.below hB).more hB.size) hn hlb (hs.in' h4) ((hy.below hB).more hB.size) hm hw hml
      rwa [(hwE s hs).1, (hwE s hs).2] at this)
    have HK1 : Hid (∀ s ∈ Stp.plS xa inv xa.length, Stp.Sok p xa s) := Lib.hid (fun s hs => Stp.plS_ok hA (Nat.le_refl _) hs)
    have HK2 : Hid (∀ s ∈ Stp.plS xa (!inv) xa.length, Stp.Sok p xa s) := Lib.hid (fun s hs => Stp.plS_ok hA (Nat.le_refl _) hs)
    generalize Stp.plS xa inv xa.length = L1 at hS1 hp1 HM1 HK1
    generalize Stp.plS xa (!inv) xa.length = L2 at hS2 hp2 HM2 HK2
    generalize wordsE p xa xs = er at HD her
    have HKs : Hid (∀ j, j < (L1 ++ L2).length → Stp.Sok p xa ((L1 ++ L2).getD j noSp)) := Lib.hid (fun j hj => by
      have := list_mem (L1 ++ L2) noSp j hj
      rcases List.mem_append.1 this with h | h
      · exact HK1.out _ h
      · exact HK2.out _ h)
    obtain ⟨m1, hm1⟩ : ∃ m1, m1 = L1.length := ⟨_, rfl⟩
    obtain ⟨m2, hm2⟩ : ∃ m2, m2 = L2.length := ⟨_, rfl⟩
    have HQ1 := Lib.hid hm1
    have HQ2 := Lib.hid hm2
    rw [← hm1] at hp1
    rw [← hm2] at hp2
    obtain ⟨q, hq⟩ : ∃ q, q = m1 + m2 := ⟨_, rfl⟩
    have HQ : Hid ((L1 ++ L2).length = q) := Lib.hid (by rw [List.length_append, hq, hm1, hm2])
    have hq2 : q ≤ 200 := by omega
    have HXm := Lib.hid hm
    have HS1 := Lib.hid hS1
    have HS2 := Lib.hid hS2
    clear hy hG hw hm hn hml H HP hx hA h4 e0 hm1 hm2 hg HSt HSt0 hq hS1 hS2 hwE HK1 HK2 HM1 HM2
    rcases her with rfl | rfl <;> cases inv
    all_goals
      simp only [Bool.not_false, Bool.not_true] at HS2
      go_enter Tryd.func6, Tryd.ntmps6
      go_upto_region 10 with (first
        | (go_at_call 11; refine HV.out.mono ?_; rintro e w1 ⟨rfl, b1⟩; have B1 := Lib.hid b1; clear b1)
        | (go_at_call 12; refine (HFew.out _ B1.out).mono ?_; rintro e w2 ⟨rfl, b2⟩; have B2 := Lib.hid (below_then B1.out b2); clear b2)
        | (go_at_call 13; refine (HS1.out _ B2.out).mono ?_; rintro e w3 ⟨v, rfl, hO, b3⟩; obtain ⟨xl, cl, rfl, hsr, hrl, hbl⟩ := hO.src; have S1 := Lib.hid (And.intro hsr hbl); have B3 := Lib.hid (below_then B2.out b3); rw [← HQ1.out] at S1 ⊢; clear b3 hO hrl hsr hbl B2)
        | (go_at_call 13; refine (HS2.out _ B3.out).mono ?_; rintro e w4 ⟨v, rfl, hO, b4⟩; obtain ⟨xl2, cl2, rfl, hsr, hrl, hbl⟩ := hO.src; have S2 := Lib.hid (And.intro hsr hbl); have B4 := Lib.hid (below_then B3.out b4); have S1' := Lib.hid (S1.out.1.below (fun ad e => (S1.out.2 ad e).2) b4); rw [← HQ2.out] at S2 ⊢; clear b4 hO hrl hsr hbl))
      go_wp2_with (first
        | (at_builtin; refine wpList_append_sps rfl _ _ rfl w4.heap.size _ [] rfl OwnsP.nil xl m1 cl L1 rfl S1'.out (by simp; omega) (Nat.le_refl _) ?_; intro v5 w5 hO5 hg5; have O5 := Lib.hid hO5; have B5 := Lib.hid ((Below.refl w4.heap.size w4).grown hg5 (Nat.le_refl _) (fun g e => by cases e)); have S2' := Lib.hid (S2.out.1.below (fun ad e => (S2.out.2 ad e).2) B5.out); clear hO5 hg5)
        | (at_builtin; refine wpList_append_sps rfl _ _ rfl w4.heap.size _ _ rfl O5.out xl2 m2 cl2 L2 rfl S2'.out (by have := HQ1.out; simp; omega) B5.out.size ?_; intro v6 w6 hO6 hg6; have B6 := Lib.hid (below_then B4.out (B5.out.grown hg6 B5.out.size (fun g e => (O5.out.inside e).1))); obtain ⟨x6, c6, rfl, -, -, hr6⟩ := hO6.form; have R6 := Lib.hid hr6; simp only [List.nil_append] at R6 ⊢; rw [HQ.out]; clear hO6 hg6 hr6))
      go_loopw [13, 67] (fun v i wr => i = .int .i64 0 ∧ v = .slice y m cap' ∧ wr = w6) (fun _ i _ => 0)
      case atStart => exact ⟨rfl, rfl, rfl⟩
      case round =>
        obtain ⟨rfl, rfl, rfl⟩ := hrel
        by_cases hlj : 0 < q
        · have hdj : decide (0 < q) = true := by simpa using hlj
          have hdj' : decide ((0 : Int) < (q : Int)) = true := by simp; omega
          obtain ⟨bs, os, rfl, hbs, hcs⟩ := R6.out (by rw [HQ.out]; omega)
          obtain ⟨k0, k1, k2, k3, k4⟩ := hcs 0 (by rw [HQ.out]; exact hlj)
          have hok := HKs.out 0 (by rw [HQ.out]; exact hlj)
          rw [Nat.zero_mul, Nat.add_zero] at k0 k1 k2 k3 k4
          generalize (L1 ++ L2).getD 0 noSp = t at k0 k1 k2 k3 k4 hok
          have HB3 := Lib.hid (below_al B6.out (.cells #[.int .i64 t.ax, .bool t.tw, .int .i64 t.st.r, .int .i64 t.st.l, .int .i64 t.st.m] 49))
          have HD3 := Lib.hid (fun iv => HD.out iv t _ hok HB3.out)
          obtain ⟨sa, sw, sr, sl, sm⟩ := t
          unfold spV at HD3
          dsimp only at k0 k1 k2 k3 k4 HB3 HD3
          clear hcs hok
          by_cases h1 : 0 < m1
          all_goals
            first
              | (have hd1 : decide (0 < m1) = true := by simpa using h1
                 have hd1' : decide ((0 : Int) < (m1 : Int)) = true := by simp; omega)
              | (have hd1 : decide (0 < m1) = false := by simpa using h1
                 have hd1' : decide ((0 : Int) < (m1 : Int)) = false := by simp; omega)
            clear h1
            go_wp2_with (go_at_call 26; refine (HD3.out _).mono ?_; rintro e w7 ⟨v, rfl, hO, b7⟩; have B7 := Lib.hid (below_then HB3.out b7); clear b7 hO)
            go_ret
            exact ⟨rfl, B7.out⟩
        · have hdj : decide (0 < q) = false := by simpa using hlj
          have hdj' : decide ((0 : Int) < (q : Int)) = false := by simp; omega
          have HYr := Lib.hid ((HY.out.below B6.out).more B6.out.size)
          go_wp2_with (go_at_call 22; refine (same_self y y m cap' cap' xs _ wr.heap.size HYr.out HYr.out HXm.out (by omega)).mono ?_; rintro e w' ⟨rfl, n6, rfl⟩)
          go_ret
          exact ⟨rfl, below_draws B6.out _⟩

set_option maxRecDepth 100000 in
set_option maxHeartbeats 4000000 in
theorem planback_any (HP : PlanHas Gl) (H : StepHas Gl) (p : Int) (x : Option Addr) (n cap : Nat) (xa : List Ax) (inv : Bool) (y : Option Addr) (m cap' : Nat) (xs : List Int) (w : World) (hG : Gl w) (hx : ReadsA w w.heap.size x xa) (hn : xa.length = n) (hlb : n ≤ 8796093022208)
    (hy : Reads .u64 w w.heap.size y xs) (hm : xs.length = m) (hw : Words xs) (hml : m ≤ maxLen) :
    Calls Tryd.prog 6 #[.int .u64 p, .slice x n cap, .bool inv, .slice y m cap'] w fun e w' => e = .returned (.bool true) ∧ Below w.heap.size w w' := by
  have HV := Lib.hid (live17_any HP _ hG)
  obtain ⟨b, HFew⟩ := few_any x n cap xa 40 w hx hn hlb
  cases b
  · clear hx hy hG hw hm hn hml H HP
    go_enter Tryd.func6, Tryd.ntmps6
    go_wp2_with (first
      | (go_at_call 11; refine HV.out.mono ?_; rintro e w1 ⟨rfl, b1⟩; have B1 := Lib.hid b1; clear b1)
      | (go_at_call 12; refine (HFew.out _ B1.out).mono ?_; rintro e w2 ⟨rfl, b2⟩; have B2 := Lib.hid (below_then B1.out b2); clear b2))
    go_ret
    exact ⟨rfl, B2.out⟩
  by_cases hl : 50 < m
  · have d1 : decide (50 < (m : Int)) = true := by simp; omega
    clear hx hy hG hw hm hn hml H HP
    go_enter Tryd.func6, Tryd.ntmps6
    go_wp2_with (first
      | (go_at_call 11; refine HV.out.mono ?_; rintro e w1 ⟨rfl, b1⟩; have B1 := Lib.hid b1; clear b1)
      | (go_at_call 12; refine (HFew.out _ B1.out).mono ?_; rintro e w2 ⟨rfl, b2⟩; have B2 := Lib.hid (below_then B1.out b2); clear b2))
    go_ret
    exact ⟨rfl, B2.out⟩
  by_cases hE : gridE p xa = 0
  · exact planback_yes HP H p x n cap xa inv y m cap' xs w hG hx hn hlb hy hm hw hml (by omega) (gridE_zero hE) HFew
  have d1 : decide (50 < (m : Int)) = false := by simp; omega
  have e0 : ∀ iv, Stp.plL p xa iv = [] := fun iv => by unfold Stp.plL; rw [if_neg hE]
  have HSt := Lib.hid (fun (iv : Bool) W (hB : Below w.heap.size w W) => HP.steps p x n cap xa iv W (HP.keep hG hB) ((hx.below hB).more hB.size) hn hlb)
  simp only [e0] at HSt
  have t := ne_of_bne hE
  have t2 : (gridE p xa != gridE p xa) = false := by simp
  have t3 : (gridE p xa == gridE p xa) = true := by simp
  generalize gridE p xa = er at HSt t t2 t3
  clear hx hy hG hw hm hn hml H HP hE e0
  go_enter Tryd.func6, Tryd.ntmps6
  go_wp2_with (first
    | (go_at_call 11; refine HV.out.mono ?_; rintro e w1 ⟨rfl, b1⟩; have B1 := Lib.hid b1; clear b1)
    | (go_at_call 12; refine (HFew.out _ B1.out).mono ?_; rintro e w2 ⟨rfl, b2⟩; have B2 := Lib.hid (below_then B1.out b2); clear b2)
    | (go_at_call 13; refine (HSt.out _ _ B2.out).mono ?_; rintro e w3 ⟨v, rfl, hO, b3⟩; obtain ⟨y1, c1, rfl, -, -, -⟩ := hO.form; have B3 := Lib.hid (below_then B2.out b3); simp only [List.length_nil]; clear b3 hO B2)
    | (go_at_call 13; refine (HSt.out _ _ B3.out).mono ?_; rintro e w4 ⟨v, rfl, hO, b4⟩; obtain ⟨y2, c2, rfl, -, -, -⟩ := hO.form; have B4 := Lib.hid (below_then B3.out b4); simp only [List.length_nil]; clear b4 hO))
  go_ret
  exact ⟨rfl, B4.out⟩

theorem planback_walk (HP : PlanHas Gl) (H : StepHas Gl) (p : Int) (x : Option Addr) (len cap : Nat) (xa : List Ax) (inv : Bool) (y : Option Addr) (m cap' : Nat) (zs : List Int) (w : World) (_hp : (Lit.int .u64 p).wf = true) (hA : AxisIn w x len cap xa) (hlb : len ≤ 8796093022208) (hr : RowIn .u64 w y m cap' zs) (hG : Gl w) :
    Calls Tryd.prog 6 #[.int .u64 p, .slice x len cap, .bool inv, .slice y m cap'] w fun e w' => e = .returned (.bool true) ∧ Below w.heap.size w w' := by
  obtain ⟨hn, hc1, hc2, hx, -⟩ := hA
  obtain ⟨xs, -, hm, hcp, hml, hy, hw⟩ := hr.reads
  exact planback_any HP H p x len cap xa inv y m cap' xs w hG hx hn hlb hy hm hw (Nat.le_trans hcp hml)

end Go.Proofs.YtlbfllaaabginaaDoor
