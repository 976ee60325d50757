/-
  The walk of the law PlanWhole, the stage's theorem: it returns true for every prime, all axes, either way, all words; nothing that was there is written.
-/
import Derived.Test.YtlbfllaaabginaaDoorPlanLive
import Derived.Test.YtlbfllaaabginaaDoorGrids
import Derived.Test.YtlbfllaaabginaaDoorRows2
import Derived.Test.YtlbfllaaabginaaDoorStepA
import Derived.Deep.CutRange
namespace Go.Proofs.YtlbfllaaabginaaDoor
open Go.RowKit

namespace Stp
/-- Every step of a plan, done to words of the right number. -/
theorem plan_do {G : World → Prop} (H : StepHas G) {p : Int} {x : Option Addr} {n cap : Nat} {xa : List Ax} {w : World} (hG : G w) (hx : ReadsA w w.heap.size x xa) (hn : xa.length = n) (hl : n ≤ 8796093022208) (hA : Axes p xa) {m : Nat} (hm : m = Sh.prod (szs xa)) (hml : m ≤ maxLen) (inv : Bool)
    (s : Sp) (z : Option Addr) (c : Nat) (ys : List Int) (W : World) (hs : s ∈ plS xa inv xa.length) (hB : Below w.heap.size w W) (hz : Reads .u64 W W.heap.size z ys) (hl2 : ys.length = m) (hyn : Nums p ys) :
    Calls Tryd.prog 26 #[.int .u64 p, .slice x n cap, .bool inv, spV s, .slice z m c] W (LineRet W (stp p xa inv s ys) 0) := by
  have hk4 : xa.length ≤ 4 := by have := hA.ok.four; rwa [szs_len] at this
  have hsk := plS_ok hA (Nat.le_refl _) hs
  have hwk : Wok p xa s ys := ⟨hsk, by rw [hl2, hm], fun j _ => (hyn j).2⟩
  have := H.doo p x n cap xa inv s z m c ys W (H.keep hG hB) ((hx.below hB).more hB.size) hn hl (hsk.in' hk4) hz hl2 (hyn.words hA.kn) hml
  rwa [hwk.zero, hwk.wL] at this
theorem grid_nums {p : Int} {xa : List Ax} {xs : List Int} (h : Grid p xa xs) (hw : Words xs) : Nums p xs := fun j => ⟨(hw j).1, by
  by_cases hj : j < xs.length
  · exact h.lt j hj
  · rw [List.getD_eq_getElem?_getD, List.getElem?_eq_none (by omega)]; exact Fp.kn_pos h.ax.kn⟩
end Stp

theorem list_mem {α : Type} (l : List α) (d : α) (j : Nat) (hj : j < l.length) : l.getD j d ∈ l := by
  rw [List.getD_eq_getElem?_getD, List.getElem?_eq_getElem hj]
  exact List.getElem_mem hj

set_option maxRecDepth 100000 in
set_option maxHeartbeats 8000000 in
theorem planwhole_yes (HP : PlanHas Gl) (H : StepHas Gl) (p : Int) (x : Option Addr) (n cap : Nat) (xa : List Ax) (inv : Bool) (y : Option Addr) (m cap' : Nat) (xs : List Int) (w : World) (hG : Gl w) (hx : ReadsA w w.heap.size x xa) (hn : xa.length = n) (hlb : n ≤ 8796093022208)
    (hy : Reads .u64 w w.heap.size y xs) (hm : xs.length = m) (hw : Words xs) (hml : m ≤ maxLen) (hl : m ≤ 50) (hGr : Grid p xa xs) (HFew : Hid (∀ W, Below w.heap.size w W → Calls Tryd.prog 12 #[.slice x n cap, .int .i64 40] W (RetB (.bool true) W))) :
    Calls Tryd.prog 5 #[.int .u64 p, .slice x n cap, .bool inv, .slice y m cap'] w fun e w' => e = .returned (.bool true) ∧ Below w.heap.size w w' := by
  have d1 : decide (50 < (m : Int)) = false := by simp; omega
  have HV := Lib.hid (live17_any HP _ hG)
  have hA := hGr.ax
  have HGd := Lib.hid (fun W (hB : Below w.heap.size w W) => do_any p x n cap xa inv y m cap' xs W (hG.then hB) ((hx.below hB).more hB.size) hn hlb ((hy.below hB).more hB.size) hm hw hml)
  rw [hGr.zero, hGr.doL] at HGd
  have HSt := Lib.hid (fun W (hB : Below w.heap.size w W) => HP.steps p x n cap xa inv W (HP.keep hG hB) ((hx.below hB).more hB.size) hn hlb)
  have e0 : Stp.plL p xa inv = Stp.plS xa inv xa.length := by unfold Stp.plL; rw [if_pos hA.zero]
  rw [hA.zero, e0] at HSt
  have hWh := Stp.go_plS (inv := inv) hGr hw (Nat.le_refl xa.length)
  have hwl : (doTo p xa inv xs xa.length).length = m := by rw [← hWh, Stp.goS_len, hm]
  have hxn := Stp.grid_nums hGr hw
  have hkn := hA.kn
  have HDo := Lib.hid (fun s z c ys W => Stp.plan_do (cap := cap) H hG hx hn hlb hA (hm.symm.trans hGr.len) hml inv s z c ys W)
  have HLen : Hid (∀ l, (Stp.goS p xa inv l xs).length = m) := Lib.hid (fun l => by rw [Stp.goS_len, hm])
  have HNum : Hid (∀ l, Stp.Nums p (Stp.goS p xa inv l xs)) := Lib.hid (fun l => Stp.goS_nums hkn xa inv l xs hxn)
  have HSn : Hid (∀ l s, Stp.goS p xa inv (l ++ [s]) xs = Stp.stp p xa inv s (Stp.goS p xa inv l xs)) := Lib.hid (fun l s => Stp.goS_snoc p xa inv l s xs)
  have HW0 : Hid (Stp.goS p xa inv [] xs = xs) := Lib.hid rfl
  have h4 : xa.length ≤ 4 := by have := hA.ok.four; rwa [szs_len] at this
  have hpl : (Stp.plS xa inv xa.length).length ≤ 100 := by have := Stp.plS_len (inv := inv) hA (Nat.le_refl xa.length); omega
  have HMem := Lib.hid (list_mem (Stp.plS xa inv xa.length) noSp)
  generalize Stp.plS xa inv xa.length = L at HSt HDo hWh hpl HMem
  generalize doTo p xa inv xs xa.length = want at HGd hWh hwl
  generalize Stp.goS p xa inv = go at HLen HNum HSn HW0 hWh
  have HWh := Lib.hid hWh
  have HWl := Lib.hid hwl
  have HY := Lib.hid hy
  obtain ⟨q, hq⟩ : ∃ q, q = L.length := ⟨_, rfl⟩
  have HQ := Lib.hid hq
  rw [← hq] at hpl
  clear hy hG hw hm hn hml H HP hGr hx hA hkn hxn hWh hwl h4 e0 hq
  go_enter Tryd.func5, Tryd.ntmps5
  go_wp2_with (first
    | (go_at_call 11; refine HV.out.mono ?_; rintro e w1 ⟨rfl, b1⟩; have B1 := Lib.hid b1; clear b1)
    | (go_at_call 12; refine (HFew.out _ B1.out).mono ?_; rintro e w2 ⟨rfl, b2⟩; have B2 := Lib.hid (below_then B1.out b2); clear b2)
    | (go_at_call 25; refine (HGd.out _ B2.out).mono ?_; rintro e w3 ⟨v, rfl, hO, b3⟩; obtain ⟨y1, c1, rfl, -, -, hr1, -⟩ := hO.form; have R1 := Lib.hid hr1; have B3 := Lib.hid (below_then B2.out b3); rw [HWl.out]; clear b3 hO hr1)
    | (go_at_call 13; refine (HSt.out _ B3.out).mono ?_; rintro e w4 ⟨v, rfl, hO, b4⟩; obtain ⟨xl, cl, rfl, -, -, hrl⟩ := hO.form; have RL := Lib.hid hrl; replace R1 := Lib.hid ((R1.out.below b4).more b4.size); have B4 := Lib.hid (below_then B3.out b4); rw [← HQ.out]; clear b4 hO hrl))
  go_loopw [3, 51] (fun v i wr => ∃ (j : Nat) (z : Option Addr) (c : Nat), j ≤ q ∧ i = .int .i64 (j : Int) ∧ v = .slice z m c ∧ Hid (Reads .u64 wr wr.heap.size z (go (L.take j) xs)) ∧ Hid (Below w4.heap.size w4 wr)) (fun _ i _ => q - (intOf i).toNat)
  case atStart =>
    refine ⟨0, _, _, Nat.zero_le _, rfl, rfl, Lib.hid ?_, Lib.hid (Below.refl _ _)⟩
    rw [List.take_zero, HW0.out]
    exact (HY.out.below B4.out).more B4.out.size
  case round =>
    obtain ⟨j, z, c, hj, rfl, rfl, HR, HBr⟩ := hrel
    by_cases hlj : j < q
    · have hdj : decide (j < q) = true := by simpa using hlj
      have hjs : j < L.length := by rw [← HQ.out]; exact hlj
      obtain ⟨bs, os, rfl, hbs, hcs⟩ := RL.out (by omega)
      obtain ⟨s0, s1, s2, s3, s4⟩ := hcs j hjs
      have k0 := (HBr.out.cell (p := ⟨bs, os + j * 5, none⟩) hbs).trans s0
      have k1 := (HBr.out.cell (p := ⟨bs, os + j * 5 + 1, none⟩) hbs).trans s1
      have k2 := (HBr.out.cell (p := ⟨bs, os + j * 5 + 2, none⟩) hbs).trans s2
      have k3 := (HBr.out.cell (p := ⟨bs, os + j * 5 + 3, none⟩) hbs).trans s3
      have k4 := (HBr.out.cell (p := ⟨bs, os + j * 5 + 4, none⟩) hbs).trans s4
      have HTk := Lib.hid (Stp.take_more L noSp j hjs)
      have HIn := Lib.hid (HMem.out j hjs)
      obtain ⟨t, ht⟩ : ∃ t, t = L.getD j noSp := ⟨_, rfl⟩
      rw [← ht] at k0 k1 k2 k3 k4 HTk HIn
      obtain ⟨sa, sw, sr, sl, sm⟩ := t
      dsimp only at k0 k1 k2 k3 k4
      clear ht hcs s0 s1 s2 s3 s4 hjs
      go_upto_region 14 with fail
      have SA := Lib.hid (SpAt.new wr 49 ⟨sa, sw, sr, sl, sm⟩)
      have HB3 := Lib.hid (below_al HBr.out (.cells #[.int .i64 sa, .bool sw, .int .i64 sr, .int .i64 sl, .int .i64 sm] 49))
      have HR3 := Lib.hid ((HR.out.below (below_al (Below.refl _ wr) (.cells #[.int .i64 sa, .bool sw, .int .i64 sr, .int .i64 sl, .int .i64 sm] 49))).more (below_al (Below.refl _ wr) (.cells #[.int .i64 sa, .bool sw, .int .i64 sr, .int .i64 sl, .int .i64 sm] 49)).size)
      dsimp only at SA
      obtain ⟨W3, hW3⟩ : ∃ W3, W3 = wr.alloc (.cells #[.int .i64 sa, .bool sw, .int .i64 sr, .int .i64 sl, .int .i64 sm] 49) := ⟨_, rfl⟩
      rw [← hW3] at SA HB3 HR3 ⊢
      obtain ⟨q0, q1, q2, q3, q4⟩ := SA.out
      dsimp only at q0 q1 q2 q3 q4
      clear hW3 k0 k1 k2 k3 k4
      have HD3 := Lib.hid (HDo.out ⟨sa, sw, sr, sl, sm⟩ z c _ W3 HIn.out (below_then B4.out HB3.out) HR3.out (HLen.out _) (HNum.out _))
      rw [← HSn.out] at HD3
      unfold spV at HD3
      dsimp only at HD3
      go_wp2_with (go_at_call 26; refine HD3.out.mono ?_; rintro e w7 ⟨v, rfl, hO, b7⟩; obtain ⟨y7, c7, rfl, -, -, hr7, -⟩ := hO.form; have R7 := Lib.hid hr7; have B7 := Lib.hid (below_then HB3.out b7); rw [HLen.out]; clear b7 hO hr7)
      go_roundw
      case rel => exact ⟨j + 1, _, _, by omega, by go_num, rfl, Lib.hid (by rw [HTk.out]; exact R7.out), B7⟩
      case measure => simp [intOf]; omega
    · obtain rfl : j = q := by omega
      have hdj : decide (j < j) = false := by simp
      rw [HQ.out, List.take_length, HWh.out] at HR
      have R1' := Lib.hid ((R1.out.below HBr.out).more HBr.out.size)
      have HF := Lib.hid (below_then B4.out HBr.out)
      go_wp2_with (go_at_call 22; refine (same_self z y1 m c c1 want _ wr.heap.size HR.out R1'.out HWl.out (by omega)).mono ?_; rintro e w' ⟨rfl, n6, rfl⟩)
      go_ret
      exact ⟨rfl, below_draws HF.out _⟩

set_option maxRecDepth 100000 in
set_option maxHeartbeats 4000000 in
theorem planwhole_any (HP : PlanHas Gl) (H : StepHas Gl) (p : Int) (x : Option Addr) (n cap : Nat) (xa : List Ax) (inv : Bool) (y : Option Addr) (m cap' : Nat) (xs : List Int) (w : World) (hG : Gl w) (hx : ReadsA w w.heap.size x xa) (hn : xa.length = n) (hlb : n ≤ 8796093022208)
    (hy : Reads .u64 w w.heap.size y xs) (hm : xs.length = m) (hw : Words xs) (hml : m ≤ maxLen) :
    Calls Tryd.prog 5 #[.int .u64 p, .slice x n cap, .bool inv, .slice y m cap'] w fun e w' => e = .returned (.bool true) ∧ Below w.heap.size w w' := by
  have HV := Lib.hid (live17_any HP _ hG)
  obtain ⟨b, HFew⟩ := few_any x n cap xa 40 w hx hn hlb
  cases b
  · clear hx hy hG hw hm hn hml H HP
    go_enter Tryd.func5, Tryd.ntmps5
    go_wp2_with (first
      | (go_at_call 11; refine HV.out.mono ?_; rintro e w1 ⟨rfl, b1⟩; have B1 := Lib.hid b1; clear b1)
      | (go_at_call 12; refine (HFew.out _ B1.out).mono ?_; rintro e w2 ⟨rfl, b2⟩; have B2 := Lib.hid (below_then B1.out b2); clear b2))
    go_ret
    exact ⟨rfl, B2.out⟩
  by_cases hl : 50 < m
  · have d1 : decide (50 < (m : Int)) = true := by simp; omega
    clear hx hy hG hw hm hn hml H HP
    go_enter Tryd.func5, Tryd.ntmps5
    go_wp2_with (first
      | (go_at_call 11; refine HV.out.mono ?_; rintro e w1 ⟨rfl, b1⟩; have B1 := Lib.hid b1; clear b1)
      | (go_at_call 12; refine (HFew.out _ B1.out).mono ?_; rintro e w2 ⟨rfl, b2⟩; have B2 := Lib.hid (below_then B1.out b2); clear b2))
    go_ret
    exact ⟨rfl, B2.out⟩
  by_cases hE : wordsE p xa xs = 0
  · exact planwhole_yes HP H p x n cap xa inv y m cap' xs w hG hx hn hlb hy hm hw hml (by omega) (wordsE_zero hE) HFew
  have d1 : decide (50 < (m : Int)) = false := by simp; omega
  have HGd := Lib.hid (fun W (hB : Below w.heap.size w W) => do_any p x n cap xa inv y m cap' xs W (hG.then hB) ((hx.below hB).more hB.size) hn hlb ((hy.below hB).more hB.size) hm hw hml)
  rw [doL_no hE] at HGd
  have t := ne_of_bne hE
  generalize wordsE p xa xs = er at HGd t
  clear hx hy hG hw hm hn hml H HP hE
  go_enter Tryd.func5, Tryd.ntmps5
  go_wp2_with (first
    | (go_at_call 11; refine HV.out.mono ?_; rintro e w1 ⟨rfl, b1⟩; have B1 := Lib.hid b1; clear b1)
    | (go_at_call 12; refine (HFew.out _ B1.out).mono ?_; rintro e w2 ⟨rfl, b2⟩; have B2 := Lib.hid (below_then B1.out b2); clear b2)
    | (go_at_call 25; refine (HGd.out _ B2.out).mono ?_; rintro e w3 ⟨v, rfl, hO, b3⟩; obtain ⟨y1, c1, rfl, -, -, -, -⟩ := hO.form; have B3 := Lib.hid (below_then B2.out b3); simp only [List.length_nil]; clear b3 hO))
  go_ret
  exact ⟨rfl, B3.out⟩

theorem planwhole_walk (HP : PlanHas Gl) (H : StepHas Gl) (p : Int) (x : Option Addr) (len cap : Nat) (xa : List Ax) (inv : Bool) (y : Option Addr) (m cap' : Nat) (zs : List Int) (w : World) (_hp : (Lit.int .u64 p).wf = true) (hA : AxisIn w x len cap xa) (hlb : len ≤ 8796093022208) (hr : RowIn .u64 w y m cap' zs) (hG : Gl w) :
    Calls Tryd.prog 5 #[.int .u64 p, .slice x len cap, .bool inv, .slice y m cap'] w fun e w' => e = .returned (.bool true) ∧ Below w.heap.size w w' := by
  obtain ⟨hn, hc1, hc2, hx, -⟩ := hA
  obtain ⟨xs, -, hm, hcp, hml, hy, hw⟩ := hr.reads
  exact planwhole_any HP H p x len cap xa inv y m cap' xs w hG hx hn hlb hy hm hw (Nat.le_trans hcp hml)

end Go.Proofs.YtlbfllaaabginaaDoor
