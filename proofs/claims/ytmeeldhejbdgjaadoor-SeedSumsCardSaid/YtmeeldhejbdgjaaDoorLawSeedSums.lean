/-
  The walk of the law SeedSums: it returns true for every word, every slice of axes, there or back, every slice of words and every word; nothing that was there is written.
-/
import Derived.Test.YtmeeldhejbdgjaaDoorSeedLive
import Derived.Test.YtmeeldhejbdgjaaDoorSeedCheck
import Derived.Test.YtmeeldhejbdgjaaDoorCoord
import Derived.Test.YtmeeldhejbdgjaaDoorRows2
namespace Go.Proofs.YtmeeldhejbdgjaaDoor
open Go.RowKit Go.Shelf

/-- Word i times its weights along the first t axes; the sum of the first k of them. -/
def am (p : Int) (xa : List Ax) (inv : Bool) (xs : List Int) (r : Int) (i : Nat) : Nat → Int
  | 0 => xs.getD i 0
  | t + 1 => Fp.mul p (am p xa inv xs r i t) (plW p xa inv r t i)
def sm (p : Int) (xa : List Ax) (inv : Bool) (xs : List Int) (r : Int) : Nat → Int
  | 0 => 0
  | k + 1 => Fp.add p (sm p xa inv xs r k) (am p xa inv xs r k xa.length)
section
variable {p : Int} {xa : List Ax} {inv : Bool} {xs : List Int} {r : Int}
theorem am_bd (hw : Words xs) (i t : Nat) : 0 ≤ am p xa inv xs r i t ∧ am p xa inv xs r i t < 18446744073709551616 := by
  cases t with
  | zero => exact hw i
  | succ t => rw [am]; have := Fp.mul_bd p (am p xa inv xs r i t) (plW p xa inv r t i); omega
theorem sm_bd (p : Int) (xa : List Ax) (inv : Bool) (xs : List Int) (r : Int) (k : Nat) : 0 ≤ sm p xa inv xs r k ∧ sm p xa inv xs r k < 18446744073709551616 := by
  cases k with
  | zero => rw [sm]; omega
  | succ k => rw [sm]; have := Fp.add_bd p (sm p xa inv xs r k) (am p xa inv xs r k xa.length); omega
theorem am_eqm (h : Fp.kn p = true) (i : Nat) : ∀ t, Fp.eqm p (am p xa inv xs r i t) (xs.getD i 0 * wf p xa inv r i t)
  | 0 => by rw [am, wf, Int.mul_one]; exact Fp.eqm.rfl
  | t + 1 => by
    rw [am, wf, Fp.mul_red, ← Int.mul_assoc]
    exact (Fp.eqm_red h _).trans ((am_eqm h i t).mul Fp.eqm.rfl)
theorem sm_eqm (h : Fp.kn p = true) : ∀ k, Fp.eqm p (sm p xa inv xs r k) (Fp.sum (fun i => xs.getD i 0 * wf p xa inv r i xa.length) k)
  | 0 => Fp.eqm.rfl
  | k + 1 => by
    rw [sm, Fp.sum, Fp.add_red]
    exact (Fp.eqm_red h _).trans ((sm_eqm h k).add (am_eqm h k _))
/-- The sum of all words times their weights is what the seed makes of the transform. -/
theorem Grid.sums (h : Grid p xa xs) : sm p xa inv xs r xs.length = Fp.ev p (Go.Proofs.YtmeeldhejbdgjaaDoor.doTo p xa inv xs xa.length) r := by
  have hk := h.ax.kn
  have h1 := h.le
  have hb : 0 ≤ sm p xa inv xs r xs.length ∧ sm p xa inv xs r xs.length < p := by
    obtain ⟨k, hk'⟩ : ∃ k, xs.length = k + 1 := ⟨xs.length - 1, by omega⟩
    rw [hk', sm]
    have := Fp.add_bd p (sm p xa inv xs r k) (am p xa inv xs r k xa.length)
    exact ⟨this.1, this.2.2 hk⟩
  have hbe := Fp.ev_bd p (Go.Proofs.YtmeeldhejbdgjaaDoor.doTo p xa inv xs xa.length) r
  refine eq_of_eqm ?_ hb ⟨hbe.1, hbe.2.2 hk⟩
  refine (sm_eqm hk xs.length).trans (Fp.eqm.trans (Fp.eqm.of ?_) (h.ev_all r).symm)
  rw [h.len]
  exact Fp.sum_congr fun i _ => by rw [wq_all]
/-- One axis of several is an axis. -/
theorem Axes.one (h : Axes p xa) {t : Nat} (ht : t < xa.length) : Axes p [xa.getD t noAx] := by
  have hi := h.int ht
  have h1 := h.L ht
  have h2 := h.L_le ht
  have hz : szs [xa.getD t noAx] = [gL xa t] := by
    show [(xa.getD t noAx).n.toNat] = [gL xa t]
    rw [hi, Int.toNat_natCast]
  refine ⟨h.kn, by rw [hz]; exact ⟨by simp, by simp, fun d hd => by simp at hd; omega, by simpa [Sh.prod] using h2⟩, ?_, fun k hk => ?_, fun k hk => ?_⟩
  · rw [hz]
    show [(xa.getD t noAx).n] = [((gL xa t : Nat) : Int)]
    rw [hi]
  · obtain rfl : k = 0 := by simpa using hk
    exact h.sm t ht
  · obtain rfl : k = 0 := by simpa using hk
    exact h.dvd t ht
theorem Axes.wt_at (h : Axes p xa) (inv : Bool) (r : Int) {t : Nat} (ht : t < xa.length) (i : Nat) :
    wtE p (xa.getD t noAx) ((i / gI xa t % gL xa t : Nat) : Int) = 0 ∧ wtR p (xa.getD t noAx) inv ((i / gI xa t % gL xa t : Nat) : Int) (Fp.pw p r (gI xa t)) = plW p xa inv r t i := by
  have hc := h.coord_lt ht i
  have hi := h.int ht
  have e : wtE p (xa.getD t noAx) ((i / gI xa t % gL xa t : Nat) : Int) = 0 := wtE_ok (h.one ht).zero (by rw [hi]; omega)
  refine ⟨e, ?_⟩
  rw [wtR_yes e, hi, Int.toNat_natCast, Int.toNat_natCast]
  rfl
end

set_option maxHeartbeats 4000000 in
set_option maxRecDepth 100000 in
theorem seedsums_main (p : Int) (x : Option Addr) (len cap : Nat) (xa : List Ax) (inv : Bool) (y : Option Addr) (m cap' : Nat) (xs : List Int) (r : Int) (w : World) (hG : Gl w) (hx : ReadsA w w.heap.size x xa) (hn : xa.length = len) (hlb : len ≤ 8796093022208) (hax : ∀ k, -9223372036854775808 ≤ (xa.getD k noAx).n ∧ (xa.getD k noAx).n < 9223372036854775808)
    (hy : Reads .u64 w w.heap.size y xs) (hm : xs.length = m) (hw : Words xs) (hcp : m ≤ cap') (g1 : m ≤ 30) (r0 : 0 ≤ r) (r1 : r < 18446744073709551616) (hGr : Grid p xa xs)
    (HFew : Hid (∀ W, Below w.heap.size w W → Calls Tryd.prog 8 #[.slice x len cap, .int .i64 24] W (RetB (.bool true) W))) :
    Calls Tryd.prog 6 #[.int .u64 p, .slice x len cap, .bool inv, .slice y m cap', .int .u64 r] w fun e w' => e = .returned (.bool true) ∧ Below w.heap.size w w' := by
  have HV := Lib.hid (live9_any w hG)
  have hml : m ≤ maxLen := by unfold maxLen; omega
  have d1 : decide (30 < (m : Int)) = false := by simp; omega
  have hA := hGr.ax
  have h4 : len ≤ 4 := by have := hA.ok.four; rw [szs_len] at this; omega
  have h41 : 1 ≤ len := by have := hA.ok.one; rw [szs_len] at this; omega
  have HE := Lib.hid (fun W (hB : Below w.heap.size w W) => Expect_any p x len cap xa inv y m cap' xs r W (hG.then hB) ((hx.below hB).more hB.size) hn hlb ((hy.below hB).more hB.size) hm hw hml hcp r0 r1)
  rw [hGr.zero, exN_yes hGr.zero] at HE
  have HD := Lib.hid (fun W (hB : Below w.heap.size w W) => do_any p x len cap xa inv y m cap' xs W (hG.then hB) ((hx.below hB).more hB.size) hn hlb ((hy.below hB).more hB.size) hm hw hml)
  rw [hGr.zero, hGr.doL] at HD
  have hL := doTo_len p xa inv xs xa.length
  rw [hm] at hL
  have HV2 : Hid (∀ (y1 : Option Addr) (c1 : Nat) W, Reads .u64 W W.heap.size y1 (doTo p xa inv xs xa.length) → Calls Tryd.prog 19 #[.int .u64 p, .slice y1 m c1, .int .u64 r] W (RetB (.tuple #[.int .u64 (Fp.ev p (doTo p xa inv xs xa.length) r), .int .i64 0]) W)) := Lib.hid (fun y1 c1 W hR => by
    have := Eval_any p r y1 m c1 (doTo p xa inv xs xa.length) W hR hL (hGr.doWords hw _) (by omega) r0 r1
    have ee := evalE_ok (n := m) hA.kn (by omega)
    have ee' := ee
    rw [← hL] at ee'
    rwa [evalN_ok ee', ee] at this)
  have HSm : Hid (sm p xa inv xs r m = Fp.ev p (doTo p xa inv xs xa.length) r) := Lib.hid (by rw [← hm]; exact hGr.sums)
  have HDm := Lib.hid (fun W (hB : Below w.heap.size w W) => dims_any x len cap xa W ((hx.below hB).more hB.size) hn (by omega))
  have HCo : Hid (∀ k, k < m → ∀ (yd : Option Addr) (cd : Nat) W, Reads .i64 W W.heap.size yd (dims xa) → Calls Tryd.prog 20 #[.slice yd len cd, .int .i64 (k : Int)] W (RetL (Sh.ints (Sh.crd (szs xa) k)) 0 W)) := Lib.hid (fun k hk yd cd W hR => coord_ok (szs xa) hA.ok k (by rw [← hGr.len, hm]; exact hk) yd len cd W (by rw [← hA.is]; exact hR) (by rw [szs_len, hn]))
  have HIn : Hid (∀ t, t < len → ∀ (yd : Option Addr) (cd : Nat) W, len ≤ cd → Reads .i64 W W.heap.size yd (dims xa) → Calls Tryd.prog 22 #[.slice yd len cd, .int .i64 (t : Int)] W (RetN (gI xa t : Nat) 0 W)) := Lib.hid (fun t ht yd cd W hcd hR => inner_ok (szs xa) hA.ok t (by rw [szs_len]; omega) yd len cd W W.heap.size (by rw [← hA.is]; exact hR) (by rw [szs_len, hn]) hcd)
  have HIb : Hid (∀ t, gI xa t ≤ 4096) := Lib.hid (fun t => hA.ok.le_drop _)
  have HCl : Hid (∀ k, (Sh.ints (Sh.crd (szs xa) k)).length = len) := Lib.hid (fun k => by rw [Sh.ints_len, Sh.crd_len, szs_len, hn])
  have HCg : Hid (∀ k t, t < len → (Sh.ints (Sh.crd (szs xa) k)).getD t 0 = ((k / gI xa t % gL xa t : Nat) : Int)) := Lib.hid (fun k t ht => by rw [Sh.ints_get, Sh.crd_get _ _ _ (by rw [szs_len]; omega)]; rfl)
  have HCb : Hid (∀ k t, t < len → k / gI xa t % gL xa t ≤ 4096) := Lib.hid (fun k t ht => by have := hA.coord_lt (by omega : t < xa.length) k; have := hA.L_le (by omega : t < xa.length); omega)
  have HWt : Hid (∀ k t W, t < len → Below w.heap.size w W → Calls Tryd.prog 9 #[.int .u64 p, .agg #[.int .i64 (xa.getD t noAx).n, .bool (xa.getD t noAx).neg], .bool inv, .int .i64 ((k / gI xa t % gL xa t : Nat) : Int), .int .u64 (Fp.pw p r (gI xa t))] W (RetB (.tuple #[.int .u64 (plW p xa inv r t k), .int .i64 0]) W)) := Lib.hid (fun k t W ht hB => by
    have hb := HCb.out k t ht
    have hz := Fp.pw_bd p r (gI xa t)
    have := Weight_any p (xa.getD t noAx) inv ((k / gI xa t % gL xa t : Nat) : Int) (Fp.pw p r (gI xa t)) W (hG.then hB) (hax t) (by omega) hz.1 (by omega)
    obtain ⟨e1, e2⟩ := hA.wt_at inv r (by omega : t < xa.length) k
    rwa [e1, e2] at this)
  have HAm : Hid (∀ k t, Fp.mul p (am p xa inv xs r k t) (plW p xa inv r t k) = am p xa inv xs r k (t + 1)) := Lib.hid (fun _ _ => rfl)
  have HAs : Hid (∀ k, Fp.add p (sm p xa inv xs r k) (am p xa inv xs r k len) = sm p xa inv xs r (k + 1)) := Lib.hid (fun k => by rw [sm, hn])
  have HAb := Lib.hid (fun k t => am_bd (p := p) (xa := xa) (inv := inv) (r := r) hw k t)
  have HSb := Lib.hid (fun k => sm_bd p xa inv xs r k)
  have HPb := Lib.hid (fun k t => wtN_bd p (gN xa t) inv (gL xa t) (k / gI xa t % gL xa t) (Fp.pw p r (gI xa t)))
  have HPb : Hid (∀ k t, 0 ≤ plW p xa inv r t k ∧ plW p xa inv r t k < 18446744073709551616) := Lib.hid (fun k t => by have := HPb.out k t; unfold plW; omega)
  have HA0 : Hid (∀ k, am p xa inv xs r k 0 = xs.getD k 0) := Lib.hid (fun _ => rfl)
  have hle := hGr.le
  rw [hm] at hle
  obtain ⟨b, off, rfl, hb, hcx⟩ := hy (by omega)
  have HCX : Hid (∀ W, Below w.heap.size w W → ∀ k, k < m → W.cell? ⟨b, off + k, none⟩ = some (.int .u64 (xs.getD k 0))) := Lib.hid (fun W hB k hk => (hB.cell (p := ⟨b, off + k, none⟩) hb).trans (hcx k (by omega)))
  obtain ⟨ba, offa, rfl, hba, hca⟩ := hx (by omega)
  have HCA : Hid (∀ W, Below w.heap.size w W → ∀ t, t < len → W.cell? ⟨ba, offa + t * 2, none⟩ = some (.int .i64 (xa.getD t noAx).n) ∧ W.cell? ⟨ba, offa + t * 2 + 1, none⟩ = some (.bool (xa.getD t noAx).neg)) := Lib.hid (fun W hB t ht => ⟨(hB.cell (p := ⟨ba, offa + t * 2, none⟩) hba).trans (hca t (by omega)).1, (hB.cell (p := ⟨ba, offa + t * 2 + 1, none⟩) hba).trans (hca t (by omega)).2⟩)
  have HDL : Hid ((dims xa).length = len) := Lib.hid (by rw [dims_len, hn])
  have HLL := Lib.hid hL
  have hne : ((len : Int) != (len : Int)) = false := bne_self' _
  generalize Fp.ev p (doTo p xa inv xs xa.length) r = ev at HE HV2 HSm
  generalize doTo p xa inv xs xa.length = ds at HD HV2 HLL
  clear hx hy hG hw hm hn hml hcp hGr hL hA hcx hca hax
  go_enter Tryd.func6, Tryd.ntmps6
  go_wp2_with (first
    | (go_at_call 7; refine HV.out.mono ?_; rintro e w1 ⟨rfl, b1⟩; have B1 := Lib.hid b1; clear b1)
    | (go_at_call 8; refine (HFew.out _ B1.out).mono ?_; rintro e w2 ⟨rfl, b2⟩; have B2 := Lib.hid (below_then B1.out b2); clear b2)
    | (go_at_call 11; refine (HE.out _ B2.out).mono ?_; rintro e w3 ⟨rfl, b3⟩; have B3 := Lib.hid (below_then B2.out b3); clear b3)
    | (go_at_call 15; refine (HD.out _ B3.out).mono ?_; rintro e w4 ⟨v, rfl, hO, b4⟩; obtain ⟨y1, c1, rfl, -, -, hr1, -⟩ := hO.form; have R1 := Lib.hid hr1; have B4 := Lib.hid (below_then B3.out b4); rw [HLL.out]; clear b4 hO hr1)
    | (go_at_call 19; refine (HV2.out _ _ _ R1.out).mono ?_; rintro e w5 ⟨rfl, b5⟩; have B5 := Lib.hid (below_then B4.out b5); clear b5))
  go_loopw [17, 78] (fun t i wr => ∃ k : Nat, k ≤ m ∧ i = .int .i64 (k : Int) ∧ t = .int .u64 (sm p xa inv xs r k) ∧ Hid (Below w.heap.size w wr)) (fun _ i _ => m - (intOf i).toNat)
  case atStart => exact ⟨0, Nat.zero_le _, rfl, rfl, B5⟩
  case round =>
    obtain ⟨k, hk, rfl, rfl, HBl⟩ := hrel
    by_cases hlt : k < m
    · have hdk : decide (k < m) = true := by simpa using hlt
      have hck := HCX.out wr HBl.out k hlt
      obtain ⟨s0, s1⟩ := HSb.out k
      have HSk := Lib.hid (HAs.out k)
      rw [← HA0.out k] at hck
      have HD1 := Lib.hid (HDm.out wr HBl.out)
      go_wp2_with (first
        | (go_at_call 21; refine HD1.out.mono ?_; rintro e w6 ⟨v, rfl, hO, b6⟩; obtain ⟨yd, cd, rfl, hcd, -, hrd, -⟩ := hO.form; have RD := Lib.hid hrd; have B6 := Lib.hid (below_then HBl.out b6); rw [HDL.out]; clear hO hrd b6 hcd)
        | (go_at_call 20; refine (HCo.out k hlt yd cd w6 RD.out).mono ?_; intro e w7 hr; obtain ⟨gc, cc, rfl, hg1, hg2, hcc, -, hOc, -, b7⟩ := hr.open (HCl.out k) (by omega); have OC := Lib.hid hOc; have B7 := Lib.hid (below_then B6.out b7); clear hr hOc b7))
      clear RD B6
      go_loopw [19, 101] (fun t i wi => ∃ j : Nat, j ≤ len ∧ i = .int .i64 (j : Int) ∧ t = .int .u64 (am p xa inv xs r k j) ∧ Hid (Below w7.heap.size w7 wi)) (fun _ i _ => len - (intOf i).toNat)
      case atStart => exact ⟨0, Nat.zero_le _, rfl, rfl, Lib.hid (Below.refl _ _)⟩
      case round =>
        obtain ⟨j, hj, rfl, rfl, HBi⟩ := hrel
        obtain ⟨a0, a1⟩ := HAb.out k j
        by_cases hlj : j < len
        · have hdj : decide (j < len) = true := by simpa using hlj
          have HBj := Lib.hid (below_then B7.out HBi.out)
          have hcj := (HBi.out.cell (p := ⟨gc, j, none⟩) hg2).trans (OC.out.cell j (by rw [HCl.out]; exact hlj))
          rw [HCg.out k j hlj] at hcj
          have hcb := HCb.out k j hlj
          have hib := HIb.out j
          obtain ⟨v0, v1⟩ := HPb.out k j
          have HAj := Lib.hid (HAm.out k j)
          have HD2 := Lib.hid (HDm.out wr HBj.out)
          have HIj := Lib.hid (HIn.out j hlj)
          have HWj := Lib.hid (fun W (hB : Below wr.heap.size wr W) => HWt.out k j W hlj (below_then HBj.out hB))
          have HCj := Lib.hid (fun W (hB : Below wr.heap.size wr W) => HCA.out W (below_then HBj.out hB) j hlj)
          obtain ⟨z0, z1, -⟩ := Fp.pw_bd p r (gI xa j)
          generalize plW p xa inv r j k = pl at HAj HWj v0 v1
          generalize am p xa inv xs r k j = aa at HAj a0 a1 ⊢
          generalize k / gI xa j % gL xa j = cj at hcj hcb HWj
          generalize gI xa j = I at hib HIj HWj z0 z1
          obtain ⟨u, hag⟩ : ∃ u : Ax, u = xa.getD j noAx := ⟨_, rfl⟩
          rw [← hag] at HWj HCj
          clear hag
          obtain ⟨an, ag⟩ := u
          dsimp only at HWj HCj
          go_wp2_with (first
            | (go_at_call 21; refine HD2.out.mono ?_; rintro e w8 ⟨v, rfl, hO, b8⟩; obtain ⟨ye, ce, rfl, hce, -, hre, -⟩ := hO.form; have RE := Lib.hid hre; have B8 := Lib.hid b8; rw [HDL.out] at hce; rw [HDL.out]; clear hO hre b8)
            | (go_at_call 22; refine (HIj.out ye ce w8 hce RE.out).mono ?_; rintro e w' ⟨rfl, rfl⟩))
          obtain ⟨k1, k2⟩ := HCj.out w8 B8.out
          have t1 := fun s : Since w8 => s.cell k1
          have t2 := fun s : Since w8 => s.cell k2
          refine wp_region_since (by kernel_rfl) (by kernel_rfl) ?_
          repeat (go_big_quiet_step (first
            | (go_at_call 23; rename_i s; exact since_quiet s (pow_any _ _ _ _ (by omega) (by omega) (by omega) (by omega)))
            | (go_at_call 9; rename_i s; exact since_call s (HWj.out _ (below_then B8.out s.below)))))
          refine wpQuiet_nil ?_
          rintro _ ⟨s, rfl⟩
          have BS := Lib.hid (below_then HBi.out (below_then B8.out s.below))
          clear t1 t2 k1 k2
          go_wp2_with (go_at_call 24; refine (mul_any _ _ _ _ (by omega) (by omega) (by omega) (by omega)).mono ?_; rintro e w' ⟨rfl, nd, rfl⟩)
          go_roundw
          case rel => exact ⟨j + 1, hlj, by go_num, by rw [HAj.out], Lib.hid (below_draws BS.out nd)⟩
          case measure => simp [intOf]; omega
        · obtain rfl : j = len := by omega
          generalize am p xa inv xs r k j = aa at HSk a0 a1 ⊢
          go_wp2_with (go_at_call 25; refine (add_any _ _ _ _ (by omega) (by omega) (by omega) (by omega)).mono ?_; rintro e w' ⟨rfl, nd, rfl⟩)
          go_roundw
          case rel => exact ⟨k + 1, hlt, by go_num, by rw [HSk.out], Lib.hid (below_draws (below_then B7.out HBi.out) nd)⟩
          case measure => simp [intOf]; omega
    · obtain rfl : k = m := by omega
      rw [HSm.out]
      have d9 : (ev == ev) = true := by simp
      go_wp2
      go_ret
      exact ⟨rfl, HBl.out⟩

set_option maxHeartbeats 2000000 in
set_option maxRecDepth 100000 in
theorem walk_SeedSums (p : Int) (x : Option Addr) (len cap : Nat) (xa : List Ax) (inv : Bool) (y : Option Addr) (m cap' : Nat) (zs : List Int) (r : Int) (w : World) (_hp : (Lit.int .u64 p).wf = true) (hA : AxisIn w x len cap xa) (hlb : len ≤ 8796093022208) (hr : RowIn .u64 w y m cap' zs) (hr0 : (Lit.int .u64 r).wf = true) (hG : Gl w) :
    Calls Tryd.prog 6 #[.int .u64 p, .slice x len cap, .bool inv, .slice y m cap', .int .u64 r] w fun e w' => e = .returned (.bool true) ∧ Below w.heap.size w w' := by
  obtain ⟨hn, hc1, hc2, hx, hax⟩ := hA
  obtain ⟨xs, -, hm, hcp, hml, hy, hw⟩ := hr.reads
  obtain ⟨r0, r1⟩ := bounds_u64 hr0
  have hml : m ≤ maxLen := Nat.le_trans hcp hml
  have HV := Lib.hid (live9_any w hG)
  obtain ⟨b, HFew⟩ := few_any x len cap xa 24 w hx hn hlb
  clear hr hc1 hc2
  cases b
  · clear hx hy hG hw hm hn hml hcp hax
    go_enter Tryd.func6, Tryd.ntmps6
    go_wp2_with (first
      | (go_at_call 7; refine HV.out.mono ?_; rintro e w1 ⟨rfl, b1⟩; have B1 := Lib.hid b1; clear b1)
      | (go_at_call 8; refine (HFew.out _ B1.out).mono ?_; rintro e w2 ⟨rfl, b2⟩; have B2 := Lib.hid (below_then B1.out b2); clear b2))
    go_ret
    exact ⟨rfl, B2.out⟩
  · by_cases k1 : 30 < m
    · have d1 : decide (30 < (m : Int)) = true := by simp; omega
      clear hx hy hG hw hm hn hml hcp hax
      go_enter Tryd.func6, Tryd.ntmps6
      go_wp2_with (first
        | (go_at_call 7; refine HV.out.mono ?_; rintro e w1 ⟨rfl, b1⟩; have B1 := Lib.hid b1; clear b1)
        | (go_at_call 8; refine (HFew.out _ B1.out).mono ?_; rintro e w2 ⟨rfl, b2⟩; have B2 := Lib.hid (below_then B1.out b2); clear b2))
      go_ret
      exact ⟨rfl, B2.out⟩
    · have d1 : decide (30 < (m : Int)) = false := by simp; omega
      by_cases hE : wordsE p xa xs = 0
      · exact seedsums_main p x len cap xa inv y m cap' xs r w hG hx hn hlb hax hy hm hw hcp (by omega) r0 (by omega) (wordsE_zero hE) HFew
      · have HE := Lib.hid (fun W (hB : Below w.heap.size w W) => Expect_any p x len cap xa inv y m cap' xs r W (hG.then hB) ((hx.below hB).more hB.size) hn hlb ((hy.below hB).more hB.size) hm hw hml hcp r0 (by omega))
        rw [exN_no hE] at HE
        have HD := Lib.hid (fun W (hB : Below w.heap.size w W) => do_any p x len cap xa inv y m cap' xs W (hG.then hB) ((hx.below hB).more hB.size) hn hlb ((hy.below hB).more hB.size) hm hw hml)
        rw [doL_no hE] at HD
        have HV2 := Lib.hid (fun (y1 : Option Addr) (c1 : Nat) W => Eval_any p r y1 0 c1 [] W Reads.nil rfl (fun j => by simp) (by omega) r0 (by omega))
        have t := ne_of_bne hE
        generalize wordsE p xa xs = er at HD HE t
        generalize evalN p [] r = en at HV2
        generalize evalE p 0 = ee at HV2
        have t2 : (er != er) = false := bne_self' _
        have t3 : (er == er) = true := by simp
        clear hE
        clear hx hy hG hw hm hn hml hcp hax
        go_enter Tryd.func6, Tryd.ntmps6
        go_wp2_with (first
          | (go_at_call 7; refine HV.out.mono ?_; rintro e w1 ⟨rfl, b1⟩; have B1 := Lib.hid b1; clear b1)
          | (go_at_call 8; refine (HFew.out _ B1.out).mono ?_; rintro e w2 ⟨rfl, b2⟩; have B2 := Lib.hid (below_then B1.out b2); clear b2)
          | (go_at_call 11; refine (HE.out _ B2.out).mono ?_; rintro e w3 ⟨rfl, b3⟩; have B3 := Lib.hid (below_then B2.out b3); clear b3)
          | (go_at_call 15; refine (HD.out _ B3.out).mono ?_; rintro e w4 ⟨v, rfl, hO, b4⟩; obtain ⟨y1, c1, rfl, -, -, -, -⟩ := hO.form; have B4 := Lib.hid (below_then B3.out b4); clear b4 hO; simp only [List.length_nil])
          | (go_at_call 19; refine (HV2.out _ _ _).mono ?_; rintro e w5 ⟨rfl, b5⟩; have B5 := Lib.hid (below_then B4.out b5); clear b5))
        go_ret
        exact ⟨rfl, B5.out⟩

end Go.Proofs.YtmeeldhejbdgjaaDoor
