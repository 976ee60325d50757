/-
  The walk of the law StepPlaces: it returns true for every prime, all axes, every step, either way; nothing that was there is written.
-/
import Derived.Test.YtphghklhknadoaaDoorStepA
import Derived.Test.YtphghklhknadoaaDoorGrids
import Derived.Deep.CutRange
import Derived.Deep.RegionWith
namespace Go.Proofs.YtphghklhknadoaaDoor
open Go.RowKit

theorem made_tly {W W' : World} {g n : Nat} (hg : g = W.heap.size) (hown : W'.ownsRow W.heap.size 3 1 (.slice (some ⟨W.heap.size, 0, none⟩) n n) n (madeCells (Value.int .i64 0).cells (n * 1)).toList) : Owns .i64 3 W' g (.slice (some ⟨g, 0, none⟩) n n) (Stp.tly n []) := by
  rw [show (Value.int .i64 0).cells = #[.int .i64 0] from rfl, toList_madeCells_one, Nat.mul_one] at hown
  rw [hg, Stp.tly_nil]
  unfold Owns
  rw [List.length_replicate, List.map_replicate]
  exact hown

theorem cell_far (w : World) (p a : Addr) (v : Value) (h : a.block ≠ p.block) : (w.setCell p v).cell? a = w.cell? a := by
  have := Below.heap_setCell w p v a.block h
  simp [World.cell?, this]

set_option maxRecDepth 100000 in
set_option maxHeartbeats 8000000 in
theorem stepplaces_yes {G : World → Prop} (H : StepHas G) (HG : GrpHas G) (p : Int) (x : Option Addr) (n cap : Nat) (xa : List Ax) (inv : Bool) (s : Sp) (w : World) (hG : G w) (hx : ReadsA w w.heap.size x xa) (hn : xa.length = n) (hlb : n ≤ 8796093022208) (hs : SpIn s)
    (hok : Stp.Sok p xa s) (HFew : Hid (∀ W, Below w.heap.size w W → Calls Tryd.prog 13 #[.slice x n cap, .int .i64 100] W (RetB (.bool true) W))) :
    Calls Tryd.prog 8 #[.int .u64 p, .slice x n cap, .bool inv, spV s] w fun e w' => e = .returned (.bool true) ∧ Below w.heap.size w w' := by
  have HB := Lib.hid (below_al (Below.refl _ w) (.cells #[.int .i64 s.ax, .bool s.tw, .int .i64 s.st.r, .int .i64 s.st.l, .int .i64 s.st.m] 27))
  have HS := Lib.hid (SpAt.new w 27 s)
  have HV := Lib.hid (live16_any H _ (H.keep hG HB.out))
  obtain ⟨i1, hti, hy0, hy1, hy2⟩ := info_parts info_int
  have HY2 := Lib.hid hy2
  have hk4 : xa.length ≤ 4 := by have := hok.ax.ok.four; rwa [szs_len] at this
  have hn0 : 0 < xa.length := by have := hok.hi; omega
  have HGr := Lib.hid (fun W (hB : Below w.heap.size w W) => HG.groups p x n cap xa s W (H.keep hG hB) ((hx.below hB).more hB.size) hn hlb hs)
  have HT := Lib.hid (fun W (hB : Below w.heap.size w W) => H.table p x n cap xa inv s W (H.keep hG hB) ((hx.below hB).more hB.size) hn hlb hs)
  unfold grpL at HGr
  rw [hok.zero, if_pos rfl] at HGr
  have htl : (Stp.tabL p xa inv s).length = Stp.tabn xa s := by rw [hok.tab]; simp
  rw [hok.zero] at HT
  have HTL := Lib.hid htl
  have hAx : ∀ k, k < n → (xa.getD k noAx).n = ((Sh.prod ((szs xa).take (k + 1)) / Sh.prod ((szs xa).take k) : Nat) : Int) ∧ True := fun k hk => ⟨by
    rw [← Sh.prod_take _ k (by rw [szs_len]; omega), Nat.mul_div_cancel_left _ (hok.ax.ok.pos_take k)]
    exact hok.ax.int (by omega), trivial⟩
  have HMul : Hid (∀ k, k < n → ((Sh.prod ((szs xa).take k) : Nat) : Int) * (xa.getD k noAx).n = ((Sh.prod ((szs xa).take (k + 1)) : Nat) : Int)) := Lib.hid (fun k hk => by
    rw [hok.ax.int (by omega), ← Sh.prod_take _ k (by rw [szs_len]; omega), Int.natCast_mul]
    rfl)
  have HLe : Hid (∀ k, Sh.prod ((szs xa).take k) ≤ 4096) := Lib.hid (fun k => hok.ax.ok.le_take k)
  have HP0 : Hid (Sh.prod ((szs xa).take 0) = 1) := Lib.hid (by simp [Sh.prod])
  have HPn : Hid (Sh.prod ((szs xa).take n) = Sh.prod (szs xa)) := Lib.hid (by rw [List.take_of_length_le (by rw [szs_len]; omega)])
  have HOk := Lib.hid (fun g (hg : g ∈ Stp.grp xa s) => Stp.grp_ok hok hg)
  have HIn := Lib.hid (fun i (hi : i < Sh.prod (szs xa)) => Stp.inn_once hok hi)
  have HOu := Lib.hid (fun i (hi : i < Sh.prod (szs xa)) => Stp.out_once hok hi)
  have HFa : Hid (∀ u, u < Stp.tabn xa s → 1 ≤ ((Stp.grp xa s).flatMap Gp.fac).count u) := Lib.hid (fun u hu => List.one_le_count_iff.2 (Stp.fac_all hok hu))
  have hP1 := hok.ax.ok.here
  have hP2 := hok.ax.ok.le
  have hT2 : Stp.tabn xa s ≤ 4096 := by
    unfold Stp.tabn
    cases hts : s.tw
    · rw [if_neg (by simp)]
      have h3 := Stp.three_of_sok hok hts
      have := hok.ax.L_le hok.hi
      have hl := h3.l1
      have e := h3.all
      have : s.st.m.toNat * s.st.r.toNat ≤ gL xa s.ax.toNat := by
        rw [← e, Nat.mul_comm s.st.m.toNat]
        exact Nat.le_mul_of_pos_left _ hl
      omega
    · rw [if_pos rfl]
      exact hok.ax.L_le hok.hi
  have hgl := Stp.grp_len hok
  generalize Stp.tabL p xa inv s = tb at HT HTL
  generalize Stp.tabn xa s = T at HTL HOk HFa hT2
  generalize Stp.grp xa s = gs at HGr HOk HIn HOu HFa hgl
  generalize hPr : (fun k => Sh.prod ((szs xa).take k)) = pr
  have hpr : ∀ k, Sh.prod ((szs xa).take k) = pr k := fun k => by rw [← hPr]
  simp only [hpr] at HMul HLe HP0 HPn
  generalize Sh.prod (szs xa) = P at HOk HIn HOu HPn hP1 hP2
  have HX := Lib.hid hx
  have HXn := Lib.hid hn
  clear hPr hpr hAx hx hG hn hlb H HG hok htl hs hy2
  obtain ⟨sax, stw, sr, sl, sm⟩ := s
  unfold spV at HT HGr ⊢
  dsimp only at HB HS HV HT HGr ⊢
  go_enter Tryd.func8, Tryd.ntmps8
  go_upto_region 11 with (first
    | (go_at_call 12; refine HV.out.mono ?_; rintro e w1 ⟨rfl, b1⟩; have B1 := Lib.hid (below_then HB.out b1); have S1 := Lib.hid (HS.out.then b1); clear b1 HS)
    | (go_at_call 13; refine (HFew.out _ B1.out).mono ?_; rintro e w2 ⟨rfl, b2⟩; have B2 := Lib.hid (below_then B1.out b2); have S2 := Lib.hid (S1.out.then b2); obtain ⟨k0, k1, k2, k3, k4⟩ := S2.out; dsimp only at k0 k1 k2 k3 k4; clear b2 S1)
    | (go_at_call 23; refine (HGr.out _ B2.out).mono ?_; rintro e w3 ⟨xg, cg, rfl, hrg, b3⟩; have RG := Lib.hid hrg; have B3 := Lib.hid (below_then B2.out b3); have S3 := Lib.hid (S2.out.then b3); obtain ⟨q0, q1, q2, q3, q4⟩ := S3.out; dsimp only at q0 q1 q2 q3 q4; clear b3 hrg k0 k1 k2 k3 k4 S2)
    | (go_at_call 21; refine (HT.out _ B3.out).mono ?_; rintro e w4 ⟨v, rfl, hO, b4⟩; obtain ⟨y1, c1, rfl, -, -, hr1, -⟩ := hO.form; replace RG := Lib.hid ((RG.out.below b4).more b4.size); have B4 := Lib.hid (below_then B3.out b4); rw [HTL.out]; clear b4 hO hr1 q0 q1 q2 q3 q4 S3))
  have HXw := Lib.hid (HX.out (by omega))
  obtain ⟨bx, ox, rfl, hbx, hcx⟩ := HXw.out
  have HCx := Lib.hid hcx
  clear hcx HXw HX HV HFew HGr HT HB B1 B2 B3
  go_loopw [13, 65] (fun v i wr => ∃ j : Nat, j ≤ n ∧ i = .int .i64 (j : Int) ∧ v = .int .i64 ((pr j : Nat) : Int) ∧ Hid (Below w4.heap.size w4 wr)) (fun _ i _ => n - (intOf i).toNat)
  case atStart => exact ⟨0, Nat.zero_le _, rfl, by rw [HP0.out]; rfl, Lib.hid (Below.refl _ _)⟩
  case round =>
    obtain ⟨j, hj, rfl, rfl, HBr⟩ := hrel
    have hn4 : n ≤ 4 := by have := HXn.out; omega
    by_cases hlj : j < n
    · have hdj : decide (j < n) = true := by simpa using hlj
      obtain ⟨a1, a2⟩ := HCx.out j (by have := HXn.out; omega)
      have bw := below_then B4.out HBr.out
      have k1 := (bw.cell (p := ⟨bx, ox + j * 2, none⟩) hbx).trans a1
      have k2 := (bw.cell (p := ⟨bx, ox + j * 2 + 1, none⟩) hbx).trans a2
      have hmu := HMul.out j hlj
      have l1 := HLe.out (j + 1)
      have l0 := HLe.out j
      obtain ⟨z, hz⟩ : ∃ z, z = (xa.getD j noAx).n := ⟨_, rfl⟩
      obtain ⟨ng, hng⟩ : ∃ z, z = (xa.getD j noAx).neg := ⟨_, rfl⟩
      rw [← hz] at k1 hmu
      rw [← hng] at k2
      clear a1 a2 hz hng bw
      go_wp2
      go_roundw
      case rel => exact ⟨j + 1, by omega, by go_num, rfl, Lib.hid (below_al HBr.out _)⟩
      case measure => simp [intOf]; omega
    · obtain rfl : j = n := by omega
      have hdj : decide (j < j) = false := by simp
      rw [HPn.out]
      have BW := Lib.hid (below_then B4.out HBr.out)
      have RW := Lib.hid ((RG.out.below HBr.out).more HBr.out.size)
      clear RG HCx
      obtain ⟨W5, rfl⟩ : ∃ W, W = wr := ⟨_, rfl⟩
      go_upto_region 16 with (at_make; refine wpList_make_full _ rfl _ _ 58 rfl W5.heap.size 3 i1 (.int .i64 0) 1 Tryd.underlying58 hti hy0 hy1 .i64 .i64 _ _ P rfl rfl rfl rfl (by rw [HY2.out]; omega) (by unfold maxLen; omega) (Nat.le_refl _) ?_; intro v6 hown6 hgrow6)
      go_upto_region 17 with (at_make; refine wpList_make_full _ rfl _ _ 58 rfl v6.heap.size 3 i1 (.int .i64 0) 1 Tryd.underlying58 hti hy0 hy1 .i64 .i64 _ _ P rfl rfl rfl rfl (by rw [HY2.out]; omega) (by unfold maxLen; omega) (Nat.le_refl _) ?_; intro v7 hown7 hgrow7)
      go_upto_region 19 with (at_make; refine wpList_make_full _ rfl _ _ 58 rfl v7.heap.size 3 i1 (.int .i64 0) 1 Tryd.underlying58 hti hy0 hy1 .i64 .i64 _ _ T rfl rfl rfl rfl (by rw [HY2.out]; omega) (by unfold maxLen; omega) (Nat.le_refl _) ?_; intro v8 hown8 hgrow8)
      have b6 : Below W5.heap.size W5 v6 := (Below.refl _ W5).grown hgrow6 (Nat.le_refl _) (fun k e => by cases e)
      have b7 : Below v6.heap.size v6 v7 := (Below.refl _ v6).grown hgrow7 (Nat.le_refl _) (fun k e => by cases e)
      have b8 : Below v7.heap.size v7 v8 := (Below.refl _ v7).grown hgrow8 (Nat.le_refl _) (fun k e => by cases e)
      obtain ⟨g1, hg1⟩ : ∃ g, g = W5.heap.size := ⟨_, rfl⟩
      obtain ⟨g2, hg2⟩ : ∃ g, g = v6.heap.size := ⟨_, rfl⟩
      obtain ⟨g3, hg3⟩ : ∃ g, g = v7.heap.size := ⟨_, rfl⟩
      have m6 := made_tly hg1 hown6
      have m7 := made_tly hg2 hown7
      have m8 := made_tly hg3 hown8
      have l12 : g1 < g2 := by rw [hg2]; exact (World.ownsRow.lt m6 g1 rfl).2
      have l23 : g2 < g3 := by rw [hg3]; exact (World.ownsRow.lt m7 g2 rfl).2
      have M6 := Lib.hid ((m6.below b7).below b8)
      have M7 := Lib.hid (m7.below b8)
      have M8 := Lib.hid m8
      have T8 := Lib.hid (below_then (below_then b6 b7) b8)
      rw [← hg1] at T8 RW ⊢
      rw [← hg2, ← hg3]
      have HG1 := Lib.hid hg1
      clear b6 b7 b8 m6 m7 m8 hown6 hown7 hown8 hgrow6 hgrow7 hgrow8 hg1 hg2 hg3 hti hy0 hy1 HY2 HMul HLe HP0 HPn hdj B4 HBr
      go_loopw [83] (fun i wr => ∃ j : Nat, j ≤ gs.length ∧ i = .int .i64 (j : Int) ∧ Hid (Owns .i64 3 wr g1 (.slice (some ⟨g1, 0, none⟩) P P) (Stp.tly P (Stp.acc Gp.inn gs noGp j 0))) ∧ Hid (Owns .i64 3 wr g2 (.slice (some ⟨g2, 0, none⟩) P P) (Stp.tly P (Stp.acc Gp.out gs noGp j 0))) ∧ Hid (Owns .i64 3 wr g3 (.slice (some ⟨g3, 0, none⟩) T T) (Stp.tly T (Stp.acc Gp.fac gs noGp j 0))) ∧ Hid (Below g1 W5 wr)) (fun i _ => gs.length - (intOf i).toNat)
      case atStart => exact ⟨0, Nat.zero_le _, rfl, by rw [Stp.acc_start]; exact M6, by rw [Stp.acc_start]; exact M7, by rw [Stp.acc_start]; exact M8, T8⟩
      case round =>
        obtain ⟨j, hj, rfl, HI, HO, HU, HBr⟩ := hrel
        by_cases hlj : j < gs.length
        · have hdj : decide (j < gs.length) = true := by simpa using hlj
          obtain ⟨bg, og, rfl, hbg, hcg⟩ := RW.out (by omega)
          obtain ⟨o1, o2, o3, o4, o5, o6, o7⟩ := HOk.out _ (Stp.get_memG (d := noGp) hlj)
          obtain ⟨⟨x1, c1', e1, r1⟩, ⟨x2, c2', e2, r2⟩, ⟨x3, c3', e3, r3⟩⟩ := hcg j hlj
          have HAI := Lib.hid (fun r => Stp.acc_le (f := Gp.inn) (gs := gs) (d := noGp) (j := j) (r := r) (fun g hg => (HOk.out g hg).2.2.2.1) (by omega))
          have HAO := Lib.hid (fun r => Stp.acc_le (f := Gp.out) (gs := gs) (d := noGp) (j := j) (r := r) (fun g hg => by have := (HOk.out g hg).1; have := (HOk.out g hg).2.2.2.1; omega) (by omega))
          have HAU := Lib.hid (fun r => Stp.acc_le (f := Gp.fac) (gs := gs) (d := noGp) (j := j) (r := r) (fun g hg => by have := (HOk.out g hg).1; have := (HOk.out g hg).2.1; have := (HOk.out g hg).2.2.2.1; omega) (by omega))
          have HMI := Lib.hid (fun r => Stp.acc_more (f := Gp.inn) (gs := gs) (d := noGp) (j := j) (r := r))
          have HMO := Lib.hid (fun r => Stp.acc_more (f := Gp.out) (gs := gs) (d := noGp) (j := j) (r := r))
          have HMU := Lib.hid (fun r => Stp.acc_more (f := Gp.fac) (gs := gs) (d := noGp) (j := j) (r := r))
          have HNI := Lib.hid (Stp.acc_next (f := Gp.inn) (gs := gs) (d := noGp) (j := j) (r := (gs.getD j noGp).inn.length) hlj rfl)
          have HNO := Lib.hid (Stp.acc_next (f := Gp.out) (gs := gs) (d := noGp) (j := j) (r := (gs.getD j noGp).out.length) hlj rfl)
          have HNU := Lib.hid (Stp.acc_next (f := Gp.fac) (gs := gs) (d := noGp) (j := j) (r := (gs.getD j noGp).fac.length) hlj rfl)
          obtain ⟨gp, hgp⟩ : ∃ gp, gp = gs.getD j noGp := ⟨_, rfl⟩
          rw [← hgp] at e1 e2 e3 r1 r2 r3 o1 o2 o3 o4 o5 o6 o7 HMI HMO HMU HNI HNO HNU
          obtain ⟨l, hld⟩ : ∃ l, l = gp.out.length := ⟨_, rfl⟩
          rw [o1] at e1 o3 o4 HNI
          rw [o2] at e2 HNU
          rw [← hld] at e1 e2 e3 o1 o2 o3 o4 HNI HNO HNU
          obtain ⟨b1, q1, rfl, hb1, hc1⟩ := r1 (by rw [Sh.ints_len]; omega)
          obtain ⟨b2, q2, rfl, hb2, hc2⟩ := r2 (by rw [Sh.ints_len]; omega)
          obtain ⟨b3, q3, rfl, hb3, hc3⟩ := r3 (by rw [Sh.ints_len]; omega)
          have k0 := (HBr.out.cell (p := ⟨bg, og + j * 3, none⟩) hbg).trans e1
          have k1 := (HBr.out.cell (p := ⟨bg, og + j * 3 + 1, none⟩) hbg).trans e2
          have k2 := (HBr.out.cell (p := ⟨bg, og + j * 3 + 2, none⟩) hbg).trans e3
          have O5 := Lib.hid o5
          have O6 := Lib.hid o6
          have O7 := Lib.hid o7
          have O1 := Lib.hid o1
          have O2 := Lib.hid o2
          have O3 := Lib.hid hld.symm
          have HC1 := Lib.hid hc1
          have HC2 := Lib.hid hc2
          have HC3 := Lib.hid hc3
          have hj4 : j < 4096 := by omega
          have nn : ((l : Int) != (l : Int)) = false := by simp
          have n0 : ((l : Int) == 0) = false := by simp; omega
          obtain ⟨gv, hgv⟩ : ∃ g, g = wr.heap.size := ⟨_, rfl⟩
          have lv : g3 < gv := by rw [hgv]; exact (World.ownsRow.lt HU.out g3 rfl).2
          have HGV := Lib.hid hgv
          clear hgp hcg e1 e2 e3 r1 r2 r3 o1 o2 o5 o6 o7 hc1 hc2 hc3 RW hld hgv
          go_upto_region 21 with fail
          obtain ⟨V, hV⟩ : ∃ V, V = wr.alloc (.cells #[.slice (some ⟨b1, q1, none⟩) l c1', .slice (some ⟨b2, q2, none⟩) l c2', .slice (some ⟨b3, q3, none⟩) l c3'] 60) := ⟨_, rfl⟩
          have C0 : V.cell? ⟨gv, 0, none⟩ = some (.slice (some ⟨b1, q1, none⟩) l c1') := by rw [hV, HGV.out]; simp
          have C1 : V.cell? ⟨gv, 1, none⟩ = some (.slice (some ⟨b2, q2, none⟩) l c2') := by rw [hV, HGV.out]; simp
          have C2 : V.cell? ⟨gv, 2, none⟩ = some (.slice (some ⟨b3, q3, none⟩) l c3') := by rw [hV, HGV.out]; simp
          have HIV : Hid (Owns .i64 3 V g1 (.slice (some ⟨g1, 0, none⟩) P P) (Stp.tly P (Stp.acc Gp.inn gs noGp j 0))) := Lib.hid (by rw [hV]; exact HI.out.alloc _)
          have HOV : Hid (Owns .i64 3 V g2 (.slice (some ⟨g2, 0, none⟩) P P) (Stp.tly P (Stp.acc Gp.out gs noGp j 0))) := Lib.hid (by rw [hV]; exact HO.out.alloc _)
          have HUV : Hid (Owns .i64 3 V g3 (.slice (some ⟨g3, 0, none⟩) T T) (Stp.tly T (Stp.acc Gp.fac gs noGp j 0))) := Lib.hid (by rw [hV]; exact HU.out.alloc _)
          have HBV : Hid (Below g1 W5 V) := Lib.hid (by rw [hV]; exact HBr.out.alloc (by have := HGV.out; omega) _)
          rw [← hV, ← HGV.out]
          clear hV k0 k1 k2 HI HO HU HBr
          go_wp2
          go_loopw [112] (fun i wi => ∃ r : Nat, r ≤ l ∧ i = .int .i64 (r : Int) ∧ Hid (Owns .i64 3 wi g1 (.slice (some ⟨g1, 0, none⟩) P P) (Stp.tly P (Stp.acc Gp.inn gs noGp j r))) ∧ Hid (Owns .i64 3 wi g2 (.slice (some ⟨g2, 0, none⟩) P P) (Stp.tly P (Stp.acc Gp.out gs noGp j r))) ∧ Hid (Owns .i64 3 wi g3 (.slice (some ⟨g3, 0, none⟩) T T) (Stp.tly T (Stp.acc Gp.fac gs noGp j r))) ∧ Hid (Below g1 W5 wi) ∧ Hid (∀ o, wi.cell? ⟨gv, o, none⟩ = V.cell? ⟨gv, o, none⟩)) (fun i _ => l - (intOf i).toNat)
          case atStart => exact ⟨0, Nat.zero_le _, rfl, HIV, HOV, HUV, HBV, Lib.hid (fun _ => rfl)⟩
          case round =>
            obtain ⟨r, hr, rfl, HI, HO, HU, HBd, HCv⟩ := hrel
            by_cases hlr : r < l
            · have hdr : decide (r < l) = true := by simpa using hlr
              have D0 := (HCv.out 0).trans C0
              have D1 := (HCv.out 1).trans C1
              have D2 := (HCv.out 2).trans C2
              have a1 := (HBd.out.cell (p := ⟨b1, q1 + r, none⟩) hb1).trans (HC1.out r (by rw [Sh.ints_len, O1.out]; exact hlr))
              have a2 := (HBd.out.cell (p := ⟨b2, q2 + r, none⟩) hb2).trans (HC2.out r (by rw [Sh.ints_len, O2.out]; exact hlr))
              have a3 := (HBd.out.cell (p := ⟨b3, q3 + r, none⟩) hb3).trans (HC3.out r (by rw [Sh.ints_len, O3.out]; exact hlr))
              rw [Sh.ints_get] at a1 a2 a3
              have m1 := O5.out _ (Stp.get_mem (l := gp.inn) (q := r) (by rw [O1.out]; exact hlr))
              have m2 := O7.out _ (Stp.get_mem (l := gp.fac) (q := r) (by rw [O2.out]; exact hlr))
              have m3 := O6.out _ (Stp.get_mem (l := gp.out) (q := r) (by rw [O3.out]; exact hlr))
              have w1 := HMI.out r (by rw [O1.out]; exact hlr)
              have w2 := HMU.out r (by rw [O2.out]; exact hlr)
              have w3 := HMO.out r (by rw [O3.out]; exact hlr)
              have s1 := HAI.out r
              have s2 := HAU.out r
              have s3 := HAO.out r
              obtain ⟨z1, hz1⟩ : ∃ z, z = gp.inn.getD r 0 := ⟨_, rfl⟩
              obtain ⟨z2, hz2⟩ : ∃ z, z = gp.fac.getD r 0 := ⟨_, rfl⟩
              obtain ⟨z3, hz3⟩ : ∃ z, z = gp.out.getD r 0 := ⟨_, rfl⟩
              rw [← hz1] at a1 m1 w1
              rw [← hz2] at a2 m2 w2
              rw [← hz3] at a3 m3 w3
              have p1 := Stp.tly_put (Stp.acc Gp.inn gs noGp j r) m1
              have p2 := Stp.tly_put (Stp.acc Gp.fac gs noGp j r) m2
              have p3 := Stp.tly_put (Stp.acc Gp.out gs noGp j r) m3
              have y1' := Stp.tly_bd (Stp.acc Gp.inn gs noGp j r) m1
              have y2' := Stp.tly_bd (Stp.acc Gp.fac gs noGp j r) m2
              have y3' := Stp.tly_bd (Stp.acc Gp.out gs noGp j r) m3
              rw [← w1] at p1
              rw [← w2] at p2
              rw [← w3] at p3
              have cm1 := HI.out.num (Stp.tly_len _ _) m1
              have fz1 := HI.out.melt (Stp.tly_len _ _) z1
              have cm2 := HU.out.num (Stp.tly_len _ _) m2
              have fz2 := HU.out.melt (Stp.tly_len _ _) z2
              have cm3 := HO.out.num (Stp.tly_len _ _) m3
              have fz3 := HO.out.melt (Stp.tly_len _ _) z3
              obtain ⟨v1, hv1⟩ : ∃ v, v = (Stp.tly P (Stp.acc Gp.inn gs noGp j r)).getD z1 0 := ⟨_, rfl⟩
              obtain ⟨v2, hv2⟩ : ∃ v, v = (Stp.tly T (Stp.acc Gp.fac gs noGp j r)).getD z2 0 := ⟨_, rfl⟩
              obtain ⟨v3, hv3⟩ : ∃ v, v = (Stp.tly P (Stp.acc Gp.out gs noGp j r)).getD z3 0 := ⟨_, rfl⟩
              rw [← hv1] at p1 y1' cm1
              rw [← hv2] at p2 y2' cm2
              rw [← hv3] at p3 y3' cm3
              have dz1 : decide ((z1 : Int) < 0) = false := by simp
              have dz2 : decide ((z2 : Int) < 0) = false := by simp
              have dz3 : decide ((z3 : Int) < 0) = false := by simp
              have dm1 : decide (P ≤ z1) = false := by simp; omega
              have dm2 : decide (T ≤ z2) = false := by simp; omega
              have dm3 : decide (P ≤ z3) = false := by simp; omega
              have P1 := Lib.hid p1
              have P2 := Lib.hid p2
              have P3 := Lib.hid p3
              clear hz1 hz2 hz3 hv1 hv2 hv3 p1 p2 p3 w1 w2 w3
              go_upto_region 29 with fail
              obtain ⟨Wa, hWa⟩ : ∃ W, W = wr.setCell ⟨g1, z1, none⟩ (.int .i64 (v1 + 1)) := ⟨_, rfl⟩
              have qa : ∀ a : Addr, a.block ≠ g1 → Wa.cell? a = wr.cell? a := fun a h => by rw [hWa]; exact cell_far _ _ _ _ h
              have HIa : Hid (Owns .i64 3 Wa g1 (.slice (some ⟨g1, 0, none⟩) P P) (Stp.tly P (Stp.acc Gp.inn gs noGp j (r + 1)))) := Lib.hid (by rw [hWa, P1.out]; exact HI.out.put (Stp.tly_len _ _) z1 (v1 + 1))
              have HOa : Hid (Owns .i64 3 Wa g2 (.slice (some ⟨g2, 0, none⟩) P P) (Stp.tly P (Stp.acc Gp.out gs noGp j r))) := Lib.hid (by rw [hWa]; exact HO.out.else (Stp.tly_len _ _) (ad := ⟨g1, z1, none⟩) (by show g2 ≠ g1; omega) _)
              have HUa : Hid (Owns .i64 3 Wa g3 (.slice (some ⟨g3, 0, none⟩) T T) (Stp.tly T (Stp.acc Gp.fac gs noGp j r))) := Lib.hid (by rw [hWa]; exact HU.out.else (Stp.tly_len _ _) (ad := ⟨g1, z1, none⟩) (by show g3 ≠ g1; omega) _)
              have HBa : Hid (Below g1 W5 Wa) := Lib.hid (by rw [hWa]; exact HBd.out.setCell (p := ⟨g1, z1, none⟩) (Nat.le_refl _) _)
              have HCa : Hid (∀ o, Wa.cell? ⟨gv, o, none⟩ = V.cell? ⟨gv, o, none⟩) := Lib.hid (fun o => (qa ⟨gv, o, none⟩ (by show gv ≠ g1; omega)).trans (HCv.out o))
              have D1a := (HCa.out 1).trans C1
              have D2a := (HCa.out 2).trans C2
              have a2a := (qa ⟨b2, q2 + r, none⟩ (by show b2 ≠ g1; omega)).trans a2
              have a3a := (qa ⟨b3, q3 + r, none⟩ (by show b3 ≠ g1; omega)).trans a3
              have cm2a := (qa ⟨g3, z2, none⟩ (by show g3 ≠ g1; omega)).trans cm2
              have cm3a := (qa ⟨g2, z3, none⟩ (by show g2 ≠ g1; omega)).trans cm3
              have fz3a := HOa.out.melt (Stp.tly_len _ _) z3
              rw [← hWa]
              clear hWa qa D0 D1 D2 a1 a2 a3 cm1 cm2 cm3 fz1 fz2 fz3 HI HO HU HBd HCv
              go_upto_region 30 with fail
              obtain ⟨Wb, hWb⟩ : ∃ W, W = Wa.setCell ⟨g2, z3, none⟩ (.int .i64 (v3 + 1)) := ⟨_, rfl⟩
              have qb : ∀ a : Addr, a.block ≠ g2 → Wb.cell? a = Wa.cell? a := fun a h => by rw [hWb]; exact cell_far _ _ _ _ h
              have HIb : Hid (Owns .i64 3 Wb g1 (.slice (some ⟨g1, 0, none⟩) P P) (Stp.tly P (Stp.acc Gp.inn gs noGp j (r + 1)))) := Lib.hid (by rw [hWb]; exact HIa.out.else (Stp.tly_len _ _) (ad := ⟨g2, z3, none⟩) (by show g1 ≠ g2; omega) _)
              have HOb : Hid (Owns .i64 3 Wb g2 (.slice (some ⟨g2, 0, none⟩) P P) (Stp.tly P (Stp.acc Gp.out gs noGp j (r + 1)))) := Lib.hid (by rw [hWb, P3.out]; exact HOa.out.put (Stp.tly_len _ _) z3 (v3 + 1))
              have HUb : Hid (Owns .i64 3 Wb g3 (.slice (some ⟨g3, 0, none⟩) T T) (Stp.tly T (Stp.acc Gp.fac gs noGp j r))) := Lib.hid (by rw [hWb]; exact HUa.out.else (Stp.tly_len _ _) (ad := ⟨g2, z3, none⟩) (by show g3 ≠ g2; omega) _)
              have HBb : Hid (Below g1 W5 Wb) := Lib.hid (by rw [hWb]; exact HBa.out.setCell (p := ⟨g2, z3, none⟩) (by show g1 ≤ g2; omega) _)
              have HCb : Hid (∀ o, Wb.cell? ⟨gv, o, none⟩ = V.cell? ⟨gv, o, none⟩) := Lib.hid (fun o => (qb ⟨gv, o, none⟩ (by show gv ≠ g2; omega)).trans (HCa.out o))
              have D1b := (HCb.out 1).trans C1
              have a2b := (qb ⟨b2, q2 + r, none⟩ (by show b2 ≠ g2; omega)).trans a2a
              have cm2b := (qb ⟨g3, z2, none⟩ (by show g3 ≠ g2; omega)).trans cm2a
              have fz2b := HUb.out.melt (Stp.tly_len _ _) z2
              rw [← hWb]
              clear hWb qb D1a D2a a2a a3a cm2a cm3a fz3a HIa HOa HUa HBa HCa
              go_wp2
              go_roundw
              case rel =>
                refine ⟨r + 1, by omega, by go_num, Lib.hid (HIb.out.else (Stp.tly_len _ _) (ad := ⟨g3, z2, none⟩) (by show g1 ≠ g3; omega) _), Lib.hid (HOb.out.else (Stp.tly_len _ _) (ad := ⟨g3, z2, none⟩) (by show g2 ≠ g3; omega) _), Lib.hid ?_, Lib.hid (HBb.out.setCell (p := ⟨g3, z2, none⟩) (by show g1 ≤ g3; omega) _), Lib.hid fun o => (cell_far _ _ _ _ (by show gv ≠ g3; omega)).trans (HCb.out o)⟩
                rw [P2.out]
                exact HUb.out.put (Stp.tly_len _ _) z2 (v2 + 1)
              case measure => simp [intOf]; omega
            · obtain rfl : r = l := by omega
              have hdr : decide (r < r) = false := by simp
              rw [HNI.out] at HI
              rw [HNO.out] at HO
              rw [HNU.out] at HU
              go_wp2
              go_roundw
              case rel => exact ⟨j + 1, by omega, by go_num, HI, HO, HU, HBd⟩
              case measure => simp [intOf]; omega
        · obtain rfl : j = gs.length := by omega
          have hdj : decide (gs.length < gs.length) = false := by simp
          rw [Stp.acc_all] at HI HO HU
          have BR : Hid (Below w.heap.size w wr) := Lib.hid (by
            have := HBr.out
            rw [HG1.out] at this
            exact below_then BW.out this)
          clear RW hj hlj HBr
          obtain ⟨W9, rfl⟩ : ∃ W, W = wr := ⟨_, rfl⟩
          go_wp2
          go_loopw [198] (fun i wi => ∃ q : Nat, q ≤ P ∧ i = .int .i64 (q : Int) ∧ wi = W9) (fun i _ => P - (intOf i).toNat)
          case atStart => exact ⟨0, Nat.zero_le _, rfl, rfl⟩
          case round =>
            obtain ⟨q, hq, rfl, rfl⟩ := hrel
            by_cases hlq : q < P
            · have hdq : decide (q < P) = true := by simpa using hlq
              have c1 := HI.out.num (Stp.tly_len _ _) hlq
              have c2 := HO.out.num (Stp.tly_len _ _) hlq
              rw [Stp.tly_get _ hlq, HIn.out q hlq] at c1
              rw [Stp.tly_get _ hlq, HOu.out q hlq] at c2
              go_wp2
              go_roundw
              case rel => exact ⟨q + 1, by omega, by go_num, trivial⟩
              case measure => simp [intOf]; omega
            · obtain rfl : q = P := by omega
              have hdq : decide (q < q) = false := by simp
              go_wp2
              obtain ⟨W8, rfl⟩ : ∃ W, W = wr := ⟨_, rfl⟩
              go_loopw [216] (fun i wi => ∃ r : Nat, r ≤ T ∧ i = .int .i64 (r : Int) ∧ wi = W8) (fun i _ => T - (intOf i).toNat)
              case atStart => exact ⟨0, Nat.zero_le _, rfl, rfl⟩
              case round =>
                obtain ⟨r, hr, rfl, rfl⟩ := hrel
                by_cases hlr : r < T
                · have hdr : decide (r < T) = true := by simpa using hlr
                  have c3 := HU.out.num (Stp.tly_len _ _) hlr
                  rw [Stp.tly_get _ hlr] at c3
                  have h1 := HFa.out r hlr
                  obtain ⟨c, hc⟩ : ∃ c, c = List.count r (List.flatMap Gp.fac gs) := ⟨_, rfl⟩
                  rw [← hc] at c3 h1
                  have dc : decide ((c : Int) < 1) = false := by simp; omega
                  clear hc
                  go_wp2
                  go_roundw
                  case rel => exact ⟨r + 1, by omega, by go_num, trivial⟩
                  case measure => simp [intOf]; omega
                · obtain rfl : r = T := by omega
                  have hdr : decide (r < r) = false := by simp
                  go_wp2
                  go_ret
                  exact ⟨rfl, BR.out⟩

set_option maxRecDepth 100000 in
set_option maxHeartbeats 4000000 in
theorem stepplaces_any {G : World → Prop} (H : StepHas G) (HG : GrpHas G) (p : Int) (x : Option Addr) (n cap : Nat) (xa : List Ax) (inv : Bool) (s : Sp) (w : World) (hG : G w) (hx : ReadsA w w.heap.size x xa) (hn : xa.length = n) (hlb : n ≤ 8796093022208) (hs : SpIn s) :
    Calls Tryd.prog 8 #[.int .u64 p, .slice x n cap, .bool inv, spV s] w fun e w' => e = .returned (.bool true) ∧ Below w.heap.size w w' := by
  have HB := Lib.hid (below_al (Below.refl _ w) (.cells #[.int .i64 s.ax, .bool s.tw, .int .i64 s.st.r, .int .i64 s.st.l, .int .i64 s.st.m] 27))
  have HS := Lib.hid (SpAt.new w 27 s)
  have HV := Lib.hid (live16_any H _ (H.keep hG HB.out))
  obtain ⟨b, HFew⟩ := few_any x n cap xa 100 w hx hn hlb
  cases b
  · clear hx hG hn H HG hs
    obtain ⟨sax, stw, sr, sl, sm⟩ := s
    unfold spV
    dsimp only at HB HS HV ⊢
    go_enter Tryd.func8, Tryd.ntmps8
    go_wp2_with (first
      | (go_at_call 12; refine HV.out.mono ?_; rintro e w1 ⟨rfl, b1⟩; have B1 := Lib.hid (below_then HB.out b1); have S1 := Lib.hid (HS.out.then b1); clear b1 HS)
      | (go_at_call 13; refine (HFew.out _ B1.out).mono ?_; rintro e w2 ⟨rfl, b2⟩; have B2 := Lib.hid (below_then B1.out b2); have S2 := Lib.hid (S1.out.then b2); obtain ⟨k0, k1, k2, k3, k4⟩ := S2.out; dsimp only at k0 k1 k2 k3 k4; clear b2 S1))
    go_ret
    exact ⟨rfl, B2.out⟩
  by_cases hE : Stp.stepE p xa s = 0
  · exact stepplaces_yes H HG p x n cap xa inv s w hG hx hn hlb hs (Stp.stepE_zero hE) HFew
  · have HGr := Lib.hid (fun W (hB : Below w.heap.size w W) => HG.groups p x n cap xa s W (H.keep hG hB) ((hx.below hB).more hB.size) hn hlb hs)
    have HT := Lib.hid (fun W (hB : Below w.heap.size w W) => H.table p x n cap xa inv s W (H.keep hG hB) ((hx.below hB).more hB.size) hn hlb hs)
    have htl : Stp.tabL p xa inv s = [] := by unfold Stp.tabL; rw [if_neg hE]
    unfold grpL at HGr
    rw [if_neg hE] at HGr
    rw [htl] at HT
    have t := ne_of_bne hE
    have nn : (Stp.stepE p xa s != Stp.stepE p xa s) = false := by simp
    have nq : (Stp.stepE p xa s == Stp.stepE p xa s) = true := by simp
    generalize Stp.stepE p xa s = er at HGr HT t nn nq
    clear hx hG hn H HG hs hE htl
    obtain ⟨sax, stw, sr, sl, sm⟩ := s
    unfold spV at HT HGr ⊢
    dsimp only at HB HS HV HT HGr ⊢
    go_enter Tryd.func8, Tryd.ntmps8
    go_wp2_with (first
      | (go_at_call 12; refine HV.out.mono ?_; rintro e w1 ⟨rfl, b1⟩; have B1 := Lib.hid (below_then HB.out b1); have S1 := Lib.hid (HS.out.then b1); clear b1 HS)
      | (go_at_call 13; refine (HFew.out _ B1.out).mono ?_; rintro e w2 ⟨rfl, b2⟩; have B2 := Lib.hid (below_then B1.out b2); have S2 := Lib.hid (S1.out.then b2); obtain ⟨k0, k1, k2, k3, k4⟩ := S2.out; dsimp only at k0 k1 k2 k3 k4; clear b2 S1)
      | (go_at_call 23; refine (HGr.out _ B2.out).mono ?_; rintro e w3 ⟨xg, cg, rfl, -, b3⟩; have B3 := Lib.hid (below_then B2.out b3); have S3 := Lib.hid (S2.out.then b3); obtain ⟨q0, q1, q2, q3, q4⟩ := S3.out; dsimp only at q0 q1 q2 q3 q4; simp only [List.length_nil]; clear b3 k0 k1 k2 k3 k4 S2)
      | (go_at_call 21; refine (HT.out _ B3.out).mono ?_; rintro e w4 ⟨v, rfl, hO, b4⟩; obtain ⟨y1, c1, rfl, -, -, -, -⟩ := hO.form; have B4 := Lib.hid (below_then B3.out b4); simp only [List.length_nil]; clear b4 hO q0 q1 q2 q3 q4 S3))
    go_ret
    exact ⟨rfl, B4.out⟩

theorem stepplaces_walk {G : World → Prop} (H : StepHas G) (HG : GrpHas G) (p : Int) (x : Option Addr) (len cap : Nat) (xa : List Ax) (inv : Bool) (s : Sp) (w : World) (_hp : (Lit.int .u64 p).wf = true) (hA : AxisIn w x len cap xa) (hlb : len ≤ 8796093022208) (hs : SpIn s) (hG : G w) :
    Calls Tryd.prog 8 #[.int .u64 p, .slice x len cap, .bool inv, spV s] w fun e w' => e = .returned (.bool true) ∧ Below w.heap.size w w' := by
  obtain ⟨hn, hc1, hc2, hx, -⟩ := hA
  exact stepplaces_any H HG p x len cap xa inv s w hG hx hn hlb hs

end Go.Proofs.YtphghklhknadoaaDoor
