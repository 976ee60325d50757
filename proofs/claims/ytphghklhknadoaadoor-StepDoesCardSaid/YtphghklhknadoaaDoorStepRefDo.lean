/-
  Several texts in one: RefStepDo, RefStepPr.
-/
import Derived.Test.YtphghklhknadoaaDoorStepRefs
import Derived.Test.YtphghklhknadoaaDoorFlys
import Derived.Test.YtphghklhknadoaaDoorStepB
import Derived.Test.YtphghklhknadoaaDoorPairs

/-!   What the document's Do of layer 16 comes to (brackenref16), of words that it takes.
-/

namespace Go.Proofs.YtphghklhknadoaaDoor
open Go.RowKit Go.Shelf

set_option maxRecDepth 100000 in
set_option maxHeartbeats 4000000 in
theorem rdo16_ok (p : Int) (x : Option Addr) (cap : Nat) (xa : List Ax) (inv : Bool) (s : Sp) (b off cap' : Nat) (xs : List Int) (w : World) (hx : ReadsA w w.heap.size x xa) (hl : xa.length ≤ 8796093022208) (hb : b < w.heap.size) (hc : ∀ j, j < xs.length → w.cell? ⟨b, off + j, none⟩ = some (.int .u64 (xs.getD j 0))) (hw : Words xs) (hW : Stp.Wok p xa s xs) (hin : Fp.isIn p (fun j => xs.getD j 0) xs.length = true) :
    Calls Tryd.prog 15 #[.int .u64 p, .slice x xa.length cap, .bool inv, spV s, .slice (some ⟨b, off, none⟩) xs.length cap'] w (LineRet w (Stp.stp p xa inv s xs) 0) := by
  have hs := hW.ok
  have hlen := hW.len
  have hkb := Fp.kn_bd hs.ax.kn
  have hp0 : 0 ≤ p ∧ p < 18446744073709551616 := by omega
  have hb0 := below_al (Below.refl w.heap.size w) (.cells #[.int .i64 s.ax, .bool s.tw, .int .i64 s.st.r, .int .i64 s.st.l, .int .i64 s.st.m] 27)
  have HB0 := Lib.hid hb0
  have HS0 := Lib.hid (SpAt.new w 27 s)
  have HGr := Lib.hid (rgroups16_any p x xa.length cap xa s _ ((hx.below hb0).more hb0.size) rfl hl)
  have HTb := Lib.hid (fun W (hB : Below w.heap.size w W) => rtable16_any p x xa.length cap xa inv s W ((hx.below hB).more hB.size) rfl hl)
  unfold grpL at HGr
  rw [hs.zero, if_pos rfl] at HGr
  rw [hs.tab, hs.zero] at HTb
  obtain ⟨tn1, tn2⟩ := hs.tab_le
  have HTLn : Hid (((List.range (Stp.tabn xa s)).map (Stp.tabN p xa inv s)).length = Stp.tabn xa s) := Lib.hid (by simp)
  have HTN : Hid (∀ j, j < Stp.tabn xa s → ((List.range (Stp.tabn xa s)).map (Stp.tabN p xa inv s)).getD j 0 = Stp.tabN p xa inv s j) := Lib.hid (fun j hj => getD_range _ hj)
  have HD := Lib.hid (fun W (hB : Below w.heap.size w W) => rdims_any x xa.length cap xa W ((hx.below hB).more hB.size) rfl hl)
  have HDL := Lib.hid (dims_len xa)
  have hn1 : 1 ≤ xa.length := by have := hs.ax.ok.one; rwa [szs_len] at this
  have HAll := Lib.hid (fun W y c hr => rall_ok (szs xa) hs.ax.ok y xa.length c W W.heap.size hr (szs_len xa))
  have HIs : Hid (dims xa = Sh.ints (szs xa)) := Lib.hid hs.ax.is
  have hP1 := hs.ax.ok.here
  have hP4 := hs.ax.ok.le
  have HXc := Lib.hid hc
  have HIn := Lib.hid (fun W (hW : Below w.heap.size w W) => rin_row p b off xs.length cap' (fun j => xs.getD j 0) W (by omega) (fun j hj => (hW.cell (p := ⟨b, off + j, none⟩) hb).trans (hc j hj)))
  have hnn : (((Sh.prod (szs xa) : Nat) : Int) != (xs.length : Int)) = false := by rw [hlen]; simp
  rw [hin] at HIn
  have HOk := Lib.hid (fun g (hg : g ∈ Stp.grp xa s) => Stp.grp_ok hs hg)
  have HV := Lib.hid (fun g (hg : g ∈ Stp.grp xa s) m (hm : m < g.out.length) => Stp.g_value hW hg inv hm)
  have HTB := Lib.hid (fun g (hg : g ∈ Stp.grp xa s) j => Stp.gtl_bd hW hw hg inv j)
  have HTL := Lib.hid (fun g (hg : g ∈ Stp.grp xa s) => Stp.gtl_len hW hg inv)
  have HNB : Hid (∀ k, 0 ≤ Stp.tabN p xa inv s k ∧ Stp.tabN p xa inv s k < 18446744073709551616) := Lib.hid (fun k => by have := Stp.tabN_bd (xa := xa) (inv := inv) (s := s) hs.ax.kn k; omega)
  have HGn := Lib.hid (fun g => Stp.gin_len xs g)
  have HGg := Lib.hid (fun (g : Gp) (j : Nat) (hj : j < g.inn.length) => Stp.gin_get (xs := xs) hj)
  have HTw : Hid (s.tw = true → ∀ g, Stp.gtl p inv s xs g = Stp.gin xs g) := Lib.hid (fun ht g => by unfold Stp.gtl; rw [if_pos ht])
  have HFly : Hid (s.tw = false → ∀ g, g ∈ Stp.grp xa s → ∀ V y c m, (Stp.gin xs g).length = m → m ≤ 5 → Reads .u64 V V.heap.size y (Stp.gin xs g) → Calls Tryd.prog 42 #[.int .u64 p, .bool inv, .slice y m c] V (RetY V (Stp.gtl p inv s xs g) 0)) := Lib.hid (fun ht g hg V y c m hm hm5 hr => by
    have := rdo15_any p inv y m c (Stp.gin xs g) V hr hm (Stp.gin_words hw g) (by unfold maxLen; omega)
    rw [(Stp.gin_fine hW ht hg).zero] at this
    unfold Stp.gtl
    rw [if_neg (by simp [ht])]
    exact this)
  have HAl : Hid (∀ i, i < xs.length → Stp.wrt (Stp.stpN p xa inv s xs) (Stp.grp xa s) i = Stp.stpN p xa inv s xs i) := Lib.hid (fun i hi => Stp.wrt_all hs _ (by rw [← hlen]; exact hi))
  have HSt : Hid ((List.range xs.length).map (Stp.stpN p xa inv s xs) = Stp.stp p xa inv s xs) := Lib.hid rfl
  have hgl := Stp.grp_len hs
  have hlo : xs.length ≤ 4096 := by omega
  have hmx : Tryd.prog.follows .mixedOrders = true := by kernel_rfl
  obtain ⟨i0, hi, hz0, hz1, hz2⟩ := info_parts info_u64
  have HZ2 := Lib.hid hz2
  have HI := Lib.hid (fun (l : List Nat) j => ints_getD l j)
  have HIl := Lib.hid (fun (l : List Nat) => Sh.ints_len l)
  rw [← hlen] at HOk
  generalize Stp.stp p xa inv s xs = res at HSt ⊢
  generalize Stp.gtl p inv s xs = tl at HV HTB HTL HTw HFly
  generalize Stp.gin xs = gn at HGn HGg HTw HFly
  generalize Stp.stpN p xa inv s xs = f at HV HAl HSt
  generalize hT : (List.range (Stp.tabn xa s)).map (Stp.tabN p xa inv s) = tb at HTb HTLn HTN
  generalize Stp.tabN p xa inv s = tf at HV HNB HTN hT
  generalize Stp.tabn xa s = tn at tn1 tn2 HTLn HTN HOk hT
  generalize Stp.grp xa s = gs at HGr HOk HV HTB HTL HFly HAl hgl
  obtain ⟨P, hPd⟩ : ∃ P, P = Sh.prod (szs xa) := ⟨_, rfl⟩
  rw [← hPd] at HAll hP1 hP4 hnn hlen
  obtain ⟨n, hnd⟩ : ∃ n, n = xs.length := ⟨_, rfl⟩
  rw [← hnd] at HXc HIn hnn HOk HAl HSt hlo hlen ⊢
  have hbw := hb
  obtain ⟨ax, tw, st⟩ := s
  unfold spV at HGr HTb ⊢
  dsimp only at HB0 HS0 HGr HTb HTw HFly ⊢
  clear hx hc hw hW hin hs hkb hb0 hT hPd hnd hl hb hlen
  go_enter Tryd.func15, Tryd.ntmps15
  go_upto_region 11 with (first
    | (go_at_call 24; refine HGr.out.mono ?_; rintro e w2 ⟨xg, cg, rfl, hrg, b2⟩; have RG2 := Lib.hid hrg; have B2 := Lib.hid (below_then HB0.out b2); have S2 := Lib.hid (HS0.out.then b2); clear b2 hrg)
    | (go_at_call 34; refine (HD.out _ B2.out).mono ?_; rintro e w3 ⟨v, rfl, hO, b3⟩; obtain ⟨xd, cd, rfl, hcd, -, -, hgd⟩ := hO.form; rw [HDL.out] at hcd hgd ⊢; have RD := Lib.hid hO.reads; rw [HIs.out] at RD; have B3 := Lib.hid (below_then B2.out b3); have S3 := Lib.hid (S2.out.then b3); have RG3 := Lib.hid ((RG2.out.below b3).more b3.size); obtain ⟨k0, k1, k2, k3, k4⟩ := S3.out; dsimp only at k0 k1 k2 k3 k4; clear hO b3 hgd)
    | (go_at_call 33; refine (HAll.out w3 _ cd RD.out).mono ?_; rintro e w' ⟨rfl, rfl⟩)
    | (go_at_call 41; refine (HIn.out w3 B3.out).mono ?_; rintro e w' ⟨rfl, rfl⟩)
    | (go_at_call 22; refine (HTb.out w3 B3.out).mono ?_; intro e w5 hr; obtain ⟨gt, ct, rfl, hg1, hg2, -, -, hO, b5⟩ := LineRet.open hr HTLn.out tn1; have B5 := Lib.hid (below_then B3.out b5); have S5 := Lib.hid (S3.out.then b5); have RG5 := Lib.hid ((RG3.out.below b5).more b5.size); have O5 := Lib.hid hO; clear hr hO b5 k0 k1 k2 k3 k4)
    | (at_make; refine wpList_make_full _ rfl _ _ 28 rfl w.heap.size 22 i0 (.int .u64 0) 1 Tryd.underlying28 hi hz0 hz1 .i64 .i64 _ _ n rfl rfl rfl rfl (by rw [HZ2.out]; omega) (by unfold maxLen; omega) B5.out.size ?_; intro w6 hown6 hgrow6))
  have hY6 := RowAt.start hown6
  have b6 : Below w5.heap.size w5 w6 := (Below.refl _ w5).grown hgrow6 (Nat.le_refl _) (fun k e => by cases e)
  obtain ⟨gy, hgy⟩ : ∃ g, g = w5.heap.size := ⟨_, rfl⟩
  have hlw : w.heap.size < gy := by rw [hgy]; exact S5.out.lt
  have B6 : Hid (Below w.heap.size w w6) := Lib.hid (below_then B5.out b6)
  have hgy6 := hY6.lt.2
  have HK : Hid (∀ V, Below gy w6 V → (∀ j, j < n → V.cell? ⟨b, off + j, none⟩ = some (.int .u64 (xs.getD j 0))) ∧ (∀ j, j < tn → V.cell? ⟨gt, j, none⟩ = some (.int .u64 (tf j))) ∧ SpAt V w.heap.size ⟨ax, tw, st⟩ ∧ ReadsG V gy xg gs) := Lib.hid (fun V hV => by
    refine ⟨fun j hj => (hV.cell (p := ⟨b, off + j, none⟩) (by show b < gy; omega)).trans ((B6.out.cell (p := ⟨b, off + j, none⟩) hbw).trans (HXc.out j hj)), fun j hj => ?_, (S5.out.then b6).below hlw hV, ?_⟩
    · have a1 := O5.out.num HTLn.out hj
      rw [HTN.out j hj] at a1
      exact (hV.cell (p := ⟨gt, j, none⟩) (by show gt < gy; omega)).trans ((b6.cell (p := ⟨gt, j, none⟩) hg2).trans a1)
    · have := RG5.out.below b6
      rw [← hgy] at this
      exact this.below hV)
  rw [← hgy] at hY6 hgy6 ⊢
  have HY6L : Hid (gy < w6.heap.size) := Lib.hid hgy6
  have HY6 : Hid (RowAt .u64 22 w6 w.heap.size gy n (Stp.wrt f (gs.take 0))) := Lib.hid (hY6.congr (fun i _ => (by rw [List.take_zero, Stp.wrt_nil] : (0 : Int) = Stp.wrt f (gs.take 0) i)))
  clear hY6 b6 hown6 hgrow6 RG5 O5 S5 B5 RG3 S3 B3 RG2 S2 B2 HGr HTb HD HAll HIn HS0 HB0 hgy RD HXc hcd hg1 hg2
  go_wp2
  go_loopw [63] (fun i wr => ∃ j : Nat, j ≤ gs.length ∧ i = .int .i64 (j : Int) ∧ Hid (Below gy w6 wr ∧ RowAt .u64 22 wr w.heap.size gy n (Stp.wrt f (gs.take j)))) (fun i _ => gs.length - (intOf i).toNat)
  case atStart => exact ⟨0, Nat.zero_le _, rfl, Lib.hid ⟨Below.refl _ _, HY6.out⟩⟩
  case round =>
    clear HY6
    obtain ⟨j, hj, rfl, HR⟩ := hrel
    by_cases hlt : j < gs.length
    · have hdj : decide (j < gs.length) = true := decide_eq_true hlt
      have hmem := Stp.get_memG (d := noGp) hlt
      obtain ⟨l1, l2, l3, l4, hin, hout, hfac⟩ := HOk.out _ hmem
      obtain ⟨c1, c2, c3, c4⟩ := HK.out _ HR.out.1
      obtain ⟨bg, og, rfl, hbg, hcg⟩ := c4 (by omega)
      obtain ⟨⟨x1, y1, e1, r1⟩, ⟨x2, y2, e2, r2⟩, ⟨x3, y3, e3, r3⟩⟩ := hcg j hlt
      have HVg := Lib.hid (HV.out _ hmem)
      have HTBg := Lib.hid (HTB.out _ hmem)
      have HTLg := Lib.hid (HTL.out _ hmem)
      have HGng := Lib.hid (HGn.out (gs.getD j noGp))
      have HGgg := Lib.hid (HGg.out (gs.getD j noGp))
      have HTwg := Lib.hid (fun ht => HTw.out ht (gs.getD j noGp))
      have HFlg := Lib.hid (fun ht => HFly.out ht _ hmem)
      have HTk := Lib.hid (Stp.take_snoc gs noGp j hlt)
      have hWW := HR.out.1
      have hYY := HR.out.2
      obtain ⟨pre, hpre⟩ : ∃ pre, pre = gs.take j := ⟨_, rfl⟩
      rw [← hpre] at HTk hYY
      generalize gs.getD j noGp = g at e1 e2 e3 r1 r2 r3 l1 l2 l3 l4 hin hout hfac HVg HTBg HTLg HGng HGgg HTwg HFlg HTk
      generalize tl g = tlg at HVg HTBg HTLg HTwg HFlg
      generalize gn g = gl at HGng HGgg HTwg HFlg
      rw [l1] at e1 l3 l4 HTLg HGng
      rw [l2] at e2
      have L1 := Lib.hid l1
      have L2 := Lib.hid l2
      have HOFI := Lib.hid (fun q (hq : q < g.inn.length) => hin _ (Stp.get_memG (d := 0) hq))
      have HOF : Hid (∀ q, q < g.out.length → g.out.getD q 0 < n ∧ g.fac.getD q 0 < tn) := Lib.hid (fun q hq => ⟨hout _ (Stp.get_memG hq), hfac _ (Stp.get_memG (by rw [l2]; exact hq))⟩)
      have H0 : Hid (∀ i, Stp.wrm f pre g 0 i = Stp.wrt f pre i) := Lib.hid (fun i => Stp.wrm_zero _ _ _ _)
      have H9 : Hid (∀ i, Stp.wrm f pre g g.out.length i = Stp.wrt f (pre ++ [g]) i) := Lib.hid (fun i => Stp.wrm_all _ _ _ _)
      have HH := Lib.hid (fun q (hq : q < g.out.length) => Stp.wrm_here f pre g hq)
      have HE := Lib.hid (fun q i (hq : q < g.out.length) (hi : i ≠ g.out.getD q 0) => Stp.wrm_else f pre g hq hi)
      obtain ⟨b1, q1, rfl, hb1, hc1⟩ := r1 (by rw [HIl.out]; omega)
      obtain ⟨b2, q2, rfl, hb2, hc2⟩ := r2 (by rw [HIl.out]; omega)
      obtain ⟨b3, q3, rfl, hb3, hc3⟩ := r3 (by rw [HIl.out]; omega)
      obtain ⟨V0, rfl⟩ : ∃ V, V = wr := ⟨_, rfl⟩
      obtain ⟨m, hm⟩ : ∃ m, m = g.out.length := ⟨_, rfl⟩
      rw [← hm] at e1 e2 e3 l3 l4 HTLg HGng HOF H9 HH HE HVg L1 L2
      have HCC : Hid (∀ V, Below V0.heap.size V0 V → ∀ q, q < m → V.cell? ⟨b1, q1 + q, none⟩ = some (.int .i64 ((g.inn.getD q 0 : Nat) : Int)) ∧ V.cell? ⟨b2, q2 + q, none⟩ = some (.int .i64 ((g.fac.getD q 0 : Nat) : Int)) ∧ V.cell? ⟨b3, q3 + q, none⟩ = some (.int .i64 ((g.out.getD q 0 : Nat) : Int))) := Lib.hid (fun V hV q hq => by
        have h1 := hc1 q (by rw [HIl.out, L1.out]; exact hq)
        have h2 := hc2 q (by rw [HIl.out, L2.out]; exact hq)
        have h3 := hc3 q (by rw [HIl.out, ← hm]; exact hq)
        rw [HI.out] at h1 h2 h3
        have := hWW.size
        exact ⟨(hV.cell (p := ⟨b1, q1 + q, none⟩) (by show b1 < _; omega)).trans h1, (hV.cell (p := ⟨b2, q2 + q, none⟩) (by show b2 < _; omega)).trans h2, (hV.cell (p := ⟨b3, q3 + q, none⟩) (by show b3 < _; omega)).trans h3⟩)
      have HCD : Hid (∀ V, Below gy w6 V → ∀ q, q < m → V.cell? ⟨b1, q1 + q, none⟩ = some (.int .i64 ((g.inn.getD q 0 : Nat) : Int)) ∧ V.cell? ⟨b2, q2 + q, none⟩ = some (.int .i64 ((g.fac.getD q 0 : Nat) : Int)) ∧ V.cell? ⟨b3, q3 + q, none⟩ = some (.int .i64 ((g.out.getD q 0 : Nat) : Int))) := Lib.hid (fun V hV q hq => by
        obtain ⟨h1, h2, h3⟩ := HCC.out V0 (Below.refl _ _) q hq
        exact ⟨(hV.cell (p := ⟨b1, q1 + q, none⟩) hb1).trans ((hWW.cell (p := ⟨b1, q1 + q, none⟩) hb1).symm.trans h1), (hV.cell (p := ⟨b2, q2 + q, none⟩) hb2).trans ((hWW.cell (p := ⟨b2, q2 + q, none⟩) hb2).symm.trans h2), (hV.cell (p := ⟨b3, q3 + q, none⟩) hb3).trans ((hWW.cell (p := ⟨b3, q3 + q, none⟩) hb3).symm.trans h3)⟩)
      have HW0 := Lib.hid hWW
      have HY0 := Lib.hid hYY
      clear HCC hc1 hc2 hc3 r1 r2 r3 hin hout hfac c1 c2 c3 c4 hcg l1 l2 hmem HR hWW hYY hpre hm
      go_upto_region 14 with fail
      obtain ⟨V1, hV1⟩ : ∃ V, V = V0.alloc (.cells #[.slice (some ⟨b1, q1, none⟩) m y1, .slice (some ⟨b2, q2, none⟩) m y2, .slice (some ⟨b3, q3, none⟩) m y3] 60) := ⟨_, rfl⟩
      have hB1 : Below V0.heap.size V0 V1 := by rw [hV1]; exact below_al (Below.refl _ _) _
      have hT1 : Trip V1 V0.heap.size 60 (.slice (some ⟨b1, q1, none⟩) m y1) (.slice (some ⟨b2, q2, none⟩) m y2) (.slice (some ⟨b3, q3, none⟩) m y3) := by rw [hV1]; exact Trip.new _ _ _ _ _
      have HT1 := Lib.hid hT1
      have hgvy : gy < V0.heap.size := HY0.out.lt.2
      have HW1 := Lib.hid (HW0.out.trans (hB1.mono (Nat.le_trans (Nat.le_of_lt hgy6) HW0.out.size)))
      have HY1 := Lib.hid (HY0.out.below hB1)
      obtain ⟨gv, hgv⟩ : ∃ gv, gv = V0.heap.size := ⟨_, rfl⟩
      rw [← hgv] at HT1 hgvy ⊢
      rw [← hV1]
      clear hV1 hB1 hT1 hgv HW0 HY0 e1 e2 e3
      have k0 := HT1.out.c0
      go_wp2
      clear k0
      go_loopw [21, 70] (fun v i wi => ∃ (k : Nat) (o : Value), k ≤ m ∧ i = .int .i64 (k : Int) ∧ o = v ∧ Hid (Owns .u64 22 wi V1.heap.size o (gl.take k) ∧ Below V1.heap.size V1 wi)) (fun _ i _ => m - (intOf i).toNat)
      case atStart => exact ⟨0, _, Nat.zero_le _, rfl, rfl, Lib.hid ⟨by rw [List.take_zero]; exact Owns.nil, Below.refl _ _⟩⟩
      case round =>
        obtain ⟨k, o, hk, rfl, rfl, HI2⟩ := hrel
        have hszy : gy ≤ V1.heap.size := Nat.le_trans (Nat.le_of_lt hgy6) HW1.out.size
        have HWi := Lib.hid (HW1.out.trans (HI2.out.2.mono hszy))
        by_cases hlk : k < m
        · have hdk : decide (k < m) = true := decide_eq_true hlk
          obtain ⟨c1, -, -, -⟩ := HK.out _ HWi.out
          obtain ⟨e1, -, -⟩ := HCD.out _ HWi.out k hlk
          have hpl := HOFI.out k (by rw [L1.out]; exact hlk)
          have ex := c1 _ hpl
          have hz := HGgg.out k (by rw [L1.out]; exact hlk)
          rw [← hz] at ex
          have hS := Stp.take_snoc gl 0 k (by rw [HGng.out]; exact hlk)
          have hL : (gl.take k).length = k := by rw [List.length_take, HGng.out]; omega
          obtain ⟨z, hz'⟩ : ∃ z, z = gl.getD k 0 := ⟨_, rfl⟩
          rw [← hz'] at ex hS
          obtain ⟨ip, hip⟩ : ∃ ip, ip = g.inn.getD k 0 := ⟨_, rfl⟩
          rw [← hip] at ex e1 hpl
          have HSS := Lib.hid hS
          have HLn := Lib.hid hL
          have O1 := Lib.hid HI2.out.1
          have hsw : V1.heap.size ≤ wr.heap.size := HI2.out.2.size
          have B1' := Lib.hid HI2.out.2
          generalize gl.take k = tk at O1 HLn HSS
          clear hz hz' hip c1 hS hL HI2 HWi
          go_wp2_with (at_builtin; refine wpList_append_num rfl _ _ 28 rfl V1.heap.size 22 i0 .u64 8 Tryd.underlying28 hi hz0 hz1 hz2 o _ rfl (O1.out.alloc _) ⟨wr.heap.size, 0, none⟩ 1 1 [z] rfl (src_one _ _ _ _) (by omega) (by rw [HLn.out]; unfold maxLen; omega) (by rw [HLn.out]; omega) (by simp; omega) ?_; intro v' w6' hown' hgrow hat)
          go_roundw
          case rel =>
            refine ⟨k + 1, _, hlk, by go_num, rfl, Lib.hid ⟨by rw [HSS.out]; exact hown', ?_⟩⟩
            exact (B1'.out.alloc B1'.out.size _).grown hgrow (by rw [World.size_alloc]; exact Nat.le_succ_of_le B1'.out.size) (fun g e => (O1.out.inside e).1)
          case measure => simp [intOf]; omega
        · obtain rfl : k = m := by omega
          have hO2 := HI2.out.1
          rw [List.take_of_length_le (by rw [HGng.out]; exact Nat.le_refl _)] at hO2
          obtain ⟨y, c, rfl, -⟩ := hO2.form
          rw [HGng.out] at hO2 ⊢
          have HR2 := Lib.hid (hO2.readsFrom (Nat.le_refl _))
          obtain ⟨V2, rfl⟩ : ∃ V, V = wr := ⟨_, rfl⟩
          have HB2 := Lib.hid HI2.out.2
          obtain ⟨-, -, S2, -⟩ := HK.out _ HWi.out
          obtain ⟨k0, k1, k2, k3, k4⟩ := S2
          dsimp only at k0 k1 k2 k3 k4
          clear hO2 HI2
          have HDoo : Hid (tw = false → Calls Tryd.prog 42 #[.int .u64 p, .bool inv, .slice y k c] V2 (RetY V2 tlg 0)) := Lib.hid (fun ht => HFlg.out ht V2 y c k HGng.out l4 HR2.out.reads)
          have HTe : Hid (tw = true → tlg = gl) := Lib.hid HTwg.out
          clear HFlg HTwg HWi
          cases tw
          case' false =>
            have HDo := Lib.hid (HDoo.out rfl)
            go_upto_region 22 with (go_at_call 42; refine HDo.out.mono ?_; rintro e V3 ⟨v, rfl, hO, b3'⟩; obtain ⟨y4, c4, rfl, -⟩ := hO.form; rw [HTLg.out] at hO ⊢; have HR4 := Lib.hid (hO.readsFrom HB2.out.size); have HB3 := Lib.hid (below_then HB2.out b3'); clear hO b3')
          case' true =>
            go_upto_region 22 with fail
            obtain ⟨y4, hy4⟩ : ∃ z, z = y := ⟨_, rfl⟩
            obtain ⟨c4, hc4⟩ : ∃ z, z = c := ⟨_, rfl⟩
            obtain ⟨V3, hV3⟩ : ∃ z, z = V2 := ⟨_, rfl⟩
            rw [← hy4, ← hV3] at HR2
            rw [← HTe.out rfl] at HR2
            have HR4 := Lib.hid HR2.out
            have HB3 : Hid (Below V1.heap.size V1 V3) := Lib.hid (by rw [hV3]; exact HB2.out)
            rw [← hy4, ← hc4, ← hV3]
            clear hy4 hc4 hV3
          all_goals
            clear k0 k1 k2 k3 k4 HR2 HDoo HTe HB2
            have hW3 := HW1.out.trans (HB3.out.mono hszy)
            have HW3 := Lib.hid hW3
            have HT3 := Lib.hid (HT1.out.below HB3.out HT1.out.lt)
            obtain ⟨b4, o4, rfl, hb4, hb4', hc4⟩ := HR4.out (by rw [HTLg.out]; omega)
            have HTl := Lib.hid HT1.out.lt
            have HY3 : Hid (RowAt .u64 22 V3 w.heap.size gy n (Stp.wrm f pre g 0)) := Lib.hid ((HY1.out.below HB3.out).congr (fun i _ => (H0.out i).symm))
            have HC4 := Lib.hid hc4
            have hgyV : gy < V1.heap.size := HY1.out.lt.2
            have HgvV : Hid (gy < gv ∧ gv < V3.heap.size) := Lib.hid ⟨hgvy, HT3.out.lt⟩
            have e20 := HT3.out.c2
            clear hc4 hW3 HR4
            go_wp2
            clear e20
            go_loopw [95] (fun i wr => ∃ q : Nat, q ≤ k ∧ i = .int .i64 (q : Int) ∧ Hid (But (fun t => t = gy) V3 wr ∧ RowAt .u64 22 wr w.heap.size gy n (Stp.wrm f pre g q))) (fun i _ => k - (intOf i).toNat)
            case atStart => exact ⟨0, Nat.zero_le _, rfl, Lib.hid ⟨But.refl _ _, HY3.out⟩⟩
            case round =>
              clear HY3
              obtain ⟨q, hq, rfl, HR⟩ := hrel
              obtain ⟨V4, rfl⟩ : ∃ V, V = wr := ⟨_, rfl⟩
              have HW4 := Lib.hid (HW3.out.trans (HR.out.1.below (Nat.le_trans (Nat.le_of_lt HY6L.out) HW3.out.size) (fun t ht => by omega)))
              by_cases hlq : q < k
              · have hdq : decide (q < k) = true := decide_eq_true hlq
                obtain ⟨e1, e2, e3⟩ := HCD.out V4 HW4.out q hlq
                obtain ⟨-, c2, -, -⟩ := HK.out V4 HW4.out
                obtain ⟨o1, o2⟩ := HOF.out q hlq
                have e4 := c2 _ o2
                have e5 := (cell_block (o := o4 + q) (HR.out.1.block b4 hb4' (by omega))).trans (HC4.out q (by rw [HTLg.out]; exact hlq))
                have e6 := (cell_block (o := 1) (HR.out.1.block gv HgvV.out.2 (by have := HgvV.out.1; omega))).trans HT3.out.c1
                have hv := HVg.out q hlq
                obtain ⟨a0, a1⟩ := HTBg.out q
                obtain ⟨a2, a3⟩ := HNB.out (g.fac.getD q 0)
                have hs := HR.out.2.set (g.out.getD q 0) (f' := Stp.wrm f pre g (q + 1)) (fun t _ hne => HE.out q t hlq hne)
                rw [HH.out q hlq] at hs
                have hy0 := HR.out.2.cell (g.out.getD q 0) o1
                have hyf := HR.out.2.frozen (g.out.getD q 0)
                have hyl := HR.out.2.lt.2
                have hbs := HR.out.1.trans (But.setCell V4 gy (g.out.getD q 0) (.int .u64 (f (g.out.getD q 0)))) (fun _ _ c => c)
                obtain ⟨z, hz⟩ : ∃ z, z = f (g.out.getD q 0) := ⟨_, rfl⟩
                rw [← hz] at hs hv hbs
                obtain ⟨u, hu⟩ : ∃ u, u = tlg.getD q 0 := ⟨_, rfl⟩
                rw [← hu] at e5 hv a0 a1
                obtain ⟨tv, htv⟩ : ∃ tv, tv = tf (g.fac.getD q 0) := ⟨_, rfl⟩
                rw [← htv] at e4 hv a2 a3
                obtain ⟨fi, hfi⟩ : ∃ fi, fi = g.fac.getD q 0 := ⟨_, rfl⟩
                rw [← hfi] at e2 e4 o2
                obtain ⟨oi, hoi⟩ : ∃ oi, oi = g.out.getD q 0 := ⟨_, rfl⟩
                rw [← hoi] at e3 o1 hs hy0 hyf hbs
                obtain ⟨y0, hy0'⟩ : ∃ y0, y0 = Stp.wrm f pre g q oi := ⟨_, rfl⟩
                rw [← hy0'] at hy0
                have HS := Lib.hid hs
                have HBS := Lib.hid hbs
                have HVV := Lib.hid hv
                have d1 : decide (fi < tn) = true := decide_eq_true o2
                have d2 : decide (oi < n) = true := decide_eq_true o1
                clear hs hbs hv hz hu htv hfi hoi hy0' HR c2 HW4
                go_wp2
                refine region_quiet_tail 17 hmx (by kernel_rfl) ?_
                simp only [List.take_succ_cons, List.take_zero, List.drop_succ_cons, List.drop_zero]
                repeat (go_big_quiet_step ((go_at_call 43; exact Calls.quiet_of_same (flip_same (rmul_any _ _ _ _ (by omega) (by omega) (by omega) (by omega))))))
                refine wpQuiet_nil ?_
                rw [HVV.out]
                rintro w' ⟨nq, rfl⟩
                go_wp2
                go_roundw
                case rel => exact ⟨q + 1, hlq, by go_num, Lib.hid ⟨HBS.out.trans (But.of_below (F := fun _ => False) (draws_below _ _ nq)) (fun _ _ c => c.elim), HS.out.draws nq⟩⟩
                case measure => simp [intOf]; omega
              · obtain rfl : q = k := by omega
                have hR : Hid (Below gy w6 V4 ∧ RowAt .u64 22 V4 w.heap.size gy n (Stp.wrt f (gs.take (j + 1)))) := Lib.hid ⟨HW4.out, by
                  rw [HTk.out]
                  exact HR.out.2.congr (fun t _ => H9.out t)⟩
                clear HR HW4
                go_wp2
                go_roundw
                case rel => exact ⟨j + 1, hlt, by go_num, hR⟩
                case measure => simp [intOf]; omega
    · obtain rfl : j = gs.length := by omega
      have hR : LineRet w res 0 (.returned (.tuple #[.slice (some ⟨gy, 0, none⟩) n n, .int .i64 0])) wr := by
        obtain ⟨h1, h2⟩ := HR.out
        rw [List.take_of_length_le (Nat.le_refl _)] at h2
        have h3 := h2.congr (f' := f) (fun i hi => HAl.out i hi)
        unfold RowAt at h3
        rw [HSt.out] at h3
        exact ⟨_, rfl, h3, B6.out.trans (h1.mono (Nat.le_of_lt hlw))⟩
      clear HR
      go_wp2
      go_ret2
      exact hR

end Go.Proofs.YtphghklhknadoaaDoor

/-!   What the document's Do and Predict of layer 16 come to (brackenref16), over every input: the same.
-/

namespace Go.Proofs.YtphghklhknadoaaDoor
open Go.RowKit Go.Shelf

set_option maxRecDepth 100000 in
set_option maxHeartbeats 2000000 in
theorem rdo16_any (p : Int) (x : Option Addr) (n cap : Nat) (xa : List Ax) (inv : Bool) (s : Sp) (y : Option Addr) (m cap' : Nat) (xs : List Int) (w : World) (hx : ReadsA w w.heap.size x xa) (hn : xa.length = n) (hl : n ≤ 8796093022208)
    (hy : Reads .u64 w w.heap.size y xs) (hm : xs.length = m) (hw : Words xs) (hml : m ≤ maxLen) :
    Calls Tryd.prog 15 #[.int .u64 p, .slice x n cap, .bool inv, spV s, .slice y m cap'] w (LineRet w (Stp.wL p xa inv s xs) (Stp.wE p xa s xs)) := by
  subst hn
  subst hm
  have hb0 := below_al (Below.refl w.heap.size w) (.cells #[.int .i64 s.ax, .bool s.tw, .int .i64 s.st.r, .int .i64 s.st.l, .int .i64 s.st.m] 27)
  have HB0 := Lib.hid hb0
  have HGr := Lib.hid (rgroups16_any p x xa.length cap xa s _ ((hx.below hb0).more hb0.size) rfl hl)
  by_cases hE : Stp.stepE p xa s = 0
  · have hs := Stp.stepE_zero hE
    rw [hE] at HGr
    have HD := Lib.hid (fun W (hB : Below w.heap.size w W) => rdims_any x xa.length cap xa W ((hx.below hB).more hB.size) rfl hl)
    have HDL := Lib.hid (dims_len xa)
    have HAll := Lib.hid (fun W y c hr => rall_ok (szs xa) hs.ax.ok y xa.length c W W.heap.size hr (szs_len xa))
    have HIs : Hid (dims xa = Sh.ints (szs xa)) := Lib.hid hs.ax.is
    have hP1 := hs.ax.ok.here
    have hP4 := hs.ax.ok.le
    have hml' : (xs.length : Int) ≤ 9223372036854775807 := by unfold maxLen at hml; omega
    by_cases hlen : xs.length = Sh.prod (szs xa)
    · obtain ⟨b, off, rfl, hb, hc⟩ := hy (by omega)
      cases hin : Fp.isIn p (fun j => xs.getD j 0) xs.length
      · have HIn := Lib.hid (fun W (hW : Below w.heap.size w W) => rin_row p b off xs.length cap' (fun j => xs.getD j 0) W hml' (fun j hj => (hW.cell (p := ⟨b, off + j, none⟩) hb).trans (hc j hj)))
        have hnn : (((Sh.prod (szs xa) : Nat) : Int) != (xs.length : Int)) = false := by rw [hlen]; simp
        have e1 : Stp.wE p xa s xs = 7 := by unfold Stp.wE; rw [if_neg (by simp [hE]), if_neg (by simp [hlen]), if_pos hin]
        have e2 : Stp.wL p xa inv s xs = [] := Stp.wL_no (by rw [e1]; decide)
        rw [e1, e2]
        rw [hin] at HIn
        obtain ⟨P, hPd⟩ : ∃ P, P = Sh.prod (szs xa) := ⟨_, rfl⟩
        rw [← hPd] at HAll hP1 hP4 hnn hlen
        generalize grpL p xa s = gs at HGr
        obtain ⟨n, hnd⟩ : ∃ n, n = xs.length := ⟨_, rfl⟩
        rw [← hnd] at HIn hnn hml' ⊢
        obtain ⟨ax, tw, st⟩ := s
        unfold spV at HGr ⊢
        dsimp only at HB0 HGr ⊢
        clear hx hy hw hE e1 e2 hs hc hin hPd hml hlen hnd hb0 hl
        go_enter Tryd.func15, Tryd.ntmps15
        go_wp2_with (first
          | (go_at_call 24; refine HGr.out.mono ?_; rintro e w2 ⟨xg, cg, rfl, hrg, b2⟩; have B2 := Lib.hid (below_then HB0.out b2); clear b2 hrg)
          | (go_at_call 34; refine (HD.out _ B2.out).mono ?_; rintro e w3 ⟨v, rfl, hO, b3⟩; obtain ⟨xd, cd, rfl, hcd, -, -, hgd⟩ := hO.form; rw [HDL.out] at hcd hgd ⊢; have RD := Lib.hid hO.reads; rw [HIs.out] at RD; have B3 := Lib.hid (below_then B2.out b3); clear hO b3 hgd)
          | (go_at_call 33; refine (HAll.out w3 _ cd RD.out).mono ?_; rintro e w' ⟨rfl, rfl⟩)
          | (go_at_call 41; refine (HIn.out w3 B3.out).mono ?_; rintro e w' ⟨rfl, rfl⟩))
        go_ret2
        exact ⟨_, rfl, Owns.nil, B3.out⟩
      · have hW := Stp.wE_zero (by unfold Stp.wE; rw [if_neg (by simp [hE]), if_neg (by simp [hlen]), if_neg (by rw [hin]; decide)] : Stp.wE p xa s xs = 0)
        rw [hW.wL, hW.zero]
        exact rdo16_ok p x cap xa inv s b off cap' xs w hx hl hb hc hw hW hin
    · have e1 : Stp.wE p xa s xs = 6 := by unfold Stp.wE; rw [if_neg (by simp [hE]), if_pos hlen]
      have e2 : Stp.wL p xa inv s xs = [] := Stp.wL_no (by rw [e1]; decide)
      rw [e1, e2]
      have hnn : (((Sh.prod (szs xa) : Nat) : Int) != (xs.length : Int)) = true := by rw [bne_iff_ne]; omega
      obtain ⟨P, hPd⟩ : ∃ P, P = Sh.prod (szs xa) := ⟨_, rfl⟩
      rw [← hPd] at HAll hP1 hP4 hnn
      generalize grpL p xa s = gs at HGr
      obtain ⟨n, hnd⟩ : ∃ n, n = xs.length := ⟨_, rfl⟩
      rw [← hnd] at hnn hml' ⊢
      obtain ⟨ax, tw, st⟩ := s
      unfold spV at HGr ⊢
      dsimp only at HB0 HGr ⊢
      clear hx hy hw hE e1 e2 hs hPd hml hlen hnd hb0 hl
      go_enter Tryd.func15, Tryd.ntmps15
      go_wp2_with (first
        | (go_at_call 24; refine HGr.out.mono ?_; rintro e w2 ⟨xg, cg, rfl, hrg, b2⟩; have B2 := Lib.hid (below_then HB0.out b2); clear b2 hrg)
        | (go_at_call 34; refine (HD.out _ B2.out).mono ?_; rintro e w3 ⟨v, rfl, hO, b3⟩; obtain ⟨xd, cd, rfl, hcd, -, -, hgd⟩ := hO.form; rw [HDL.out] at hcd hgd ⊢; have RD := Lib.hid hO.reads; rw [HIs.out] at RD; have B3 := Lib.hid (below_then B2.out b3); clear hO b3 hgd)
        | (go_at_call 33; refine (HAll.out w3 _ cd RD.out).mono ?_; rintro e w' ⟨rfl, rfl⟩))
      go_ret2
      exact ⟨_, rfl, Owns.nil, B3.out⟩
  · have e1 : Stp.wE p xa s xs = Stp.stepE p xa s := by unfold Stp.wE; rw [if_pos hE]
    have e2 : Stp.wL p xa inv s xs = [] := Stp.wL_no (by rw [e1]; exact hE)
    rw [e1, e2]
    have tt := ne_of_bne hE
    generalize grpL p xa s = gs at HGr
    generalize Stp.stepE p xa s = er at HGr tt ⊢
    obtain ⟨ax, tw, t⟩ := s
    unfold spV at HGr ⊢
    dsimp only at HB0 HGr ⊢
    clear hx hy hw hE e1 e2 hb0
    go_enter Tryd.func15, Tryd.ntmps15
    go_wp2_with (go_at_call 24; refine HGr.out.mono ?_; rintro e w2 ⟨xg, cg, rfl, hrg, b2⟩; have B2 := Lib.hid (below_then HB0.out b2); clear b2 hrg)
    go_ret2
    exact ⟨_, rfl, Owns.nil, B2.out⟩

set_option maxRecDepth 100000 in
set_option maxHeartbeats 2000000 in
theorem rpredict16_any (p : Int) (x : Option Addr) (n cap : Nat) (xa : List Ax) (inv : Bool) (s : Sp) (y : Option Addr) (m cap' : Nat) (xs : List Int) (w : World) (hx : ReadsA w w.heap.size x xa) (hn : xa.length = n) (hl : n ≤ 8796093022208)
    (hy : Reads .u64 w w.heap.size y xs) (hm : xs.length = m) (hw : Words xs) (hml : m ≤ maxLen) :
    Calls Tryd.prog 17 #[.int .u64 p, .slice x n cap, .bool inv, spV s, .slice y m cap'] w (RetAr w (pr0 p xa inv s xs) (pr1 p xa inv s xs) (Stp.wE p xa s xs)) := by
  obtain ⟨W1, hW1⟩ : ∃ W, W = (w.alloc (.cells #[.int .i64 s.ax, .bool s.tw, .int .i64 s.st.r, .int .i64 s.st.l, .int .i64 s.st.m] 27)).alloc (.cells #[.int .u64 0, .int .u64 0] 34) := ⟨_, rfl⟩
  have hB1 : Below w.heap.size w W1 := by rw [hW1]; exact below_al (below_al (Below.refl _ _) _) _
  have hA1 : Ar W1 (w.heap.size + 1) 0 0 := by
    have := Ar.new (w.alloc (.cells #[.int .i64 s.ax, .bool s.tw, .int .i64 s.st.r, .int .i64 s.st.l, .int .i64 s.st.m] 27)) 0 0
    rw [World.size_alloc] at this
    rw [hW1]; exact this
  have hS1 : SpAt W1 w.heap.size s := by rw [hW1]; exact (SpAt.new w 27 s).then (below_al (Below.refl _ _) _)
  have hz1 : W1.heap.size = w.heap.size + 1 + 1 := by rw [hW1, World.size_alloc, World.size_alloc]
  have HD := Lib.hid (rdo16_any p x n cap xa inv s y m cap' xs W1 ((hx.below hB1).more hB1.size) hn hl ((hy.below hB1).more hB1.size) hm hw hml)
  have B1 := Lib.hid hB1
  have A1 := Lib.hid hA1
  obtain ⟨k0, k1, k2, k3, k4⟩ := hS1
  unfold pr0 pr1
  by_cases hE : Stp.wE p xa s xs = 0
  · have h := Stp.wE_zero hE
    rw [h.wL, hE] at HD
    rw [hE, if_pos rfl, if_pos rfl]
    have hle := h.le
    have hlen := Stp.stp_len p xa inv s xs
    have hwd := Stp.stp_words h.ok.ax.kn xa inv s xs
    have hsE : Cd.smE p (Stp.stp p xa inv s xs).length = 0 := by
      unfold Cd.smE
      rw [if_neg (by rw [h.ok.ax.kn]; decide), if_neg (by rw [hlen]; omega)]
    have HS := Lib.hid (fun V z c hr => rsums14_any p z (Stp.stp p xa inv s xs).length c (Stp.stp p xa inv s xs) V hr rfl hwd)
    rw [hsE] at HS
    generalize Cd.sm0 p (Stp.stp p xa inv s xs) = s0 at HS ⊢
    generalize Cd.sm1 p (Stp.stp p xa inv s xs) = s1 at HS ⊢
    generalize Stp.stp p xa inv s xs = res at HD HS
    obtain ⟨ax, tw, t⟩ := s
    unfold spV at HD ⊢
    dsimp only at HD hW1 k0 k1 k2 k3 k4 ⊢
    clear hx hy hw hE h hle hlen hwd hsE hA1 hn hl hm hml
    go_enter Tryd.func17, Tryd.ntmps17
    go_upto_region 1 with fail
    rw [← hW1]
    clear hW1
    go_wp2_with (first
      | (go_at_call 15; refine HD.out.mono ?_; rintro e w2 ⟨v, rfl, hO, b2⟩; obtain ⟨x2, c2, rfl, -, -, hr2, -⟩ := hO.form; have A2 := Lib.hid (A1.out.then b2); have B2 := Lib.hid (below_then B1.out b2); have S2 := Lib.hid (HS.out w2 x2 c2 hr2); clear hO b2 hr2 k0 k1 k2 k3 k4)
      | (go_at_call 44; refine S2.out.mono ?_; rintro e w3 ⟨rfl, b3⟩; have A3 := Lib.hid (A2.out.then b3); have B3 := Lib.hid (below_then B2.out b3); have g0 := A3.out.c0; have g1 := A3.out.c1; have f0 := A3.out.fr 0; have f1 := A3.out.fr 1; have gl := A3.out.lt; clear b3; unfold arV))
    refine bodyPost_ret (results_ar rfl _ _ (w.heap.size + 1) _ _ rfl (A3.out.set _ _)) rfl ?_
    exact ⟨rfl, below_set2 B3.out (Nat.le_succ _) _ _⟩
  · have tt := ne_of_bne hE
    rw [if_neg hE, if_neg hE]
    rw [Stp.wL_no hE] at HD
    generalize Stp.wE p xa s xs = er at HD tt ⊢
    obtain ⟨ax, tw, t⟩ := s
    unfold spV at HD ⊢
    dsimp only at HD hW1 k0 k1 k2 k3 k4 ⊢
    clear hx hy hw hE hA1 hn hl hm hml
    go_enter Tryd.func17, Tryd.ntmps17
    go_upto_region 1 with fail
    rw [← hW1]
    clear hW1
    go_wp2_with (go_at_call 15; refine HD.out.mono ?_; rintro e w2 ⟨v, rfl, hO, b2⟩; have A2 := Lib.hid (A1.out.then b2); have B2 := Lib.hid (below_then B1.out b2); have g0 := A2.out.c0; have g1 := A2.out.c1; have f0 := A2.out.fr 0; have f1 := A2.out.fr 1; have gl := A2.out.lt; clear hO b2 k0 k1 k2 k3 k4)
    refine bodyPost_ret (results_ar rfl _ _ (w.heap.size + 1) _ _ rfl (A2.out.set _ _)) rfl ?_
    exact ⟨rfl, below_set2 B2.out (Nat.le_succ _) _ _⟩

end Go.Proofs.YtphghklhknadoaaDoor
