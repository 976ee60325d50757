/-
  What the document's own Axis and Do of layer 7 come to (brackenref07), over every input.
-/
import Derived.Test.YtjmgieepgdjomaaDoorGridDo
import Derived.Test.YtjmgieepgdjomaaDoorLines6
import Derived.Test.YtjmgieepgdjomaaDoorShapes
namespace Go.Proofs.YtjmgieepgdjomaaDoor
open Go.RowKit Go.Shelf

set_option maxRecDepth 100000 in
set_option maxHeartbeats 4000000 in
theorem raxis_ok (p : Int) (x : Option Addr) (n cap : Nat) (xa : List Ax) (a : Nat) (inv : Bool) (y : Option Addr) (m cap' : Nat) (xs : List Int) (w : World) (hx : ReadsA w w.heap.size x xa) (hn : xa.length = n) (ha : a < n) (hy : Reads .u64 w w.heap.size y xs) (hm : xs.length = m) (hw : Words xs) (h : Grid p xa xs) :
    Calls Tryd.prog 10 #[.int .u64 p, .slice x n cap, .int .i64 (a : Int), .bool inv, .slice y m cap'] w (LineRet w (thr p xa a inv xs) 0) := by
  subst hn
  have h4 : xa.length ≤ 4 := by have := h.ax.ok.four; rwa [szs_len] at this
  have HWd := Lib.hid (rwords_any p x xa.length cap xa y m cap' xs w hx rfl (by omega) hy hm (by have := h.le; unfold maxLen; omega))
  rw [h.zero] at HWd
  have HD := Lib.hid (fun W (hB : Below w.heap.size w W) => rdims_any x xa.length cap xa W ((hx.below hB).more hB.size) rfl (by omega))
  have l1 := h.ax.L ha
  have l2 := h.ax.L_le ha
  have i1 := h.ax.I a
  obtain ⟨m1, m2⟩ := h.le
  have hP : m = Sh.prod (szs xa) := by rw [← h.len, hm]
  have HE : Hid ((List.range m).map (thrN p xa a inv xs) = thr p xa a inv xs) := Lib.hid (by unfold thr; rw [hm])
  have HAt := Lib.hid (fun (k j : Nat) (hk : k < Sh.prod (szs xa) / gL xa a) (hj : j < gL xa a) => h.ax.at_lt ha hk hj)
  have HLK := Lib.hid (fun (i : Nat) (hi : i < Sh.prod (szs xa)) => h.ax.line_lt ha hi)
  have HW := Lib.hid (fun (k : Nat) => words_lnOf hw xa a k)
  have HLi := Lib.hid (fun (k : Nat) (hk : k < Sh.prod (szs xa) / gL xa a) (y' : Option Addr) (c : Nat) (hc : xa.length ≤ c) (W : World) (hr : Reads .i64 W W.heap.size y' (dims xa)) =>
    rline_ok (szs xa) h.ax.ok a k (by rw [szs_len]; exact ha) hk y' xa.length c W (by rw [← h.ax.is]; exact hr) (szs_len xa) hc)
  have HGt := Lib.hid (fun (k j : Nat) (hj : j < gL xa a) => lineOf_get xa a k hj)
  have HLl : Hid (∀ k, (lineOf (szs xa) a k).length = gL xa a) := Lib.hid (fun (k : Nat) => lineOf_len (szs xa) a k)
  have hLint := h.ax.int ha
  have HTn : Hid (∀ k, k < Sh.prod (szs xa) / gL xa a → ∀ j, j < gL xa a → (tr p (gN xa a) inv (lnOf xa a xs k)).getD j 0 = thrN p xa a inv xs (Sh.first (gI xa a) (gL xa a) k + j * gI xa a)) := Lib.hid (fun k hk j hj => by
    rw [(h.line ha hk).tr inv, getD_range _ (by rw [lnOf_len]; exact hj)]
    unfold thrN
    rw [Sh.at_line i1 hj, Sh.at_coord i1 hj])
  have HTl : Hid (∀ k, k < Sh.prod (szs xa) / gL xa a → (tr p (gN xa a) inv (lnOf xa a xs k)).length = gL xa a) := Lib.hid (fun k hk => by rw [(h.line ha hk).trLen, lnOf_len])
  have HLz : Hid (∀ k, k < Sh.prod (szs xa) / gL xa a → lineE p (lnOf xa a xs k) (gN xa a) = 0) := Lib.hid (fun k hk => (h.line ha hk).zero)
  obtain ⟨b, off, rfl, hb, hc⟩ := hx (by omega)
  obtain ⟨c0, c1⟩ := hc a ha
  rw [hLint] at c0
  obtain ⟨b', off', rfl, hb', hcx⟩ := hy (by omega)
  have HCX := Lib.hid hcx
  rw [← hP] at HAt HLK HLi HTn HTl HLz
  obtain ⟨neg, hneg⟩ : ∃ neg, neg = (xa.getD a noAx).neg := ⟨_, rfl⟩
  have hneg' : gN xa a = neg := by rw [hneg]; rfl
  rw [← hneg] at c1
  rw [hneg'] at HTn HTl HLz
  obtain ⟨L, hL⟩ : ∃ L, L = gL xa a := ⟨_, rfl⟩
  obtain ⟨I, hI⟩ : ∃ I, I = gI xa a := ⟨_, rfl⟩
  have HLO : Hid (∀ k, lnOf xa a xs k = (List.range L).map fun j => xs.getD (Sh.first I L k + j * I) 0) := Lib.hid (fun k => by rw [hL, hI]; rfl)
  rw [← hL] at c0 l1 l2 HAt HLK HLi HGt HTn HTl HLl HLz
  rw [← hI] at i1 HAt HLK HGt HTn
  obtain ⟨K, hK⟩ : ∃ K, K = m / L := ⟨_, rfl⟩
  rw [← hK] at HAt HLK HLi HTn HTl HLz
  have q1 : (m : Int) / (L : Int) = (K : Int) := by rw [hK]; exact cast_div m L
  have q2 : (L : Int) ≠ 0 := by omega
  have q3 : K ≤ m := by rw [hK]; exact Nat.div_le_self _ _
  have m3 : 1 ≤ m ∧ m ≤ 4096 := by omega
  have d1 : decide ((a : Int) < 0) = false := by simp
  have d2 : decide (xa.length ≤ a) = false := by simp; omega
  have HC := Lib.hid (fun W (hB : Below w.heap.size w W) => And.intro ((hB.cell (p := ⟨b, off + a * 2, none⟩) hb).trans c0) ((hB.cell (p := ⟨b, off + a * 2 + 1, none⟩) hb).trans c1))
  obtain ⟨i0, hi, hz0, hz1, hz2⟩ := info_parts info_u64
  have HZ2 := Lib.hid hz2
  generalize thr p xa a inv xs = res at HE ⊢
  generalize thrN p xa a inv xs = tn at HE HTn
  have HM := Lib.hid hm
  clear h hx hy hw hc hcx hP hLint hneg hneg' hL hI hK hm m1 m2 c0 c1
  go_enter Tryd.func10, Tryd.ntmps10
  go_wp2_with (first
    | (go_at_call 25; refine HWd.out.mono ?_; rintro e w1 ⟨rfl, b1⟩; have B1 := Lib.hid b1; clear b1)
    | (at_make; refine wpList_make_full _ rfl _ _ 24 rfl w1.heap.size 22 i0 (.int .u64 0) 1 Tryd.underlying24 hi hz0 hz1 .i64 .i64 _ _ m rfl rfl rfl rfl (by rw [HZ2.out]; omega) (by unfold maxLen; omega) (Nat.le_refl _) ?_; intro w2 hown2 hgrow2; have B2 := Lib.hid ((Below.refl w1.heap.size w1).grown hgrow2 (Nat.le_refl _) (fun k e => by cases e)); have Y2 := Lib.hid (RowAt.start hown2); have cc := HC.out _ (below_then B1.out B2.out); have cc0 := cc.1; clear cc hown2 hgrow2))
  clear HWd cc0
  go_loopw [49] (fun i wr => ∃ k : Nat, k ≤ K ∧ i = .int .i64 (k : Int) ∧ RowAt .u64 22 wr w1.heap.size w1.heap.size m (yf I L k 0 tn) ∧ Below w1.heap.size w1 wr) (fun i _ => K - (intOf i).toNat)
  case atStart => exact ⟨0, Nat.zero_le _, rfl, Y2.out.congr (fun i _ => (yf_zero i).symm), B2.out⟩
  case round =>
    clear Y2 B2
    obtain ⟨k, hk, rfl, hRY, hB⟩ := hrel
    by_cases hlt : k < K
    · have hdk : decide (k < K) = true := by simpa using hlt
      have HDr := Lib.hid (HD.out wr (below_then B1.out hB))
      have HLk := Lib.hid (HLi.out k hlt)
      have HRY := Lib.hid hRY
      have HB := Lib.hid hB
      have hgy := hRY.lt
      clear hRY hB
      go_wp2_with (first
        | (go_at_call 18; refine HDr.out.mono ?_; rintro e w3 ⟨v, rfl, hO, b3⟩; obtain ⟨yd, cd, rfl, hcd, -, hr, -⟩ := hO.form; rw [dims_len] at hcd; rw [dims_len]; have RD := Lib.hid hr; have B3 := Lib.hid b3; clear hO hr b3)
        | (go_at_call 26; refine (HLk.out yd cd hcd w3 RD.out).mono ?_; intro e w4 hr; obtain ⟨g, cp, rfl, hg1, hg2, hcp, -, hOp, -, b4⟩ := hr.open (HLl.out k) (by omega); have OP := Lib.hid hOp; have B4 := Lib.hid (below_then B3.out b4); have hg3 := Nat.le_trans B3.out.size hg1; clear hr hOp b4))
      have RY4 := Lib.hid (HRY.out.below B4.out)
      have BB4 := Lib.hid (below_then HB.out B4.out)
      have hgne : g ≠ w1.heap.size := by omega
      have OP4 := Lib.hid (OP.out.mono (show w1.heap.size ≤ w3.heap.size by have := B3.out.size; omega))
      clear HRY HB HDr HLk B3 B4 RD OP
      go_loopw [17, 62] (fun v i wi => ∃ (j : Nat) (o : Value), j ≤ L ∧ i = .int .i64 (j : Int) ∧ o = v ∧ Owns .u64 22 wi w4.heap.size o ((List.range j).map fun j => xs.getD (Sh.first I L k + j * I) 0) ∧ Below w4.heap.size w4 wi) (fun _ i _ => L - (intOf i).toNat)
      case atStart => exact ⟨0, _, Nat.zero_le _, rfl, rfl, Owns.nil, Below.refl _ _⟩
      case round =>
        obtain ⟨j, o, hj, rfl, rfl, hO, hB⟩ := hrel
        by_cases hlj : j < L
        · have hdj : decide (j < L) = true := by simpa using hlj
          have e1 := (OP4.out.below hB).cell j (by rw [HLl.out]; exact hlj)
          rw [HGt.out k j hlj] at e1
          have e2 := HAt.out k j hlt hlj
          have hs := range_snoc (fun j => xs.getD (Sh.first I L k + j * I) 0) j
          obtain ⟨s, hs'⟩ : ∃ s, s = Sh.first I L k + j * I := ⟨_, rfl⟩
          rw [← hs'] at e1 e2 hs
          have e5 := ((below_then B1.out (below_then BB4.out hB)).cell (p := ⟨b', off' + s, none⟩) hb').trans (HCX.out s (by rw [HM.out]; exact e2))
          obtain ⟨u, hu⟩ : ∃ u, u = xs.getD s 0 := ⟨_, rfl⟩
          rw [← hu] at e5 hs
          have HL : Hid (((List.range j).map fun j => xs.getD (Sh.first I L k + j * I) 0).length = j) := Lib.hid (by simp)
          have HS := Lib.hid hs
          have HO := Lib.hid hO
          have HB := Lib.hid hB
          clear hs hO hB hs' hu
          go_wp2_with (at_builtin; refine wpList_append_list rfl _ _ 24 rfl w4.heap.size 22 i0 .u64 8 Tryd.underlying24 hi hz0 hz1 hz2 _ _ rfl (HO.out.alloc _) _ 1 1 [u] rfl (src_one wr .u64 22 u) (by have := HL.out; unfold maxLen; omega) (by have := HL.out; omega) (by have := HB.out.size; simp; omega) ?_; intro v' w5 hO2 hg2)
          go_roundw
          case rel =>
            refine ⟨j + 1, _, by omega, by go_num, rfl, ?_, ?_⟩
            · rw [HS.out]; exact hO2
            · exact (below_al HB.out _).grown hg2 (by have := HB.out.size; simp; omega) (fun g e => HO.out.ownBlock g e)
          case measure => simp [intOf]; omega
        · obtain rfl : j = L := by omega
          rw [← HLO.out k] at hO
          obtain ⟨yl, cl, rfl, -, -, hrl, -⟩ := hO.form
          have hll : (lnOf xa a xs k).length = j := by rw [HLO.out]; simp
          have HRF : Hid (∀ W, Below wr.heap.size wr W → inv = false → Calls Tryd.prog 28 #[.int .u64 p, .slice yl j cl, .bool neg] W (LineRet W (tr p neg inv (lnOf xa a xs k)) 0)) := Lib.hid (fun W hW e => by
            have := rforward_any p yl j cl (lnOf xa a xs k) neg W ((hrl.below hW).more hW.size) hll (HW.out k) (by unfold maxLen; omega)
            rw [HLz.out k hlt] at this
            have e' : tr p neg inv (lnOf xa a xs k) = fwd p (lnOf xa a xs k) neg := by rw [e]; simp [tr]
            rw [e']; exact this)
          have HRI : Hid (∀ W, Below wr.heap.size wr W → inv = true → Calls Tryd.prog 27 #[.int .u64 p, .slice yl j cl, .bool neg] W (LineRet W (tr p neg inv (lnOf xa a xs k)) 0)) := Lib.hid (fun W hW e => by
            have := rinverse_any p yl j cl (lnOf xa a xs k) neg W ((hrl.below hW).more hW.size) hll (HW.out k) (by unfold maxLen; omega)
            rw [HLz.out k hlt] at this
            have e' : tr p neg inv (lnOf xa a xs k) = bwd p (lnOf xa a xs k) neg := by rw [e]; simp [tr]
            rw [e']; exact this)
          have cc := HC.out _ (below_then B1.out (below_then BB4.out hB))
          have cc1 := cc.2
          have HB := Lib.hid hB
          rw [hll]
          have HTL := Lib.hid (HTl.out k hlt)
          have HTN := Lib.hid (HTn.out k hlt)
          generalize tr p neg inv (lnOf xa a xs k) = ts at HRF HRI HTL HTN
          clear cc hO hrl hB hi hz0 hz1 hz2 HZ2
          cases inv
          all_goals
            go_wp2_with (first
              | (go_at_call 28; refine (HRF.out _ (Below.refl _ _) rfl).mono ?_; rintro e w6 ⟨v, rfl, hOt, b6⟩; obtain ⟨yt, ct, rfl, -, -, -, hgt⟩ := hOt.form; obtain ⟨t6, rfl, ht1, ht2⟩ := hgt (by rw [HTL.out]; omega); rw [HTL.out] at hOt ⊢; have OT := Lib.hid hOt; have B6 := Lib.hid (below_then HB.out b6); have hws := HB.out.size; clear hOt b6 hgt)
              | (go_at_call 27; refine (HRI.out _ (Below.refl _ _) rfl).mono ?_; rintro e w6 ⟨v, rfl, hOt, b6⟩; obtain ⟨yt, ct, rfl, -, -, -, hgt⟩ := hOt.form; obtain ⟨t6, rfl, ht1, ht2⟩ := hgt (by rw [HTL.out]; omega); rw [HTL.out] at hOt ⊢; have OT := Lib.hid hOt; have B6 := Lib.hid (below_then HB.out b6); have hws := HB.out.size; clear hOt b6 hgt))
            have hws4 := BB4.out.size
            have hgy4 := RY4.out.lt.2
            have RY6 := Lib.hid (RY4.out.below B6.out)
            have OP6 := Lib.hid (OP4.out.below B6.out)
            have BB6 := Lib.hid (below_then BB4.out B6.out)
            have htne : t6 ≠ w1.heap.size := by omega
            clear HRF HRI HB B6 cc1 RY4 OP4 BB4
            go_loopw [99] (fun i wi => ∃ q : Nat, q ≤ j ∧ i = .int .i64 (q : Int) ∧ RowAt .u64 22 wi w1.heap.size w1.heap.size m (yf I j k q tn) ∧ Owns .i64 3 wi w1.heap.size (.slice (some ⟨g, 0, none⟩) j cp) (lineOf (szs xa) a k) ∧ Owns .u64 22 wi w1.heap.size (.slice (some ⟨t6, 0, none⟩) j ct) ts ∧ Below w1.heap.size w1 wi) (fun i _ => j - (intOf i).toNat)
            case atStart => exact ⟨0, Nat.zero_le _, rfl, RY6.out, OP6.out, OT.out.mono (by omega), BB6.out⟩
            case round =>
              clear RY6 OP6 OT BB6
              obtain ⟨q, hq, rfl, hY, hO, hT, hB⟩ := hrel
              by_cases hlq : q < j
              · have e1 := hO.cell q (by rw [HLl.out]; exact hlq)
                rw [HGt.out k q hlq] at e1
                have e2 := HAt.out k q hlt hlq
                have e3 := hT.cell q (by rw [HTL.out]; exact hlq)
                rw [HTN.out q hlq] at e3
                have hs := hY.set (Sh.first I j k + q * I) (f' := yf I j k (q + 1) tn) (fun t _ hne => yf_else i1 hne)
                rw [yf_here i1 hlq] at hs
                obtain ⟨s, hs'⟩ : ∃ s, s = Sh.first I j k + q * I := ⟨_, rfl⟩
                rw [← hs'] at e1 e2 e3 hs
                obtain ⟨u, hu⟩ : ∃ u, u = tn s := ⟨_, rfl⟩
                rw [← hu] at e3 hs
                have e4 := hY.cell s e2
                have e5 := hY.frozen s
                have hgy6 := hY.lt.2
                obtain ⟨o, ho⟩ : ∃ o, o = yf I j k q tn s := ⟨_, rfl⟩
                rw [← ho] at e4
                have HS := Lib.hid (And.intro hs (And.intro (hO.else (HLl.out k) (ad := ⟨w1.heap.size, s, none⟩) hgne (.int .u64 u)) (And.intro (hT.else HTL.out (ad := ⟨w1.heap.size, s, none⟩) htne (.int .u64 u)) (hB.setCell (p := ⟨w1.heap.size, s, none⟩) (Nat.le_refl _) (.int .u64 u)))))
                clear hs hY hO hT hB hs' hu ho
                go_wp2
                go_roundw
                case rel => exact ⟨q + 1, by omega, by go_num, HS.out.1, HS.out.2.1, HS.out.2.2.1, HS.out.2.2.2⟩
                case measure => simp [intOf]; omega
              · obtain rfl : q = j := by omega
                have HS := Lib.hid (And.intro (hY.congr (fun t _ => yf_turn l1 t)) hB)
                clear hY hO hT hB
                go_wp2
                go_roundw
                case rel => exact ⟨k + 1, by omega, by go_num, HS.out.1, HS.out.2⟩
                case measure => simp [intOf]; omega
    · obtain rfl : k = K := by omega
      have hR : LineRet w res 0 (.returned (.tuple #[.slice (some ⟨w1.heap.size, 0, none⟩) m m, .int .i64 0])) wr := ⟨_, rfl, by
        rw [← HE.out]
        refine Owns.mono (base := w1.heap.size) (hRY.congr fun i hi => ?_) B1.out.size
        unfold yf
        rw [if_pos (.inl (HLK.out i hi))], below_then B1.out hB⟩
      clear hRY hB hi hz0 hz1 hz2 HZ2
      go_wp2
      go_ret2
      exact hR

set_option maxHeartbeats 1000000 in
theorem raxis_any (p : Int) (x : Option Addr) (n cap : Nat) (xa : List Ax) (a : Int) (inv : Bool) (y : Option Addr) (m cap' : Nat) (xs : List Int) (w : World) (hx : ReadsA w w.heap.size x xa) (hn : xa.length = n) (hl : n ≤ 8796093022208) (hy : Reads .u64 w w.heap.size y xs) (hm : xs.length = m) (hw : Words xs) (hml : m ≤ maxLen) :
    Calls Tryd.prog 10 #[.int .u64 p, .slice x n cap, .int .i64 a, .bool inv, .slice y m cap'] w (LineRet w (axL p xa a inv xs) (axE p xa a xs)) := by
  have HC := Lib.hid (rwords_any p x n cap xa y m cap' xs w hx hn hl hy hm hml)
  by_cases hE : wordsE p xa xs = 0
  · rw [hE] at HC
    by_cases h0 : a < 0
    · have d1 : decide (a < 0) = true := by simpa using h0
      have e := axE_arg (a := a) hE (.inl h0)
      rw [axL_no (by omega), e]
      clear hE hx hy hw hn hm hml e
      go_enter Tryd.func10, Tryd.ntmps10
      go_wp2_with (go_at_call 25; refine HC.out.mono ?_; rintro e w1 ⟨rfl, b1⟩)
      go_ret2
      exact ⟨_, rfl, Owns.nil, b1⟩
    · have d1 : decide (a < 0) = false := by simpa using h0
      by_cases h1 : (n : Int) ≤ a
      · have d2 : decide ((n : Int) ≤ a) = true := by simpa using h1
        have e := axE_arg (a := a) hE (.inr (by omega))
        rw [axL_no (by omega), e]
        clear hE hx hy hw hn hm hml e
        go_enter Tryd.func10, Tryd.ntmps10
        go_wp2_with (go_at_call 25; refine HC.out.mono ?_; rintro e w1 ⟨rfl, b1⟩)
        go_ret2
        exact ⟨_, rfl, Owns.nil, b1⟩
      · obtain ⟨k, rfl⟩ : ∃ k : Nat, a = (k : Int) := ⟨a.toNat, by omega⟩
        have hGr := wordsE_zero hE
        rw [hGr.axE (by omega), hGr.axL (by omega)]
        exact raxis_ok p x n cap xa k inv y m cap' xs w hx hn (by omega) hy hm hw hGr
  · rw [axL_no (by rw [axE_words hE]; exact hE), axE_words hE]
    have t := ne_of_bne hE
    generalize wordsE p xa xs = er at HC t ⊢
    clear hE hx hy hw hn hm hml
    go_enter Tryd.func10, Tryd.ntmps10
    go_wp2_with (go_at_call 25; refine HC.out.mono ?_; rintro e w1 ⟨rfl, b1⟩)
    go_ret2
    exact ⟨_, rfl, Owns.nil, b1⟩

set_option maxHeartbeats 1000000 in
theorem rdo_any (p : Int) (x : Option Addr) (n cap : Nat) (xa : List Ax) (inv : Bool) (y : Option Addr) (m cap' : Nat) (xs : List Int) (w : World) (hx : ReadsA w w.heap.size x xa) (hn : xa.length = n) (hl : n ≤ 8796093022208) (hy : Reads .u64 w w.heap.size y xs) (hm : xs.length = m) (hw : Words xs) (hml : m ≤ maxLen) :
    Calls Tryd.prog 12 #[.int .u64 p, .slice x n cap, .bool inv, .slice y m cap'] w (LineRet w (doL p xa inv xs) (wordsE p xa xs)) := by
  have HC := Lib.hid (rwords_any p x n cap xa y m cap' xs w hx hn hl hy hm hml)
  by_cases hE : wordsE p xa xs = 0
  · have hGr := wordsE_zero hE
    rw [hE] at HC ⊢
    rw [hGr.doL]
    have n1 : 1 ≤ n := by have := hGr.ax.ok.one; rw [szs_len] at this; omega
    have n4 : n ≤ 4 := by have := hGr.ax.ok.four; rw [szs_len] at this; omega
    have HT := Lib.hid (fun W (k : Nat) (hk : k < n) (y' : Option Addr) (c : Nat) (hB : Below w.heap.size w W) (hr : Reads .u64 W W.heap.size y' (doTo p xa inv xs k)) => raxis_ok p x n cap xa k inv y' m c (doTo p xa inv xs k) W ((hx.below hB).more hB.size) hn hk hr (by rw [doTo_len]; exact hm) (hGr.doWords hw k) (hGr.doTo k))
    have HL := Lib.hid (fun k => (doTo_len p xa inv xs k).trans hm)
    have HS : Hid (∀ k, thr p xa k inv (doTo p xa inv xs k) = doTo p xa inv xs (k + 1)) := Lib.hid (fun k => rfl)
    have H0 : Hid (doTo p xa inv xs 0 = xs) := Lib.hid rfl
    have HX := Lib.hid (fun W (hB : Below w.heap.size w W) => (hy.below hB).more hB.size)
    rw [hn]
    generalize doTo p xa inv xs = dl at HT HL HS H0 ⊢
    clear hE hx hy hw hm hml hGr hn
    go_enter Tryd.func12, Tryd.ntmps12
    go_wp2_with (go_at_call 25; refine HC.out.mono ?_; rintro e w1 ⟨rfl, b1⟩; have B1 := Lib.hid b1; clear b1)
    clear HC
    go_loopw [3, 23] (fun v i wr => ∃ (k : Nat) (y' : Option Addr) (c : Nat), k ≤ n ∧ i = .int .i64 (k : Int) ∧ .slice y' m c = v ∧ Reads .u64 wr wr.heap.size y' (dl k) ∧ (k = 0 ∨ Owns .u64 22 wr w.heap.size (.slice y' m c) (dl k)) ∧ Below w.heap.size w wr) (fun _ i _ => n - (intOf i).toNat)
    case atStart => exact ⟨0, y, cap', Nat.zero_le _, rfl, rfl, by rw [H0.out]; exact HX.out _ B1.out, .inl rfl, B1.out⟩
    case round =>
      obtain ⟨k, y', c, hk, rfl, rfl, hr, ho, hB⟩ := hrel
      by_cases hlt : k < n
      · have HTk := Lib.hid (HT.out wr k hlt y' c hB hr)
        rw [HS.out] at HTk
        have HB := Lib.hid hB
        clear hr ho hB B1 HX H0
        go_wp2_with (go_at_call 10; refine HTk.out.mono ?_; rintro e w2 ⟨v, rfl, hO, b2⟩; obtain ⟨y2, c2, rfl, -, -, hr2, -⟩ := hO.form; rw [HL.out] at hO ⊢; have R2 := Lib.hid hr2; have O2 := Lib.hid hO; have B2 := Lib.hid b2; clear hO hr2 b2)
        go_roundw
        case rel => exact ⟨k + 1, y2, c2, by omega, by go_num, rfl, R2.out, .inr (O2.out.mono HB.out.size), below_then HB.out B2.out⟩
        case measure => simp [intOf]; omega
      · obtain rfl : k = n := by omega
        have hR : LineRet w (dl k) 0 (.returned (.tuple #[.slice y' m c, .int .i64 0])) wr := ⟨_, rfl, by
          rcases ho with h0 | ho
          · omega
          · exact ho, hB⟩
        clear hr ho hB B1 HX H0
        go_wp2
        go_ret2
        exact hR
  · rw [doL_no hE]
    have t := ne_of_bne hE
    generalize wordsE p xa xs = er at HC t ⊢
    clear hE hx hy hw hn hm hml
    go_enter Tryd.func12, Tryd.ntmps12
    go_wp2_with (go_at_call 25; refine HC.out.mono ?_; rintro e w1 ⟨rfl, b1⟩)
    go_ret2
    exact ⟨_, rfl, Owns.nil, b1⟩

end Go.Proofs.YtjmgieepgdjomaaDoor
