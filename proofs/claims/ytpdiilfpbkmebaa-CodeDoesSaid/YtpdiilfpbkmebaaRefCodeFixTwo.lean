/-
  What the document's Fix of layer 14 comes to, once more: where its cells are told.
-/
import Derived.Test.YtpdiilfpbkmebaaRefCodeFix
namespace Go.Proofs.Ytpdiilfpbkmebaa
open Go.RowKit

set_option maxRecDepth 100000 in
set_option maxHeartbeats 32000000 in
theorem rkfix_ok (p : Int) (x : Option Addr) (n cap : Nat) (xs : List Int) (w : World) (hx : Reads .u64 w w.heap.size x xs) (hn : xs.length = n) (hc : n ≤ cap) (hcm : cap ≤ maxLen) (hw : Words xs) (hC : Cd.lnE p n = 0) (hL : clE (Cd.tl xs) = 0) :
    Calls Try.prog 18 #[.int .u64 p, .slice x n cap] w (RetC w (Cd.fiL p xs) (Cd.fiF p xs) (Cd.fiE p xs)) := by
  obtain ⟨hk, h7, h8⟩ := Cd.lnE_zero.1 hC
  have hmx : Try.prog.follows .mixedOrders = true := by kernel_rfl
  obtain ⟨i0, hi, hz0, hz1, hz2⟩ := info_parts info_u64
  have hcm' : cap ≤ 9223372036854775807 := hcm
  have H := Lib.hid hk
  have HX := Lib.hid (fun W (hW : Below w.heap.size w W) => hx.below hW)
  obtain ⟨b, off, rfl, hb, hcx⟩ := hx (by omega)
  obtain ⟨m, hm⟩ : ∃ m : Nat, m = n - 6 := ⟨_, rfl⟩
  have hz : (n : Int) - 6 = (m : Int) := by omega
  have hnm : n = m + 6 := by omega
  have htl : Cd.tl xs = xs.drop m := by unfold Cd.tl; rw [hn, ← hm]
  have hhd : Cd.hd xs = xs.take m := by unfold Cd.hd; rw [hn, ← hm]
  have htlen : (Cd.tl xs).length = 6 := Cd.tl_len (by omega)
  obtain ⟨cw1, cw2, -⟩ := Cd.cl6 htlen hL
  have HT := Lib.hid (fun c (h1 : 6 ≤ c) (h2 : c ≤ maxLen) => rcells_any (some ⟨b, off + m, none⟩) 6 c (xs.drop m) w (hx.drop m) (by rw [List.length_drop]; omega) h1 h2)
  rw [← htl, hL, cw1] at HT
  have hwt : Words (Cd.hd xs) := fun j => by
    rw [hhd]
    by_cases hj : j < m
    · rw [List.getD_eq_getElem?_getD, List.getElem?_take, if_pos hj, ← List.getD_eq_getElem?_getD]; exact hw j
    · rw [List.getD_eq_getElem?_getD, List.getElem?_take, if_neg hj]; simp
  have hwtl : Words (Cd.tl xs) := fun j => by
    rw [htl, List.getD_eq_getElem?_getD, List.getElem?_drop, ← List.getD_eq_getElem?_getD]; exact hw _
  have hg : 0 ≤ wd (Cd.tl xs) 0 ∧ wd (Cd.tl xs) 0 < 18446744073709551616 := t3_bd (hwtl _) (hwtl _) (hwtl _)
  have hh : 0 ≤ wd (Cd.tl xs) 1 ∧ wd (Cd.tl xs) 1 < 18446744073709551616 := t3_bd (hwtl _) (hwtl _) (hwtl _)
  have hhl : (Cd.hd xs).length = m := by rw [Cd.hd_len]; omega
  have hfit := fun hf => Cd.fi_fit (p := p) (c := xs) (by rw [hn]; exact hC) hL hf
  have hat := fun hf i (hi : i < m) hfi => Cd.fi_at (p := p) (c := xs) (by rw [hn]; exact hC) hL hf (i := i) (by omega) hfi
  have hnone : Cd.fit p (Cd.hd xs) (wd (Cd.tl xs) 0) (wd (Cd.tl xs) 1) = false → (∀ i, i < m → Cd.fit p (Cd.md p (Cd.hd xs) (wd (Cd.tl xs) 0) i) (wd (Cd.tl xs) 0) (wd (Cd.tl xs) 1) = false) → Cd.fiE p xs = 10 ∧ Cd.fiL p xs = [] ∧ Cd.fiF p xs = [] := fun h1 h2 =>
    Cd.fiE_lost (by rw [hn]; exact hC) ((Cd.fiO_mn (by rw [hn]; exact hC) hL).trans (Cd.mn_none h1 (fun i hi => h2 i (by omega))))
  rw [hn, show n - 6 = m by omega] at hfit hat
  have hHX : ∀ W, Below w.heap.size w W → Src .u64 W (some ⟨b, off, none⟩) m cap (Cd.hd xs) := fun W hW => by
    rw [hhd]; exact ((HX.out W hW).take m).toSrc (by rw [List.length_take]; omega) (by omega)
  have hcell : ∀ W, Below w.heap.size w W → ∀ j, j < m → W.cell? ⟨b, off + j, none⟩ = some (.int .u64 ((Cd.hd xs).getD j 0)) := fun W hW j hj => by
    have := (hW.cell (p := ⟨b, off + j, none⟩) hb).trans (hcx j (by omega))
    rw [this, hhd, List.getD_eq_getElem?_getD, List.getD_eq_getElem?_getD, List.getElem?_take, if_pos hj]
  have hfl : (clF (Cd.tl xs)).length ≤ 2 := by rw [cw2]; exact fxs_len _ 2
  have hfb : ∀ s ∈ clF (Cd.tl xs), 0 ≤ s.ad ∧ s.ad < 6 := fun s hs => by rw [cw2] at hs; exact fxs_bd hs
  obtain ⟨zs, hzs⟩ : ∃ zs, zs = Cd.hd xs := ⟨_, rfl⟩
  obtain ⟨g, hgd⟩ : ∃ g, g = wd (Cd.tl xs) 0 := ⟨_, rfl⟩
  obtain ⟨q, hhh⟩ : ∃ q, q = wd (Cd.tl xs) 1 := ⟨_, rfl⟩
  rw [← hgd] at hg
  rw [← hhh] at hh
  rw [← hzs] at hwt hhl
  rw [← hgd, ← hhh] at HT
  rw [← hzs, ← hgd, ← hhh] at hfit hat hnone
  rw [← hzs] at hHX hcell
  generalize clF (Cd.tl xs) = fz at HT hfl hfb hfit hat
  have HHX := Lib.hid hHX
  have HCell := Lib.hid hcell
  have HFit := Lib.hid hfit
  have HAt := Lib.hid hat
  have HNone := Lib.hid hnone
  have HFB := Lib.hid hfb
  have HZL := Lib.hid hhl
  have HZW := Lib.hid hwt
  have hmb : m ≤ 4096 := by omega
  have hm1 : 1 ≤ m := by omega
  have hln : Cd.lnE p (m + 6) = 0 := by rw [← hnm]; exact hC
  have HR := Lib.hid (fun W y c ys (hr : Reads .u64 W W.heap.size y (ys ++ thrice [g, q])) (hl : ys.length = m) (h1 : m + 6 ≤ c) (h2 : c ≤ maxLen) (hwy : Words ys) => by
    have hwa : Words (ys ++ thrice [g, q]) := words_app hwy (thrice_words (words_small (by
      intro x hx
      simp at hx
      rcases hx with rfl | rfl
      · exact hg
      · exact hh)))
    have := right_any p y (m + 6) c (ys ++ thrice [g, q]) W hr (by rw [List.length_append, hl]; rfl) h1 h2 hwa hln
    rw [Cd.right_fit hk (by omega) (by omega)] at this
    exact this)
  have HRS := Lib.hid (fun W y c ys (hr : Reads .u64 W W.heap.size y ys) (hl : ys.length = m) (hwy : Words ys) => by
    have := rsums14_any p y m c ys W hr hl hwy
    have e0 : Cd.smE p m = 0 := by unfold Cd.smE; rw [if_neg (by rw [hk]; decide), if_neg (by omega)]
    have e2 : Cd.sm0 p ys = Cd.s0 p ys := by unfold Cd.sm0; rw [hl, if_pos e0]
    have e3 : Cd.sm1 p ys = Cd.s1 p ys := by unfold Cd.sm1; rw [hl, if_pos e0]
    rw [e0, e2, e3] at this
    exact this)
  have HNx := Lib.hid (fun i (hi : i < m) => Cd.nx_ref (g := g) hk (xs := zs) (i := i) (by omega))
  have HNb := Lib.hid (fun i => Cd.nx_bd hk zs g i)
  have HSb := Lib.hid (fun ys => md_word hk (Cd.S0 ys ys.length))
  have HKb := Lib.hid (Fp.kn_bd hk)
  have HP := Lib.hid (fun W y c (hr : Reads .u64 W W.heap.size y [g, q]) => rput_any y 2 c [g, q] W hr rfl)
  have e4 : ptL [g, q] = thrice [g, q] := rfl
  have e5 : ptE [g, q] = 0 := rfl
  rw [e4, e5] at HP
  have hsc : ¬ cap = m := by omega
  have hmc : m ≤ cap := by omega
  have hsub : cap - m ≤ maxLen := by omega
  obtain ⟨L, hLL⟩ : ∃ L, fz.length = L := ⟨_, rfl⟩
  have HLz := Lib.hid hLL
  have hLb : L ≤ 2 := by omega
  clear hx hn hm htl hhd hL hC hb hcx htlen cw1 cw2 hwt hwtl hfit hat hnone hHX hcell hfl hfb hzs hgd hhh hw hk hhl e4 e5 hln hLL HX
  subst hnm
  have d1 : decide (((m + 6 : Nat) : Int) < 7) = false := by simp; omega
  have d2 : decide ((4102 : Int) < ((m + 6 : Nat) : Int)) = false := by simp; omega
  obtain ⟨g0, g1⟩ := hg
  go_enter Try.func18, Try.ntmps18
  go_wp2_with (first
    | (go_at_call 28; refine (rknown_yes p _ H.out).mono ?_; rintro e w' ⟨rfl, rfl⟩)
    | (go_at_call 40; refine (HT.out _ (by omega) hsub).mono ?_; rintro e w2 hr; obtain ⟨v1, v2, rfl, hBs⟩ := hr; obtain ⟨x2, c2, rfl, -, -, -, hf2⟩ := hBs.1.form; obtain ⟨b2, rfl, hb2, hb2'⟩ := hf2 (by simp); obtain ⟨y2, c3, hy2, hf3⟩ := hBs.2.1.where; rw [HLz.out] at hy2 hf3; subst hy2; have HB2 := Lib.hid hBs; have HF3 := Lib.hid hf3; have HGb := Lib.hid (And.intro hb2 hb2'); clear hBs hf2 hf3 hb2 hb2' HT))
  go_loopw [46] (fun i wr => ∃ k : Nat, k ≤ L ∧ i = .int .i64 (k : Int) ∧ Hid (Beside w wr (.slice (some ⟨b2, 0, none⟩) 2 c2) (.slice y2 L c3) [g, q] (Cd.shl fz m k))) (fun i _ => L - (intOf i).toNat)
  case atStart => exact ⟨0, Nat.zero_le _, rfl, Lib.hid (by rw [Cd.shl_zero]; exact HB2.out)⟩
  case round =>
    obtain ⟨k, hkL, rfl, HI⟩ := hrel
    by_cases hlt : k < L
    · have hdk : decide (k < L) = true := by simpa using hlt
      obtain ⟨gf, rfl⟩ := HF3.out (by omega)
      have hsl : (Cd.shl fz m k).length = L := by rw [Cd.shl_len]; exact HLz.out
      have hAt := HI.out.2.1.at hsl hlt
      rw [Cd.shl_get _ _ _ (by rw [HLz.out]; exact hlt)] at hAt
      have hfr := HI.out.2.1.fz hsl (k * 3)
      have hbd := HFB.out (fz.getD k noFx) (by rw [List.getD_eq_getElem?_getD, List.getElem?_eq_getElem (show k < fz.length by rw [HLz.out]; exact hlt)]; exact List.getElem_mem _)
      have HNx : Hid (∀ u, u = (fz.getD k noFx).ad + (m : Int) → (Cd.shl fz m k).set k { (Cd.shl fz m k).getD k noFx with ad := u } = Cd.shl fz m (k + 1)) := Lib.hid (fun u hu => by
        rw [Cd.shl_get _ _ _ (by rw [HLz.out]; exact hlt), ← Cd.shl_next _ _ _ (by rw [HLz.out]; exact hlt), hu]; rfl)
      obtain ⟨a, ha⟩ : ∃ a, a = (fz.getD k noFx).ad := ⟨_, rfl⟩
      obtain ⟨q0, -, -⟩ := hAt
      rw [← ha] at q0 hbd HNx
      obtain ⟨a0, a1⟩ := hbd
      have HSL := Lib.hid hsl
      clear ha hsl
      go_wp2
      go_roundw
      case rel => exact ⟨k + 1, by omega, by go_num, Lib.hid (by rw [← HNx.out (a + (m : Int)) rfl]; exact HI.out.setAd HSL.out hlt _)⟩
      case measure => simp [intOf]; omega
    · obtain rfl : k = L := by omega
      have hdk : decide (k < k) = false := by simp
      have hF : Cd.shl fz m k = fz.map (mv m) := by rw [← HLz.out, Cd.shl_all]
      have HB := Lib.hid HI.out
      rw [hF] at HB
      have HFl : Hid ((fz.map (mv m)).length ≤ 2) := Lib.hid (by rw [List.length_map, HLz.out]; exact hLb)
      generalize fz.map (mv m) = F at HB HFit HAt HFl
      clear HI HB2 hF HFB
      go_wp2_with (first
        | (go_at_call 34; refine (HP.out _ _ _ HB.out.1.rd).mono ?_; rintro e w3 hr; obtain ⟨x3, c6, rfl, hO, -, -, hB⟩ := hr.open (n := 6) rfl; have B3 := Lib.hid hB; have O3 := Lib.hid (hO.source rfl); have K3 := Lib.hid (HB.out.quiet hB); clear hr hO hB)
        | (at_builtin; refine wpList_copy_new rfl _ _ 23 rfl 22 i0 .u64 8 Try.underlying23 hi hz0 hz1 hz2 _ m cap zs rfl rfl (HHX.out _ K3.out.2.2.2) (by unfold maxLen; omega) (by omega) ?_; intro v4 w4 hO4 hB4; have O4 := Lib.hid hO4; have B4 := Lib.hid hB4; clear hO4 hB4)
        | (at_builtin; refine wpList_append_list rfl _ _ 23 rfl w3.heap.size 22 i0 .u64 8 Try.underlying23 hi hz0 hz1 hz2 v4 zs rfl O4.out x3 6 c6 (thrice [g, q]) rfl (O3.out.keep B4.out) (by rw [HZL.out]; unfold maxLen; omega) (by rw [HZL.out]; omega) B4.out.size ?_; intro v5 w5 hO5 hg5; obtain ⟨x5, c5, hv5, hn5, hm5, -, -⟩ := hO5.form; have hl5 : (zs ++ thrice [g, q]).length = m + 6 := (by rw [List.length_append, HZL.out]; rfl); rw [hl5] at hv5 hn5; subst hv5; have O5 := Lib.hid hO5; have B5 := Lib.hid (B4.out.grown hg5 B4.out.size (fun g e => O4.out.ownBlock g e)); have Q5 := Lib.hid (And.intro hn5 hm5); clear hO5 hg5 hn5 hm5 hl5))
      refine (HR.out w5 x5 c5 zs O5.out.rd HZL.out Q5.out.1 Q5.out.2 HZW.out).mono ?_
      rintro e w6 ⟨rfl, hB6⟩
      have B6 := Lib.hid hB6
      have B36 := Lib.hid (below_on' B5.out hB6)
      clear hB6
      cases hf : Cd.fit p zs g q
      · have HNone' := Lib.hid (HNone.out hf)
        have HAt' := Lib.hid (HAt.out hf)
        have HB6 := Lib.hid (below_on' K3.out.2.2.2 B36.out)
        clear hf HAt HFit HNone B6 O5 O4 B4 B5 Q5 HP
        go_wp2
        go_loopw [76] (fun i wr => ∃ t : Nat, t ≤ m ∧ i = .int .i64 (t : Int) ∧ Hid (Below w6.heap.size w6 wr ∧ ∀ j, j < t → Cd.fit p (Cd.md p zs g j) g q = false)) (fun i _ => m - (intOf i).toNat)
        case atStart => exact ⟨0, Nat.zero_le _, rfl, Lib.hid ⟨Below.refl _ _, fun j hj => by omega⟩⟩
        case round =>
          obtain ⟨t, ht, rfl, HI⟩ := hrel
          by_cases hlt : t < m
          · have hdt : decide (t < m) = true := by simpa using hlt
            have htN : t < m + 6 := by omega
            have HBW := Lib.hid (below_on' HB6.out HI.out.1)
            have HB3W := Lib.hid (below_on' B36.out HI.out.1)
            obtain ⟨u, hu⟩ : ∃ u, u = Cd.nx p zs g t := ⟨_, rfl⟩
            have hNx := HNx.out t hlt
            have hub := HNb.out t
            rw [← hu] at hNx hub
            have HMd : Hid (Cd.md p zs g t = zs.set t u) := Lib.hid (by unfold Cd.md; rw [hu])
            have HE := Lib.hid (HAt'.out t hlt)
            rw [HMd.out, ← hu] at HE
            obtain ⟨s0, hs0⟩ : ∃ s0, s0 = Cd.s0 p (zs.set t 0) := ⟨_, rfl⟩
            have hsb : 0 ≤ s0 ∧ s0 < 18446744073709551616 := by rw [hs0]; exact HSb.out (zs.set t 0)
            obtain ⟨s00, s01⟩ := hsb
            have HSub := Lib.hid (fun W => rsub_any p g s0 W g0 g1 s00 s01)
            rw [hs0, hNx, ← hs0] at HSub
            have HSm := Lib.hid (fun W y c hr => HRS.out W y c (zs.set t 0) hr (by rw [List.length_set]; exact HZL.out) (Words.put HZW.out t (by omega) (by omega)))
            rw [← hs0] at HSm
            unfold RetAr arV at HSm
            have HU : Hid (0 ≤ u ∧ u < 18446744073709551616) := Lib.hid ⟨hub.1, by have := HKb.out; omega⟩
            generalize Cd.s1 p (zs.set t 0) = s1 at HSm
            clear hu hNx hub hs0
            go_wp2_with (first
              | (at_builtin; refine wpList_copy_new rfl _ _ 23 rfl 22 i0 .u64 8 Try.underlying23 hi hz0 hz1 hz2 _ m cap zs rfl rfl (HHX.out _ HBW.out) (by unfold maxLen; omega) (by omega) ?_; intro v7 w7 hO7 hB7; have O7 := Lib.hid hO7; have B7 := Lib.hid hB7; clear hO7 hB7)
              | (at_builtin; refine wpList_append_list rfl _ _ 23 rfl wr.heap.size 22 i0 .u64 8 Try.underlying23 hi hz0 hz1 hz2 v7 zs rfl O7.out x3 6 c6 (thrice [g, q]) rfl (O3.out.keep (below_on' HB3W.out B7.out)) (by rw [HZL.out]; unfold maxLen; omega) (by rw [HZL.out]; omega) B7.out.size ?_; intro v8 w8 hO8 hg8; obtain ⟨x8, c8, hv8, hn8, hm8, -, hf8⟩ := hO8.form; have hl8 : (zs ++ thrice [g, q]).length = m + 6 := (by rw [List.length_append, HZL.out]; rfl); rw [hl8] at hv8 hn8 hf8; subst hv8; obtain ⟨g8, rfl, hg8', -⟩ := hf8 (by omega); have ho8 := hO8.num hl8 htN; have hz8 := hO8.melt hl8 t; have hOp := hO8.put hl8 t 0; have hset : (zs ++ thrice [g, q]).set t 0 = zs.set t 0 ++ thrice [g, q] := (by rw [Cd.set_left (by rw [HZL.out]; exact hlt)]); rw [hset] at hOp; have O9 := Lib.hid hOp; have hB8 := B7.out.grown hg8 B7.out.size (fun g e => O7.out.ownBlock g e); have B9 := Lib.hid (hB8.setCell (p := ⟨g8, t, none⟩) hg8' (.int .u64 0)); have Q8 := Lib.hid (And.intro hn8 (And.intro hm8 hg8')); have hmc8 : m ≤ c8 := (by omega); have hc8m : c8 ≤ 9223372036854775807 := hm8; clear hO8 hg8 hn8 hm8 hl8 hf8 hg8' hOp hset hB8)
              | (go_at_call 12; have hr9 := O9.out.rd.take m; rw [List.take_append_of_le_length (by rw [List.length_set, HZL.out]; omega), List.take_of_length_le (by rw [List.length_set, HZL.out]; omega)] at hr9; refine (HSm.out _ _ _ hr9).mono ?_; clear hr9; rintro e wa ⟨rfl, hB⟩; have hBa := below_al hB (.cells #[.int .u64 s0, .int .u64 s1] 25); have k0 := (Ar.new wa s0 s1).c0; have O10 := Lib.hid (O9.out.below hBa); have B10 := Lib.hid (below_on' B9.out hBa); clear hB hBa))
            have hk2 := (below_on' HB3W.out B10.out).cell (p := ⟨b2, 0, none⟩) (K3.out.1.inside rfl).2
            have j0 := hk2.trans (K3.out.1.num rfl (j := 0) (by simp))
            have hlA : (zs.set t 0 ++ thrice [g, q]).length = m + 6 := by rw [List.length_append, List.length_set, HZL.out]; rfl
            have j1 := O10.out.num hlA htN
            have j2 := O10.out.melt hlA t
            have HLA := Lib.hid hlA
            have hset2 : (zs.set t 0 ++ thrice [g, q]).set t u = zs.set t u ++ thrice [g, q] := by rw [Cd.set_left (by rw [List.length_set, HZL.out]; exact hlt), List.set_set]
            have HSet := Lib.hid hset2
            obtain ⟨W10, hW10⟩ : ∃ W10, W10 = wa.alloc (.cells #[.int .u64 s0, .int .u64 s1] 25) := ⟨_, rfl⟩
            rw [← hW10] at k0 O10 B10 j0 j1 j2 ⊢
            have j0' : W10.cell? ⟨b2, 0, none⟩ = some (.int .u64 g) := j0
            have hne8 : g8 ≠ b2 := by have := Q8.out.2.2; have := HGb.out; have := (K3.out.1.inside (g := b2) rfl).2; have := HB3W.out.size; omega
            clear hW10 hk2 j0 hlA hset2 ho8 hz8 HSm O9 B9
            refine region_quiet_tail 9 hmx (by kernel_rfl) ?_
            simp only [List.take_succ_cons, List.take_zero, List.drop_succ_cons, List.drop_zero]
            repeat (go_big_quiet_step ((go_at_call 42; exact Calls.quiet_of_same (flip_same (HSub.out _)))))
            refine wpQuiet_nil ?_
            rintro w' ⟨nq, rfl⟩
            go_wp2_with fail
            have hO11 := (O10.out.draws nq).put HLA.out t u
            rw [HSet.out] at hO11
            have O11 := Lib.hid hO11
            have B11 := Lib.hid ((below_draws B10.out nq).setCell (p := ⟨g8, t, none⟩) Q8.out.2.2 (.int .u64 u))
            refine (HR.out _ (some ⟨g8, 0, none⟩) c8 (zs.set t u) hO11.rd (by rw [List.length_set]; exact HZL.out) Q8.out.1 Q8.out.2.1 (Words.put HZW.out t HU.out.1 HU.out.2)).mono ?_
            rintro e w12 ⟨rfl, hB12⟩
            have B12 := Lib.hid (below_on' B11.out hB12)
            have O12 := Lib.hid (hO11.below hB12)
            have hc12 := HCell.out w12 (below_on' HBW.out B12.out) t hlt
            have hu12 := O12.out.num (by rw [List.length_append, List.length_set, HZL.out]; rfl) htN
            have hgu : (zs.set t u ++ thrice [g, q]).getD t 0 = u := by rw [app_left (by rw [List.length_set, HZL.out]; exact hlt), Cd.put_get _ _ _ _ (by rw [HZL.out]; exact hlt), if_pos rfl]
            rw [hgu] at hu12
            have hb12 : b < w12.heap.size := World.block_lt_of_cell? _ _ hc12
            have hg12 : g8 < w12.heap.size := World.block_lt_of_cell? _ _ hu12
            obtain ⟨y, hy⟩ : ∃ y, y = zs.getD t 0 := ⟨_, rfl⟩
            rw [← hy] at hc12 HE
            clear hO11 hB12 hgu hy j1 j2 k0 j0' O10 B10 O11 B11
            cases hfi : Cd.fit p (zs.set t u) g q
            · have hfm : Cd.fit p (Cd.md p zs g t) g q = false := by rw [HMd.out]; exact hfi
              have HNew : Hid (∀ j, j < t + 1 → Cd.fit p (Cd.md p zs g j) g q = false) := Lib.hid (fun j hj => by
                by_cases e : j = t
                · rw [e]; exact hfm
                · exact HI.out.2 j (by omega))
              clear hfm hfi HE
              go_wp2
              go_roundw
              case rel => exact ⟨t + 1, by omega, by go_num, Lib.hid ⟨below_on' HI.out.1 B12.out, HNew.out⟩⟩
              case measure => simp [intOf]; omega
            · have HEr := Lib.hid (HE.out hfi)
              have q1 := fun s : Since w12 => (s.below.cell (p := ⟨b, off + t, none⟩) hb12).trans hc12
              have q2 := fun s : Since w12 => (s.below.cell (p := ⟨g8, t, none⟩) hg12).trans hu12
              have hcw : Below w12.heap.size w12 w12.drew := (Below.refl _ _).drew
              clear hfi HE
              go_wp2
              refine region_readsL (C := fun w' => ∃ s : Since w12, w' = s.out) [0, 1, 2, 3, 4, 5, 6, 7, 8, 9, 10, 12] hmx (by kernel_rfl) rfl (by kernel_rfl) ⟨⟨_, hcw⟩, rfl⟩ ?_
              simp only [List.map_cons, List.map_nil, List.getD_cons_zero, List.getD_cons_succ]
              repeat (go_big_quiet_step (skip))
              refine wpQuiet_nil ?_
              show anyC _ _ _ _ _ 16 5 _ _ _
              clear q1 q2
              refine anyC_one (i := 11) (by kernel_rfl) (wpOp_of_list rfl ?_)
              go_wp2
              have hS1 : Below w12.heap.size w12 (w12.drew.alloc (fxO ⟨(t : Int), y, u⟩)) := hcw.alloc (Nat.le_refl _) _
              have hOne := ownsF_one w12.drew ⟨(t : Int), y, u⟩ w12.heap.size (Nat.le_refl _)
              have hF1 : OwnsF (w12.drew.alloc (fxO ⟨(t : Int), y, u⟩)) w.heap.size (.slice y2 k c3) F := K3.out.2.1.below (below_on' (below_on' HB3W.out B12.out) hS1)
              have HS1 := Lib.hid hS1
              have HOne := Lib.hid hOne
              have HF1 := Lib.hid hF1
              unfold fxO at HS1 HOne HF1
              dsimp only at HS1 HOne HF1
              clear hS1 hOne hF1 hcw
              refine ⟨rfl, fun _ => ⟨⟨_, HS1.out⟩, rfl⟩, ?_⟩
              refine anyC_one (i := 13) (by kernel_rfl) (wpOp_of_list rfl ?_)
              refine wpList_append_fxs rfl _ _ rfl w12.heap.size w.heap.size _ [⟨(t : Int), y, u⟩] rfl HOne.out _ F rfl HF1.out (by have := HFl.out; simp; omega) HS1.out.size ?_
              intro v13 w13 hO13 hg13
              have hB13 := HS1.out.grown hg13 HS1.out.size (fun g e => (HOne.out.inside e).1)
              have HO13 := Lib.hid hO13
              have HB13 := Lib.hid hB13
              clear hO13 hg13 hB13 HOne HF1 HS1
              refine ⟨rfl, fun _ => ⟨⟨_, HB13.out⟩, rfl⟩, ?_⟩
              refine anyC_one (i := 14) (by kernel_rfl) (wpOp_of_list rfl ?_)
              go_wp2
              refine ⟨rfl, fun _ => ⟨⟨_, HB13.out⟩, rfl⟩, ?_⟩
              refine anyC_one (i := 15) (by kernel_rfl) (wpOp_of_list rfl ?_)
              go_wp2
              refine ⟨rfl, fun _ => ⟨⟨_, HB13.out⟩, rfl⟩, ?_⟩
              refine anyC_one (i := 16) (by kernel_rfl) (wpOp_of_list rfl ?_)
              go_wp2
              refine ⟨rfl, fun h => absurd rfl h, anyC_end (by kernel_rfl) ⟨rfl, ?_⟩⟩
              go_wp2
              go_ret3
              rw [HEr.out.1, HEr.out.2.1, HEr.out.2.2]
              refine ⟨_, _, rfl, (O12.out.mono HBW.out.size).below HB13.out, HO13.out.mono (below_on' HBW.out B12.out).size, fun z e1 e2 => ?_, below_on' (below_on' HBW.out B12.out) HB13.out⟩
              have := (O12.out.inside e1).2
              have := (HO13.out.inside e2).1
              omega
          · obtain rfl : t = m := by omega
            have hdt : decide (t < t) = false := by simp
            have HE := Lib.hid (HNone'.out HI.out.2)
            have HBW := Lib.hid (below_on' HB6.out HI.out.1)
            clear HI HNone' HAt'
            go_wp2
            go_ret3
            rw [HE.out.1, HE.out.2.1, HE.out.2.2]
            exact ⟨_, _, rfl, Owns.nil, OwnsF.nil, (fun g e => by cases e), HBW.out⟩
      · have HE := Lib.hid (HFit.out hf)
        clear hf HAt HFit HNone
        go_wp2
        go_ret3
        rw [HE.out.1, HE.out.2.1, HE.out.2.2]
        refine ⟨_, _, rfl, (O5.out.mono K3.out.2.2.2.size).below B6.out, K3.out.2.1.below B36.out, fun z e1 e2 => ?_, below_on' K3.out.2.2.2 B36.out⟩
        have := (O5.out.inside e1).1
        have := (K3.out.2.1.inside e2).2
        omega

/-- Fix, of whatever words. -/
theorem rkfix_any (p : Int) (x : Option Addr) (n cap : Nat) (xs : List Int) (w : World) (hx : Reads .u64 w w.heap.size x xs) (hn : xs.length = n) (hc : n ≤ cap) (hcm : cap ≤ maxLen) (hw : Words xs) :
    Calls Try.prog 18 #[.int .u64 p, .slice x n cap] w (RetC w (Cd.fiL p xs) (Cd.fiF p xs) (Cd.fiE p xs)) := by
  by_cases h : Cd.lnE p n = 0
  · obtain ⟨-, h7, -⟩ := Cd.lnE_zero.1 h
    rcases clE_six (Cd.tl_len (c := xs) (by omega)) with h1 | h1
    · exact rkfix_ok p x n cap xs w hx hn hc hcm hw h h1
    · obtain ⟨e1, e2, e3⟩ := Cd.fiE_lost (p := p) (c := xs) (by rw [hn]; exact h) (Cd.fiO_cells (by rw [h1]; decide))
      rw [e1, e2, e3]
      exact rkfix_cells p x n cap xs w hx hn hc hcm h h1
  · have := Cd.fiE_no (p := p) (c := xs) (by rw [hn]; exact h)
    rw [hn] at this
    rw [this.1, this.2.1, this.2.2]
    exact rkfix_no p x n cap w h

end Go.Proofs.Ytpdiilfpbkmebaa
