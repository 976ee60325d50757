/-
  The walk of the law PlanFits: it returns true for every prime, all axes, either way; nothing that was there is written.
-/
import Derived.Test.YtlbfllaaabginaaDoorPlanLive
import Derived.Test.YtlbfllaaabginaaDoorGrids
import Derived.Test.YtlbfllaaabginaaDoorStepA
import Derived.Deep.CutRange
namespace Go.Proofs.YtlbfllaaabginaaDoor
open Go.RowKit

namespace Stp
/-- How long the longest of the first k axes is. -/
def lng (xa : List Ax) : Nat → Nat
  | 0 => 0
  | k + 1 => max (lng xa k) (gL xa k)
theorem lng_all (xa : List Ax) : ∀ {k i : Nat}, i < k → gL xa i ≤ lng xa k
  | 0, _, h => by omega
  | k + 1, i, h => by
    show _ ≤ max _ _
    by_cases e : i = k
    · subst e; exact Nat.le_max_right _ _
    · exact Nat.le_trans (lng_all xa (show i < k by omega)) (Nat.le_max_left _ _)
theorem lng_le {p : Int} {xa : List Ax} (h : Axes p xa) : ∀ {k : Nat}, k ≤ xa.length → lng xa k ≤ 4096
  | 0, _ => Nat.zero_le _
  | k + 1, hk => by
    have := lng_le h (k := k) (by omega)
    have := h.L_le (a := k) (by omega)
    show max _ _ ≤ _
    omega
/-- No step has more factors than the longest axis has words. -/
theorem most_lng {p : Int} {xa : List Ax} {l : List Sp} (hl : ∀ s ∈ l, Sok p xa s) : most xa l ≤ lng xa xa.length := by
  by_cases h0 : 0 < most xa l
  · obtain ⟨s, hs, e⟩ := most_one h0
    rw [← e]
    exact Nat.le_trans (tabn_le (hl s hs)) (lng_all xa (hl s hs).hi)
  · omega
end Stp

set_option maxRecDepth 100000 in
set_option maxHeartbeats 8000000 in
theorem planfits_yes (H : PlanHas Gl) (HSt : StepHas Gl) (p : Int) (x : Option Addr) (n cap : Nat) (xa : List Ax) (inv : Bool) (w : World) (hG : Gl w) (hx : ReadsA w w.heap.size x xa) (hn : xa.length = n) (hl : n ≤ 8796093022208) (hA : Axes p xa)
    (HFew : Hid (∀ W, Below w.heap.size w W → Calls Tryd.prog 12 #[.slice x n cap, .int .i64 100] W (RetB (.bool true) W))) :
    Calls Tryd.prog 7 #[.int .u64 p, .slice x n cap, .bool inv] w fun e w' => e = .returned (.bool true) ∧ Below w.heap.size w w' := by
  have HV := Lib.hid (live17_any H _ hG)
  have HM := Lib.hid (fun W (hB : Below w.heap.size w W) => H.make p x n cap xa inv W (H.keep hG hB) ((hx.below hB).more hB.size) hn hl)
  have hE := hA.zero
  have e0 : Stp.plL p xa inv = Stp.plS xa inv xa.length := by unfold Stp.plL; rw [if_pos hE]
  have h4 : xa.length ≤ 4 := by have := hA.ok.four; rwa [szs_len] at this
  have h1 : 1 ≤ xa.length := by have := hA.ok.one; rwa [szs_len] at this
  have hok : ∀ s ∈ Stp.plL p xa inv, Stp.Sok p xa s := fun s hs => by rw [e0] at hs; exact Stp.plS_ok hA (Nat.le_refl _) hs
  have hml : Stp.most xa (Stp.plL p xa inv) ≤ 4096 := Stp.most_le hok
  have hpl : (Stp.plL p xa inv).length ≤ 100 := by rw [e0]; have := Stp.plS_len (inv := inv) hA (Nat.le_refl xa.length); omega
  have hNl : Sh.prod (szs xa) ≤ 4096 := hA.ok.le
  have eN : plN p xa = Sh.prod (szs xa) := by unfold plN; rw [if_pos hE]
  have eW : plW p xa inv = 2 * (Sh.prod (szs xa) + 6) + plT p xa inv := by unfold plW; rw [if_pos hE]
  have hTL := Stp.most_lng hok
  rw [eW, eN, hE] at HM
  unfold plT at HM
  have HT := Lib.hid (fun (s : Sp) W (hB : Below w.heap.size w W) (hs : Stp.Sok p xa s) => (by
    have := HSt.table p x n cap xa inv s W (HSt.keep hG hB) ((hx.below hB).more hB.size) hn hl (hs.in' h4)
    rw [hs.zero, hs.tab] at this
    exact this : Calls Tryd.prog 27 #[.int .u64 p, .slice x n cap, .bool inv, spV s] W (LineRet W ((List.range (Stp.tabn xa s)).map (Stp.tabN p xa inv s)) 0)))
  have HMem : Hid (∀ j, j < (Stp.plL p xa inv).length → Stp.Sok p xa ((Stp.plL p xa inv).getD j noSp)) := Lib.hid (fun j hj => hok _ (by
    rw [List.getD_eq_getElem?_getD, List.getElem?_eq_getElem hj]
    exact List.getElem_mem hj))
  have HTn : Hid (∀ j, j < (Stp.plL p xa inv).length → Stp.tabn xa ((Stp.plL p xa inv).getD j noSp) ≤ Stp.most xa (Stp.plL p xa inv)) := Lib.hid (fun j hj => Stp.most_all (by
    rw [List.getD_eq_getElem?_getD, List.getElem?_eq_getElem hj]
    exact List.getElem_mem hj))
  have HOne : Hid (0 < (Stp.plL p xa inv).length → ∃ j, j < (Stp.plL p xa inv).length ∧ Stp.tabn xa ((Stp.plL p xa inv).getD j noSp) = Stp.most xa (Stp.plL p xa inv)) := Lib.hid (fun h0 => by
    have h2 : (Stp.plL p xa inv).getD 0 noSp ∈ Stp.plL p xa inv := by
      rw [List.getD_eq_getElem?_getD, List.getElem?_eq_getElem h0]
      exact List.getElem_mem h0
    have h3 := Stp.most_all (xa := xa) h2
    have h5 := (hok _ h2).tab_le.1
    obtain ⟨s, hs, e⟩ := Stp.most_one (xa := xa) (l := Stp.plL p xa inv) (by omega)
    obtain ⟨j, hj, e2⟩ := List.mem_iff_getElem.1 hs
    refine ⟨j, hj, ?_⟩
    rw [List.getD_eq_getElem?_getD, List.getElem?_eq_getElem hj]
    show Stp.tabn xa ((Stp.plL p xa inv)[j]) = _
    rw [e2, e])
  have HPr : Hid (∀ k, k < xa.length → Sh.prod ((szs xa).take k) * gL xa k = Sh.prod ((szs xa).take (k + 1)) ∧ Sh.prod ((szs xa).take (k + 1)) ≤ 4096) := Lib.hid (fun k hk => ⟨Sh.prod_take (szs xa) k (by rw [szs_len]; exact hk), hA.ok.le_take _⟩)
  have HPe : Hid (Sh.prod ((szs xa).take n) = Sh.prod (szs xa)) := Lib.hid (by rw [← hn, ← szs_len, List.take_length])
  have HP0 : Hid (Sh.prod ((szs xa).take 0) = 1) := Lib.hid rfl
  have HLg : Hid (∀ k, k < xa.length → Stp.lng xa (k + 1) = max (Stp.lng xa k) (gL xa k) ∧ gL xa k ≤ 4096) := Lib.hid (fun k hk => ⟨rfl, hA.L_le hk⟩)
  have HLe : Hid (Stp.lng xa n = Stp.lng xa xa.length) := Lib.hid (by rw [hn])
  have hLl := Stp.lng_le hA (Nat.le_refl xa.length)
  have HInt : Hid (∀ k, k < xa.length → (xa.getD k noAx).n = ((gL xa k : Nat) : Int)) := Lib.hid (fun k hk => hA.int hk)
  have HNn := Lib.hid hn
  obtain ⟨bx, ox, rfl, hbx, hcx⟩ := hx (by omega)
  have HX := Lib.hid hcx
  have hn4 : n ≤ 4 := by omega
  have hL0 : Stp.lng xa 0 = 0 := rfl
  have HL0 := Lib.hid hL0
  generalize Stp.plL p xa inv = L at HM HMem HTn HOne hml hpl hTL
  generalize Stp.most xa L = T at HM HTn HOne hml hTL
  generalize Sh.prod (szs xa) = N at HM HPe hNl
  generalize Stp.lng xa = lg at HLg HLe HL0 hTL hLl
  generalize lg xa.length = LL at HLe hTL hLl
  obtain ⟨Ws, hWs⟩ : ∃ Ws : Int, Ws = ((2 * (N + 6) + T : Nat) : Int) := ⟨_, rfl⟩
  rw [← hWs] at HM
  have tW : (Ws == 2 * (N : Int) + 12 + (T : Int)) = true := by rw [hWs]; simp; omega
  have tW2 : decide (Ws ≤ 16384) = true := by rw [hWs]; simp; omega
  have tN : ((N : Int) == (N : Int)) = true := by simp
  obtain ⟨m, hm⟩ : ∃ m, m = L.length := ⟨_, rfl⟩
  have HLm := Lib.hid hm
  rw [← hm] at hpl
  clear hx hG hn H HSt hE e0 h4 h1 hok eN eW hcx hL0 hWs hm hA hl
  go_enter Tryd.func7, Tryd.ntmps7
  go_upto_region 6 with (first
    | (go_at_call 11; refine HV.out.mono ?_; rintro e w1 ⟨rfl, b1⟩; have B1 := Lib.hid b1; clear b1)
    | (go_at_call 12; refine (HFew.out _ B1.out).mono ?_; rintro e w2 ⟨rfl, b2⟩; have B2 := Lib.hid (below_then B1.out b2); clear b2)
    | (go_at_call 15; refine (HM.out _ B2.out).mono ?_; rintro e w3 ⟨v, rfl, hO, b3⟩; obtain ⟨y3, c3, rfl, -, -, hr⟩ := hO.form; have R3 := Lib.hid hr; have B3 := Lib.hid (below_then B2.out b3); rw [← HLm.out]; unfold plV; clear b3 hO hr))
  have hb := below_al (Below.refl w3.heap.size w3) (.cells #[.int .i64 (N : Int), .int .i64 (T : Int), .int .i64 Ws, .slice y3 m c3] 31)
  have PA := Lib.hid (Pl4.new w3 (N : Int) (T : Int) Ws (.slice y3 m c3))
  have R4 := Lib.hid ((R3.out.below hb).more hb.size)
  have B4 := Lib.hid (below_then B3.out hb)
  obtain ⟨W4, hW4⟩ : ∃ W4, W4 = w3.alloc (.cells #[.int .i64 (N : Int), .int .i64 (T : Int), .int .i64 Ws, .slice y3 m c3] 31) := ⟨_, rfl⟩
  rw [← hW4] at PA R4 B4 ⊢
  obtain ⟨gp, hgp⟩ : ∃ g, g = w3.heap.size := ⟨_, rfl⟩
  rw [← hgp] at PA ⊢
  clear hW4 hb R3 HM hgp
  go_wp2
  go_loopw [9, 10, 47] (fun v u i wr => ∃ (k a b : Nat), k ≤ n ∧ i = .int .i64 (k : Int) ∧ v = .int .i64 (a : Int) ∧ u = .int .i64 (b : Int) ∧ a ≤ 4096 ∧ b ≤ 4096 ∧ Hid (a = Sh.prod ((szs xa).take k)) ∧ Hid (b = lg k) ∧ Hid (Below W4.heap.size W4 wr)) (fun _ _ i _ => n - (intOf i).toNat)
  case atStart => exact ⟨0, 1, 0, Nat.zero_le _, rfl, rfl, rfl, by omega, by omega, Lib.hid HP0.out.symm, Lib.hid HL0.out.symm, Lib.hid (Below.refl _ _)⟩
  case round =>
    obtain ⟨k, a, b, hk, rfl, rfl, rfl, ha4, hb4, HAa, HBb, HBr⟩ := hrel
    by_cases hlk : k < n
    · have hdk : decide (k < n) = true := by simpa using hlk
      have hka : k < xa.length := by have := HNn.out; omega
      obtain ⟨c1, c2⟩ := HX.out k hka
      rw [HInt.out k hka] at c1
      have hbw := B4.out.trans (HBr.out.mono B4.out.size)
      have k1 := (hbw.cell (p := ⟨bx, ox + k * 2, none⟩) hbx).trans c1
      have k2 := (hbw.cell (p := ⟨bx, ox + k * 2 + 1, none⟩) hbx).trans c2
      obtain ⟨e1, e2⟩ := HPr.out k hka
      obtain ⟨e3, e4⟩ := HLg.out k hka
      rw [← HAa.out] at e1
      rw [← HBb.out] at e3
      generalize gL xa k = l at k1 e1 e3 e4
      generalize (xa.getD k noAx).neg = ng at k2
      obtain ⟨d, hd⟩ : ∃ d, d = a * l := ⟨_, rfl⟩
      have hz : (a : Int) * (l : Int) = (d : Int) := by rw [hd]; simp
      have hd4 : d ≤ 4096 := by rw [hd, e1]; exact e2
      have HD := Lib.hid (hd.trans e1)
      have HE := Lib.hid e3
      have HB3 := Lib.hid (below_al HBr.out (.cells #[.int .i64 (l : Int), .bool ng] 53))
      clear c1 c2 hbw e1 e2 hd hka e3
      by_cases hbl : b < l
      all_goals
        go_wp2
        go_roundw
        case rel => exact ⟨k + 1, d, _, by omega, by go_num, rfl, rfl, by omega, by omega, HD, Lib.hid (by rw [HE.out]; omega), HB3⟩
        case measure => simp [intOf]; omega
    · obtain rfl : k = n := by omega
      have hdk : decide (k < k) = false := by simp
      obtain rfl : a = N := by rw [HAa.out, HPe.out]
      obtain rfl : b = LL := by rw [HBb.out, HLe.out]
      have PB := PA.out.then HBr.out
      obtain ⟨k0, k1, k2, k3⟩ := And.intro PB.c0 (And.intro PB.c1 (And.intro PB.c2 PB.c3))
      have PB' := Lib.hid PB
      have R5 := Lib.hid ((R4.out.below HBr.out).more HBr.out.size)
      have B5 := Lib.hid (below_then B4.out HBr.out)
      obtain ⟨W5, rfl⟩ : ∃ W, W = wr := ⟨_, rfl⟩
      clear PB HX HInt HLg HPr
      go_wp2
      go_loopw [11, 63] (fun v i wr => ∃ (j M : Nat), j ≤ m ∧ i = .int .i64 (j : Int) ∧ v = .int .i64 (M : Int) ∧ M ≤ j ∧ Hid (∀ t, t < j → Stp.tabn xa (L.getD t noSp) = T → 0 < M) ∧ Hid (Below W5.heap.size W5 wr)) (fun _ i _ => m - (intOf i).toNat)
      case atStart => exact ⟨0, 0, Nat.zero_le _, rfl, rfl, by omega, Lib.hid (fun t ht => by omega), Lib.hid (Below.refl _ _)⟩
      case round =>
        obtain ⟨j, M, hj, rfl, rfl, hMj, HMt, HBs⟩ := hrel
        have PC := PB'.out.then HBs.out
        obtain ⟨k0, k1, k2, k3⟩ := And.intro PC.c0 (And.intro PC.c1 (And.intro PC.c2 PC.c3))
        by_cases hlj : j < m
        · have hdj : decide (j < m) = true := by simpa using hlj
          have hjs : j < L.length := by rw [← HLm.out]; exact hlj
          obtain ⟨bs, os, rfl, hbs, hcs⟩ := R5.out (by omega)
          obtain ⟨s0, s1, s2, s3, s4⟩ := hcs j hjs
          have l0 := (HBs.out.cell (p := ⟨bs, os + j * 5, none⟩) hbs).trans s0
          have l1 := (HBs.out.cell (p := ⟨bs, os + j * 5 + 1, none⟩) hbs).trans s1
          have l2 := (HBs.out.cell (p := ⟨bs, os + j * 5 + 2, none⟩) hbs).trans s2
          have l3 := (HBs.out.cell (p := ⟨bs, os + j * 5 + 3, none⟩) hbs).trans s3
          have l4 := (HBs.out.cell (p := ⟨bs, os + j * 5 + 4, none⟩) hbs).trans s4
          have hok := HMem.out j hjs
          have HT1 := Lib.hid (fun W hB => HT.out (L.getD j noSp) W hB hok)
          have hT4 := HTn.out j hjs
          have HMt' : Hid (∀ t, t < j + 1 → t ≠ j → Stp.tabn xa (L.getD t noSp) = T → 0 < M) := Lib.hid (fun t h1 h2 h3 => HMt.out t (by omega) h3)
          obtain ⟨s, hs⟩ : ∃ s, s = L.getD j noSp := ⟨_, rfl⟩
          have HS := Lib.hid hs
          rw [← hs] at l0 l1 l2 l3 l4 HT1 hT4
          obtain ⟨tb, htb⟩ : ∃ tb, tb = (List.range (Stp.tabn xa s)).map (Stp.tabN p xa inv s) := ⟨_, rfl⟩
          have hTL' : tb.length = Stp.tabn xa s := by rw [htb]; simp
          rw [← htb] at HT1
          obtain ⟨t, ht⟩ : ∃ t, t = Stp.tabn xa s := ⟨_, rfl⟩
          have HTt := Lib.hid ht
          rw [← ht] at hT4 hTL'
          have HTL := Lib.hid hTL'
          have PD := Lib.hid PC
          have HB3 := Lib.hid (below_al HBs.out (.cells #[.int .i64 s.ax, .bool s.tw, .int .i64 s.st.r, .int .i64 s.st.l, .int .i64 s.st.m] 49))
          have PE := Lib.hid (PC.then (below_al (Below.refl wr.heap.size wr) (.cells #[.int .i64 s.ax, .bool s.tw, .int .i64 s.st.r, .int .i64 s.st.l, .int .i64 s.st.m] 49)))
          unfold spV at HT1
          clear hs hcs s0 s1 s2 s3 s4 hok htb hTL' hjs ht PC k0 k1 k2 k3 HMt
          have d1 : decide ((T : Int) < (t : Int)) = false := by simp; omega
          have d1' : decide (T < t) = false := by simp; omega
          obtain ⟨sa, sw, sr, sl, sm⟩ := s
          dsimp only at l0 l1 l2 l3 l4 HB3 PE HT1
          by_cases hTt : t = T
          · have d2 : ((t : Int) == (T : Int)) = true := by rw [hTt]; simp
            have HTT := Lib.hid hTt
            clear hTt
            go_wp2_with (go_at_call 27; refine (HT1.out _ (below_then B5.out HB3.out)).mono ?_; rintro e w7 ⟨v, rfl, hO, b7⟩; obtain ⟨y7, c7, rfl, -, -, -, -⟩ := hO.form; have B7 := Lib.hid (below_then HB3.out b7); have PF := PE.out.then b7; have k1 := PF.c1; rw [HTL.out]; clear b7 hO PF)
            go_roundw
            case rel => exact ⟨j + 1, M + 1, by omega, by go_num, by go_num, by omega, Lib.hid (fun _ _ _ => by omega), B7⟩
            case measure => simp [intOf]; omega
          · have d2 : ((t : Int) == (T : Int)) = false := by simp; omega
            have HTT := Lib.hid hTt
            clear hTt
            go_wp2_with (go_at_call 27; refine (HT1.out _ (below_then B5.out HB3.out)).mono ?_; rintro e w7 ⟨v, rfl, hO, b7⟩; obtain ⟨y7, c7, rfl, -, -, -, -⟩ := hO.form; have B7 := Lib.hid (below_then HB3.out b7); have PF := PE.out.then b7; have k1 := PF.c1; rw [HTL.out]; clear b7 hO PF)
            go_roundw
            case rel => exact ⟨j + 1, M, by omega, by go_num, rfl, by omega, Lib.hid (fun t' h1 h3 => by
              by_cases e : t' = j
              · subst e; rw [← HS.out, ← HTt.out] at h3; exact absurd h3 HTT.out
              · exact HMt'.out t' h1 e h3), B7⟩
            case measure => simp [intOf]; omega
        · obtain rfl : j = m := by omega
          have hdj : decide (j < j) = false := by simp
          have B6 := Lib.hid (below_then B5.out HBs.out)
          have d3 : decide ((T : Int) ≤ (b : Int)) = true := by simp; omega
          have d3' : decide (T ≤ b) = true := by simp; omega
          by_cases hm0 : j = 0
          · have d4 : ((j : Int) == 0) = true := by rw [hm0]; rfl
            clear hm0
            go_wp2
            go_ret
            exact ⟨rfl, B6.out⟩
          · have d4 : ((j : Int) == 0) = false := by simp; omega
            obtain ⟨t, h1, h2⟩ := HOne.out (by rw [← HLm.out]; omega)
            have hM := HMt.out t (by rw [HLm.out]; exact h1) h2
            have d5 : decide (0 < M) = true := by simpa using hM
            have d5' : decide ((0 : Int) < (M : Int)) = true := by simp; omega
            clear h1 h2 hm0
            go_wp2
            go_ret
            exact ⟨rfl, B6.out⟩

set_option maxRecDepth 100000 in
set_option maxHeartbeats 4000000 in
theorem planfits_any (H : PlanHas Gl) (HSt : StepHas Gl) (p : Int) (x : Option Addr) (n cap : Nat) (xa : List Ax) (inv : Bool) (w : World) (hG : Gl w) (hx : ReadsA w w.heap.size x xa) (hn : xa.length = n) (hl : n ≤ 8796093022208) :
    Calls Tryd.prog 7 #[.int .u64 p, .slice x n cap, .bool inv] w fun e w' => e = .returned (.bool true) ∧ Below w.heap.size w w' := by
  obtain ⟨b, HFew⟩ := few_any x n cap xa 100 w hx hn hl
  have HV := Lib.hid (live17_any H _ hG)
  cases b
  · clear hx hG hn H HSt
    go_enter Tryd.func7, Tryd.ntmps7
    go_wp2_with (first
      | (go_at_call 11; refine HV.out.mono ?_; rintro e w1 ⟨rfl, b1⟩; have B1 := Lib.hid b1; clear b1)
      | (go_at_call 12; refine (HFew.out _ B1.out).mono ?_; rintro e w2 ⟨rfl, b2⟩; have B2 := Lib.hid (below_then B1.out b2); clear b2))
    go_ret
    exact ⟨rfl, B2.out⟩
  by_cases hE : gridE p xa = 0
  · exact planfits_yes H HSt p x n cap xa inv w hG hx hn hl (gridE_zero hE) HFew
  have HM := Lib.hid (fun W (hB : Below w.heap.size w W) => H.make p x n cap xa inv W (H.keep hG hB) ((hx.below hB).more hB.size) hn hl)
  have e0 : Stp.plL p xa inv = [] := by unfold Stp.plL; rw [if_neg hE]
  have eN : plN p xa = 0 := by unfold plN; rw [if_neg hE]
  have eW : plW p xa inv = 0 := by unfold plW; rw [if_neg hE]
  have eT : plT p xa inv = 0 := by unfold plT; rw [e0]; rfl
  rw [eN, eW, eT, e0] at HM
  have t := ne_of_bne hE
  generalize gridE p xa = er at HM t
  clear hx hG hn H HSt hE e0 eN eW eT
  go_enter Tryd.func7, Tryd.ntmps7
  go_wp2_with (first
    | (go_at_call 11; refine HV.out.mono ?_; rintro e w1 ⟨rfl, b1⟩; have B1 := Lib.hid b1; clear b1)
    | (go_at_call 12; refine (HFew.out _ B1.out).mono ?_; rintro e w2 ⟨rfl, b2⟩; have B2 := Lib.hid (below_then B1.out b2); clear b2)
    | (go_at_call 15; refine (HM.out _ B2.out).mono ?_; rintro e w3 ⟨v, rfl, hO, b3⟩; obtain ⟨y3, c3, rfl, -, -, hr⟩ := hO.form; have B3 := Lib.hid (below_al (below_then B2.out b3) (.cells #[.int .i64 0, .int .i64 0, .int .i64 0, .slice y3 0 c3] 31)); simp only [List.length_nil]; unfold plV; clear b3 hO hr))
  go_ret
  exact ⟨rfl, B3.out⟩

theorem planfits_walk (H : PlanHas Gl) (HSt : StepHas Gl) (p : Int) (x : Option Addr) (len cap : Nat) (xa : List Ax) (inv : Bool) (w : World) (_hp : (Lit.int .u64 p).wf = true) (hA : AxisIn w x len cap xa) (hlb : len ≤ 8796093022208) (hG : Gl w) :
    Calls Tryd.prog 7 #[.int .u64 p, .slice x len cap, .bool inv] w fun e w' => e = .returned (.bool true) ∧ Below w.heap.size w w' := by
  obtain ⟨hn, hc1, hc2, hx, -⟩ := hA
  exact planfits_any H HSt p x len cap xa inv w hG hx hn hlb

end Go.Proofs.YtlbfllaaabginaaDoor
