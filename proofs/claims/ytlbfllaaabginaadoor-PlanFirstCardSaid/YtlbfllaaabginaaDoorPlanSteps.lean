/-
  What plan.Steps comes to.
-/
import Derived.Test.YtlbfllaaabginaaDoorPlanHas
import Derived.Test.YtlbfllaaabginaaDoorGrids
import Derived.Test.YtlbfllaaabginaaDoorStepA
import Derived.Deep.CutRange
namespace Go.Proofs.YtlbfllaaabginaaDoor
open Go.RowKit

set_option maxRecDepth 100000 in
set_option maxHeartbeats 8000000 in
theorem steps17_any (p : Int) (x : Option Addr) (n cap : Nat) (xa : List Ax) (inv : Bool) (w : World) (hG : Gl w) (hx : ReadsA w w.heap.size x xa) (hn : xa.length = n) (hl : n ≤ 8796093022208) :
    Calls Tryd.prog 13 #[.int .u64 p, .slice x n cap, .bool inv] w (RetSs w (Stp.plL p xa inv) (gridE p xa)) := by
  have HC := Lib.hid (check7_any p x n cap xa w hG hx hn hl)
  by_cases hE : gridE p xa = 0
  · have hA := gridE_zero hE
    have e0 : Stp.plL p xa inv = Stp.plS xa inv xa.length := by unfold Stp.plL; rw [if_pos hE]
    rw [e0, hE]
    rw [hE] at HC
    have h4 : xa.length ≤ 4 := by have := hA.ok.four; rwa [szs_len] at this
    have h1 : 1 ≤ xa.length := by have := hA.ok.one; rwa [szs_len] at this
    obtain ⟨bx, ox, rfl, hbx, hcx⟩ := hx (by omega)
    have HX := Lib.hid hcx
    have HA := Lib.hid hA
    have HPl : Hid (∀ m, m ≤ xa.length → (Stp.plS xa inv m).length ≤ 14 * m) := Lib.hid (fun m hm => Stp.plS_len hA hm)
    have HNn := Lib.hid hn
    have hn4 : n ≤ 4 := by omega
    have HP1 : Hid (∀ m, Stp.plS xa inv (m + 1) = Stp.plS xa inv m ++ Stp.stepsOf (gN xa m) inv (gL xa m) m) := Lib.hid (fun m => rfl)
    have HP0 : Hid (Stp.plS xa inv 0 = []) := Lib.hid rfl
    rw [hn]
    generalize Stp.plS xa inv = pl at HPl HP1 HP0 ⊢
    clear hx hG hE hA e0 hcx hl h1 h4 hn
    obtain ⟨iv, hiv⟩ : ∃ iv, iv = inv := ⟨_, rfl⟩
    have HIV := Lib.hid hiv
    clear hiv
    cases inv
    all_goals
      go_enter Tryd.func13, Tryd.ntmps13
      go_wp2_with (go_at_call 28; refine HC.out.mono ?_; rintro e w0 ⟨rfl, b0⟩; have B0 := Lib.hid b0; clear b0)
      go_loopw [9, 25] (fun v i wr => ∃ (k : Nat) (o : Value), k ≤ n ∧ i = .int .i64 (k : Int) ∧ o = v ∧ Hid (OwnsP wr w.heap.size o (pl k)) ∧ Hid (Below w.heap.size w wr)) (fun _ i _ => n - (intOf i).toNat)
      case atStart => exact ⟨0, _, Nat.zero_le _, rfl, rfl, Lib.hid (by rw [HP0.out]; exact OwnsP.nil), B0⟩
      case round =>
        obtain ⟨k, o, hk, rfl, rfl, HO, HBr⟩ := hrel
        by_cases hlk : k < n
        · have hdk : decide (k < n) = true := by simpa using hlk
          have hka : k < xa.length := by have := HNn.out; omega
          obtain ⟨c1, c2⟩ := HX.out k hka
          rw [HA.out.int hka] at c1
          have hNe : (xa.getD k noAx).neg = gN xa k := rfl
          rw [hNe] at c2
          have HSt := Lib.hid (fun W => stages_yes (gL xa k) W (HA.out.sm' hka))
          have HSdef : Fac.stages (gL xa k) (Fac.rads (gL xa k)) 1 = Stp.stgs (gL xa k) := rfl
          rw [HSdef] at HSt
          have hS12 : (Stp.stgs (gL xa k)).length ≤ 12 := by
            unfold Stp.stgs
            rw [Fac.stages_len]
            exact Fac.rads_len _ (HA.out.L hka) (HA.out.L_le hka)
          have HNx := Lib.hid (HP1.out k)
          have HLk := Lib.hid (HPl.out k (by omega))
          have hLL : ∀ (ng iv : Bool), Stp.stepsOf ng iv (gL xa k) k = (if ng = true ∧ iv = false then [⟨(k : Int), true, noSt⟩] else []) ++ ((Stp.stgs (gL xa k)).map fun t => (⟨(k : Int), false, t⟩ : Sp)) ++ (if iv = true then [⟨(k : Int), true, noSt⟩] else []) := fun ng iv => rfl
          rw [hLL] at HNx
          obtain ⟨ps, hps⟩ : ∃ ps, ps = pl k := ⟨_, rfl⟩
          rw [← hps] at HO HNx HLk
          generalize Stp.stgs (gL xa k) = S at HSt hS12 HNx
          have k1 := (HBr.out.cell (p := ⟨bx, ox + k * 2, none⟩) hbx).trans c1
          have k2 := (HBr.out.cell (p := ⟨bx, ox + k * 2 + 1, none⟩) hbx).trans c2
          generalize gL xa k = L at HSt k1
          generalize gN xa k = neg at k2 HNx
          have hv0 : ∀ g, o.ownBlock = some g → w.heap.size ≤ g ∧ g < wr.heap.size := fun g e => HO.out.inside e
          have HV := Lib.hid hv0
          have HS12 := Lib.hid hS12
          clear hps c1 c2 hNe HSdef hLL hka hS12 hv0
          go_upto_region 9 with fail
          have C0 : ((wr.alloc (.cells #[.int .i64 (L : Int), .bool neg] 53)).alloc (.cells #[.int .i64 (k : Int), .bool true, .int .i64 0, .int .i64 0, .int .i64 0] 49)).cell? ⟨wr.heap.size, 0, none⟩ = some (.int .i64 (L : Int)) := by simp
          have C1 : ((wr.alloc (.cells #[.int .i64 (L : Int), .bool neg] 53)).alloc (.cells #[.int .i64 (k : Int), .bool true, .int .i64 0, .int .i64 0, .int .i64 0] 49)).cell? ⟨wr.heap.size, 1, none⟩ = some (.bool neg) := by simp
          have SA : SpAt ((wr.alloc (.cells #[.int .i64 (L : Int), .bool neg] 53)).alloc (.cells #[.int .i64 (k : Int), .bool true, .int .i64 0, .int .i64 0, .int .i64 0] 49)) (wr.alloc (.cells #[.int .i64 (L : Int), .bool neg] 53)).heap.size ⟨(k : Int), true, noSt⟩ := SpAt.new (wr.alloc (.cells #[.int .i64 (L : Int), .bool neg] 53)) 49 ⟨(k : Int), true, noSt⟩
          rw [World.size_alloc] at SA
          have hB1 := below_al (below_al (Below.refl wr.heap.size wr) (.cells #[.int .i64 (L : Int), .bool neg] 53)) (.cells #[.int .i64 (k : Int), .bool true, .int .i64 0, .int .i64 0, .int .i64 0] 49)
          have O1 := Lib.hid (HO.out.below hB1)
          have BW := Lib.hid (below_then HBr.out hB1)
          have hz : ((wr.alloc (.cells #[.int .i64 (L : Int), .bool neg] 53)).alloc (.cells #[.int .i64 (k : Int), .bool true, .int .i64 0, .int .i64 0, .int .i64 0] 49)).heap.size = wr.heap.size + 2 := by simp
          obtain ⟨W1, hW1⟩ : ∃ W1, W1 = ((wr.alloc (.cells #[.int .i64 (L : Int), .bool neg] 53)).alloc (.cells #[.int .i64 (k : Int), .bool true, .int .i64 0, .int .i64 0, .int .i64 0] 49)) := ⟨_, rfl⟩
          rw [← hW1] at C0 C1 SA O1 BW hz ⊢
          have HSA := Lib.hid SA
          obtain ⟨q0, q1, q2, q3, q4⟩ := SA
          dsimp only [noSt] at q0 q1 q2 q3 q4
          have HZ := Lib.hid hz
          have HWs := Lib.hid (BW.out.size)
          clear hW1 k1 k2 hB1 hz HO HBr
          obtain ⟨pre, hpre⟩ : ∃ pre : List Sp, pre = ps ++ (if neg = true ∧ iv = false then [⟨(k : Int), true, noSt⟩] else []) := ⟨_, rfl⟩
          obtain ⟨post, hpost⟩ : ∃ post : List Sp, post = if iv = true then [⟨(k : Int), true, noSt⟩] else [] := ⟨_, rfl⟩
          rw [HIV.out] at hpre hpost
          rw [← List.append_assoc, ← List.append_assoc, ← hpre, ← hpost] at HNx
          cases neg
          all_goals
            simp at hpre hpost
            first
              | (go_upto_region 11 with (at_builtin; refine wpList_append_sp2 rfl _ _ rfl w.heap.size _ _ rfl W1 _ rfl O1.out ⟨W1.heap.size, 0, none⟩ 1 ⟨(k : Int), true, noSt⟩ rfl (cell_sp_new W1 ⟨(k : Int), true, noSt⟩) (by have := HLk.out; omega) HWs.out ?_; intro v5 W5 hO5 hG5; have G5 := Lib.hid hG5; have O5 := Lib.hid hO5; clear hO5 hG5)
                 have C5 := (G5.out.cell (p := ⟨wr.heap.size, 0, none⟩) (by rw [HZ.out]; show wr.heap.size < _; omega) (fun e => by have := (HV.out _ e).2; exact Nat.lt_irrefl _ this)).trans C0
                 have HZ5 : Hid (wr.heap.size + 2 ≤ W5.heap.size) := Lib.hid (by have := G5.out.1.size; have := HZ.out; omega)
                 have BW5 := Lib.hid (BW.out.trans (G5.out.below (n := w.heap.size) HWs.out (fun g e => (HV.out g e).1)))
                 rw [← hpre] at O5
                 clear C0 C1 q0 q1 q2 q3 q4 O1 HSA G5 BW)
              | (go_upto_region 11 with fail
                 have O5 := O1
                 have BW5 := BW
                 have C5 := C0
                 have HV5 := HV
                 have HZ5 : Hid (wr.heap.size + 2 ≤ W1.heap.size) := Lib.hid (by have := HZ.out; omega)
                 rw [← hpre] at O5
                 obtain ⟨v5, rfl⟩ : ∃ v, v = o := ⟨_, rfl⟩
                 obtain ⟨W5, rfl⟩ : ∃ W, W = W1 := ⟨_, rfl⟩
                 clear C0 C1 O1 BW)
            have HLp : Hid (pre.length ≤ 50) := Lib.hid (by have := HLk.out; rw [hpre]; simp; omega)
            have hv5 : ∀ g, v5.ownBlock = some g → g < W5.heap.size := fun g e => (O5.out.inside e).2
            have HV5' := Lib.hid hv5
            clear hv5 hpre
            go_upto_region 12 with (go_at_call 29; refine (HSt.out _).mono ?_; rintro e w4 ⟨v, rfl, hO, b4⟩; obtain ⟨y2, c2, rfl, -, -, hr2⟩ := hO.lies; have R2 := Lib.hid hr2; have B4 := Lib.hid b4; have O4 := Lib.hid (O5.out.below b4); have BW4 := Lib.hid (below_then BW5.out b4); clear b4 hO hr2)
            have HZ4 := Lib.hid B4.out.size
            obtain ⟨gw, hgw⟩ : ∃ g, g = wr.heap.size := ⟨_, rfl⟩
            have hgw5 : gw < W5.heap.size ∧ gw + 1 < W5.heap.size := by have := HZ5.out; omega
            have HGW := Lib.hid hgw
            have HGW5 := Lib.hid hgw5
            clear hgw hgw5
            go_wp2
            go_loopw [9, 50] (fun v i wi => ∃ (j : Nat) (o : Value), j ≤ S.length ∧ i = .int .i64 (j : Int) ∧ o = v ∧ Hid (OwnsP wi w.heap.size o (pre ++ (S.take j).map fun t => (⟨(k : Int), false, t⟩ : Sp))) ∧ Hid (Gro v5 o w4 wi)) (fun _ i _ => S.length - (intOf i).toNat)
            case atStart => exact ⟨0, _, Nat.zero_le _, rfl, rfl, Lib.hid (by rw [List.take_zero, List.map_nil, List.append_nil]; exact O4.out), Lib.hid (Gro.refl _ _)⟩
            case round =>
              obtain ⟨j, o, hj, rfl, rfl, HO, HG⟩ := hrel
              have HWs := Lib.hid (Nat.le_trans BW4.out.size HG.out.1.size)
              have hLn : (pre ++ (S.take j).map fun t => (⟨(k : Int), false, t⟩ : Sp)).length ≤ 100 := by
                have := HLp.out
                have := HS12.out
                simp
                omega
              have HLn := Lib.hid hLn
              clear hLn
              by_cases hlj : j < S.length
              · have hdj : decide (j < S.length) = true := by simpa using hlj
                have hSb := HS12.out
                obtain ⟨bs, os, rfl, hbs, hbs', hcs⟩ := R2.out (by omega)
                obtain ⟨s0, s1, s2⟩ := hcs j hlj
                have hnb : v5.ownBlock ≠ some bs := fun e => by have := HV5'.out _ e; omega
                have k0 := (HG.out.cell (p := ⟨bs, os + j * 3, none⟩) hbs' hnb).trans s0
                have k1 := (HG.out.cell (p := ⟨bs, os + j * 3 + 1, none⟩) hbs' hnb).trans s1
                have k2 := (HG.out.cell (p := ⟨bs, os + j * 3 + 2, none⟩) hbs' hnb).trans s2
                have HTk := Lib.hid (Stp.take_more S noStg j hlj)
                obtain ⟨t, ht⟩ : ∃ t, t = S.getD j noStg := ⟨_, rfl⟩
                rw [← ht] at k0 k1 k2 HTk
                obtain ⟨r, l, mm⟩ := t
                dsimp only at k0 k1 k2
                clear ht hcs s0 s1 s2 hnb
                go_upto_region 15 with fail
                have C3 : (wr.alloc (.cells #[.int .i64 r, .int .i64 l, .int .i64 mm] 47)).cell? ⟨wr.heap.size, 0, none⟩ = some (.int .i64 r) := by simp
                have C4 : (wr.alloc (.cells #[.int .i64 r, .int .i64 l, .int .i64 mm] 47)).cell? ⟨wr.heap.size, 1, none⟩ = some (.int .i64 l) := by simp
                have C5 : (wr.alloc (.cells #[.int .i64 r, .int .i64 l, .int .i64 mm] 47)).cell? ⟨wr.heap.size, 2, none⟩ = some (.int .i64 mm) := by simp
                have hB3 := below_al (Below.refl wr.heap.size wr) (.cells #[.int .i64 r, .int .i64 l, .int .i64 mm] 47)
                have HO3 := Lib.hid (HO.out.below hB3)
                have HG3 := Lib.hid (HG.out.trans (Gro.of_below _ hB3))
                have HWs3 := Lib.hid (Nat.le_trans HWs.out hB3.size)
                obtain ⟨W3, hW3⟩ : ∃ W3, W3 = wr.alloc (.cells #[.int .i64 r, .int .i64 l, .int .i64 mm] 47) := ⟨_, rfl⟩
                rw [← hW3] at C3 C4 C5 HO3 HG3 HWs3 ⊢
                clear hW3 k0 k1 k2 hB3
                go_wp2_with (at_builtin; refine wpList_append_sp2 rfl _ _ rfl w.heap.size _ _ rfl W3 _ rfl HO3.out ⟨W3.heap.size, 0, none⟩ 1 ⟨(k : Int), false, ⟨r, l, mm⟩⟩ rfl (cell_sp_new W3 ⟨(k : Int), false, ⟨r, l, mm⟩⟩) (by have := HLn.out; omega) HWs3.out ?_; intro v' w6 hO6 hG6; have O6 := Lib.hid hO6; have G6 := Lib.hid (HG3.out.trans hG6); clear hO6 hG6)
                go_roundw
                case rel =>
                  refine ⟨j + 1, v', by omega, by go_num, rfl, Lib.hid ?_, G6⟩
                  rw [HTk.out, List.map_append, ← List.append_assoc]
                  exact O6.out
                case measure => simp [intOf]; omega
              · obtain rfl : j = S.length := by omega
                have hdj : decide (S.length < S.length) = false := by simp
                rw [List.take_length] at HO HLn
                have BWr := Lib.hid (BW4.out.trans (HG.out.below BW4.out.size (fun g e => (O4.out.inside e).1)))
                first
                  | (rw [hpost, List.append_nil] at HNx
                     go_wp2
                     go_roundw
                     case rel => exact ⟨k + 1, _, by omega, by go_num, rfl, Lib.hid (by rw [HNx.out]; exact HO.out), BWr⟩
                     case measure => simp [intOf]; omega)
                  | (have S4 := Lib.hid ((HSA.out.then B4.out).gro HG.out (fun e => by have := (HV5.out _ e).2; have := HGW.out; omega))
                     obtain ⟨q0, q1, q2, q3, q4⟩ := S4.out
                     dsimp only [noSt] at q0 q1 q2 q3 q4
                     go_wp2_with (at_builtin; refine wpList_append_sp2 rfl _ _ rfl w.heap.size _ _ rfl wr _ rfl HO.out ⟨wr.heap.size, 0, none⟩ 1 ⟨(k : Int), true, noSt⟩ rfl (cell_sp_new wr ⟨(k : Int), true, noSt⟩) (by have := HLn.out; omega) HWs.out ?_; intro v' w6 hO6 hG6; have O6 := Lib.hid hO6; have B6 := Lib.hid (BWr.out.trans (hG6.below BWr.out.size (fun g e => (HO.out.inside e).1))); clear hO6 hG6)
                     go_roundw
                     case rel => exact ⟨k + 1, v', by omega, by go_num, rfl, Lib.hid (by rw [HNx.out, hpost]; exact O6.out), B6⟩
                     case measure => simp [intOf]; omega)
        · obtain rfl : k = n := by omega
          have hdk : decide (k < k) = false := by simp
          go_wp2
          go_ret2
          exact ⟨_, rfl, HO.out, HBr.out⟩
  · have e0 : Stp.plL p xa inv = [] := by unfold Stp.plL; rw [if_neg hE]
    rw [e0]
    have t := ne_of_bne hE
    generalize gridE p xa = er at HC t ⊢
    clear hx hG hE e0 hn hl
    go_enter Tryd.func13, Tryd.ntmps13
    go_wp2_with (go_at_call 28; refine HC.out.mono ?_; rintro e w0 ⟨rfl, b0⟩; have B0 := Lib.hid b0; clear b0)
    go_ret2
    exact ⟨_, rfl, OwnsP.nil, B0.out⟩

end Go.Proofs.YtlbfllaaabginaaDoor
