/-
  What plan.Make comes to.
-/
import Derived.Test.YtlbfllaaabginaaDoorPlanSteps
import Derived.Test.YtlbfllaaabginaaDoorStepA
import Derived.Test.YtlbfllaaabginaaDoorPairs
namespace Go.Proofs.YtlbfllaaabginaaDoor
open Go.RowKit

set_option maxHeartbeats 1000000 in
theorem wordsOf17_any {p : Int} (x : Option Addr) (n cap : Nat) (xa : List Ax) (w : World) (hA : Axes p xa) (hx : ReadsA w w.heap.size x xa) (hn : xa.length = n) (hl : n ≤ 8796093022208) :
    Calls Tryd.prog 35 #[.slice x n cap] w (RetB (.int .i64 ((Sh.prod (szs xa) : Nat) : Int)) w) := by
  have HD := Lib.hid (dims_any x n cap xa w hx hn hl)
  have HO := Lib.hid hA.ok
  have HDM := Lib.hid hA.is
  have HDL := Lib.hid (dims_len xa)
  clear hA hx hn hl
  go_enter Tryd.func35, Tryd.ntmps35
  go_wp2_with (first
    | (go_at_call 50; refine HD.out.mono ?_; rintro e w1 ⟨v, rfl, hO, b1⟩; obtain ⟨y1, c, rfl, -, -, hr, -⟩ := hO.form; have R1 := Lib.hid hr; have B1 := Lib.hid b1; clear hO hr b1)
    | (go_at_call 51; refine (all_ok (szs xa) HO.out y1 _ c w1 w1.heap.size (by rw [← HDM.out]; exact R1.out) (by rw [HDL.out, szs_len])).mono ?_; rintro e w' ⟨rfl, rfl⟩))
  go_ret
  exact ⟨rfl, B1.out⟩

set_option maxRecDepth 100000 in
set_option maxHeartbeats 4000000 in
theorem longest17_any (H : StepHas Gl) (p : Int) (x : Option Addr) (n cap : Nat) (xa : List Ax) (inv : Bool) (y : Option Addr) (m cap' : Nat) (ss : List Sp) (w : World) (hG : Gl w) (hA : Axes p xa) (hx : ReadsA w w.heap.size x xa) (hn : xa.length = n) (hl : n ≤ 8796093022208)
    (hy : ReadsP w w.heap.size y ss) (hm : ss.length = m) (hm2 : m ≤ 100) (hs : ∀ s ∈ ss, Stp.Sok p xa s) :
    Calls Tryd.prog 36 #[.int .u64 p, .slice x n cap, .bool inv, .slice y m cap'] w (RetB (.int .i64 ((Stp.most xa ss : Nat) : Int)) w) := by
  have hk4 : xa.length ≤ 4 := by have := hA.ok.four; rwa [szs_len] at this
  have HT := Lib.hid (fun (s : Sp) W (hB : Below w.heap.size w W) (hok : Stp.Sok p xa s) => (by
    have := H.table p x n cap xa inv s W (H.keep hG hB) ((hx.below hB).more hB.size) hn hl (hok.in' hk4)
    rw [hok.zero, hok.tab] at this
    exact this : Calls Tryd.prog 27 #[.int .u64 p, .slice x n cap, .bool inv, spV s] W (LineRet W ((List.range (Stp.tabn xa s)).map (Stp.tabN p xa inv s)) 0)))
  have HMem : Hid (∀ j, j < ss.length → Stp.Sok p xa (ss.getD j noSp)) := Lib.hid (fun j hj => hs _ (by
    rw [List.getD_eq_getElem?_getD, List.getElem?_eq_getElem hj]
    exact List.getElem_mem hj))
  have HTn : Hid (∀ s, Stp.Sok p xa s → Stp.tabn xa s ≤ 4096) := Lib.hid (fun s hok => hok.tab_le.2)
  have HY := Lib.hid hy
  have HM := Lib.hid hm
  have HMo := Lib.hid (fun k (hk : k < ss.length) => (by rw [Stp.take_more ss noSp k hk, Stp.most_snoc] : Stp.most xa (ss.take (k + 1)) = max (Stp.most xa (ss.take k)) (Stp.tabn xa (ss.getD k noSp))))
  have HM0 : Hid (Stp.most xa (ss.take 0) = 0) := Lib.hid rfl
  have HMe : Hid (Stp.most xa (ss.take m) = Stp.most xa ss) := Lib.hid (by rw [← hm, List.take_length])
  clear hG hA hx hn hl hy hm hs hk4 H
  go_enter Tryd.func36, Tryd.ntmps36
  go_wp2
  go_loopw [9, 16] (fun v i wr => ∃ (j M : Nat), j ≤ m ∧ i = .int .i64 (j : Int) ∧ v = .int .i64 (M : Int) ∧ M ≤ 4096 ∧ Hid (M = Stp.most xa (ss.take j)) ∧ Hid (Below w.heap.size w wr)) (fun _ i _ => m - (intOf i).toNat)
  case atStart => exact ⟨0, 0, Nat.zero_le _, rfl, rfl, Nat.zero_le _, Lib.hid HM0.out.symm, Lib.hid (Below.refl _ _)⟩
  case round =>
    obtain ⟨j, M, hj, rfl, rfl, hM4, HMj, HBr⟩ := hrel
    by_cases hlj : j < m
    · have hdj : decide (j < m) = true := by simpa using hlj
      have hjs : j < ss.length := by rw [HM.out]; exact hlj
      obtain ⟨bs, os, rfl, hbs, hcs⟩ := HY.out (by omega)
      obtain ⟨s0, s1, s2, s3, s4⟩ := hcs j hjs
      have k0 := (HBr.out.cell (p := ⟨bs, os + j * 5, none⟩) hbs).trans s0
      have k1 := (HBr.out.cell (p := ⟨bs, os + j * 5 + 1, none⟩) hbs).trans s1
      have k2 := (HBr.out.cell (p := ⟨bs, os + j * 5 + 2, none⟩) hbs).trans s2
      have k3 := (HBr.out.cell (p := ⟨bs, os + j * 5 + 3, none⟩) hbs).trans s3
      have k4 := (HBr.out.cell (p := ⟨bs, os + j * 5 + 4, none⟩) hbs).trans s4
      have HN := Lib.hid (HMo.out j hjs)
      have hok := HMem.out j hjs
      have HT1 := Lib.hid (fun W hB => HT.out (ss.getD j noSp) W hB hok)
      have hT4 := HTn.out _ hok
      obtain ⟨t, ht⟩ : ∃ t, t = ss.getD j noSp := ⟨_, rfl⟩
      rw [← ht] at k0 k1 k2 k3 k4 HN HT1 hT4
      obtain ⟨tb, htb⟩ : ∃ tb, tb = (List.range (Stp.tabn xa t)).map (Stp.tabN p xa inv t) := ⟨_, rfl⟩
      have hTL : tb.length = Stp.tabn xa t := by rw [htb]; simp
      rw [← htb] at HT1
      generalize Stp.tabn xa t = T at hT4 HN hTL
      have HTL := Lib.hid hTL
      obtain ⟨sa, sw, sr, sl, sm⟩ := t
      unfold spV at HT1
      dsimp only at k0 k1 k2 k3 k4 HT1
      clear ht hcs s0 s1 s2 s3 s4 hok htb hTL
      have HB3 := Lib.hid (below_al HBr.out (.cells #[.int .i64 sa, .bool sw, .int .i64 sr, .int .i64 sl, .int .i64 sm] 49))
      by_cases hMT : M < T
      all_goals
        go_wp2_with (go_at_call 27; refine (HT1.out _ HB3.out).mono ?_; rintro e w7 ⟨v, rfl, hO, b7⟩; obtain ⟨y7, c7, rfl, -, -, -, -⟩ := hO.form; have B7 := Lib.hid (below_then HB3.out b7); rw [HTL.out]; clear b7 hO)
        go_roundw
        case rel => exact ⟨j + 1, _, by omega, by go_num, rfl, by omega, Lib.hid (by rw [HN.out, ← HMj.out]; omega), B7⟩
        case measure => simp [intOf]; omega
    · obtain rfl : j = m := by omega
      have hdj : decide (j < j) = false := by simp
      go_wp2
      go_ret
      exact ⟨by rw [HMj.out, HMe.out]; rfl, HBr.out⟩

set_option maxRecDepth 100000 in
set_option maxHeartbeats 4000000 in
theorem make17_any (H : StepHas Gl) (p : Int) (x : Option Addr) (n cap : Nat) (xa : List Ax) (inv : Bool) (w : World) (hG : Gl w) (hx : ReadsA w w.heap.size x xa) (hn : xa.length = n) (hl : n ≤ 8796093022208) :
    Calls Tryd.prog 15 #[.int .u64 p, .slice x n cap, .bool inv] w (RetPn w (plN p xa) (plT p xa inv) (plW p xa inv) (Stp.plL p xa inv) (gridE p xa)) := by
  have hb1 := below_al (Below.refl w.heap.size w) (.cells #[.int .i64 0, .int .i64 0, .int .i64 0, .slice none 0 0] 31)
  have hP1 := Pl4.new w 0 0 0 (.slice none 0 0)
  have HS := Lib.hid (steps17_any p x n cap xa inv _ (hG.then hb1) ((hx.below hb1).more hb1.size) hn hl)
  have HP1 := Lib.hid hP1
  have HB1 := Lib.hid hb1
  by_cases hE : gridE p xa = 0
  · have hA := gridE_zero hE
    have e0 : Stp.plL p xa inv = Stp.plS xa inv xa.length := by unfold Stp.plL; rw [if_pos hE]
    have h4 : xa.length ≤ 4 := by have := hA.ok.four; rwa [szs_len] at this
    have hok : ∀ s ∈ Stp.plL p xa inv, Stp.Sok p xa s := fun s hs => by rw [e0] at hs; exact Stp.plS_ok hA (Nat.le_refl _) hs
    have hml : Stp.most xa (Stp.plL p xa inv) ≤ 4096 := Stp.most_le hok
    have hpl : (Stp.plL p xa inv).length ≤ 100 := by rw [e0]; have := Stp.plS_len (inv := inv) hA (Nat.le_refl xa.length); omega
    have hNl : Sh.prod (szs xa) ≤ 4096 := hA.ok.le
    have eN : plN p xa = Sh.prod (szs xa) := by unfold plN; rw [if_pos hE]
    have eW : plW p xa inv = 2 * (Sh.prod (szs xa) + 6) + plT p xa inv := by unfold plW; rw [if_pos hE]
    rw [eW, eN]
    unfold plT
    rw [hE] at HS ⊢
    have HWo := Lib.hid (fun W (hB : Below w.heap.size w W) => wordsOf17_any (p := p) x n cap xa W hA ((hx.below hB).more hB.size) hn hl)
    have HLo := Lib.hid (fun W (y : Option Addr) (m c : Nat) (hB : Below w.heap.size w W) (hy : ReadsP W W.heap.size y (Stp.plL p xa inv)) (hm : (Stp.plL p xa inv).length = m) => longest17_any H p x n cap xa inv y m c _ W (hG.then hB) hA ((hx.below hB).more hB.size) hn hl hy hm (by omega) hok)
    generalize Stp.plL p xa inv = L at HS HLo hml hpl ⊢
    generalize Stp.most xa L = T at HLo hml ⊢
    generalize Sh.prod (szs xa) = N at HWo hNl ⊢
    clear hG hx hn hl hE hA e0 h4 hok eN eW hb1 hP1
    go_enter Tryd.func15, Tryd.ntmps15
    go_wp2_with (first
      | (go_at_call 13; refine HS.out.mono ?_; rintro e w2 ⟨v, rfl, hO, b2⟩; obtain ⟨y2, c2, rfl, -, -, hr2⟩ := hO.form; have R2 := Lib.hid hr2; have O2 := Lib.hid hO; have B2 := Lib.hid (below_then HB1.out b2); have P2 := Lib.hid (HP1.out.then b2); clear hO hr2 b2)
      | (go_at_call 35; refine (HWo.out _ B2.out).mono ?_; rintro e w3 ⟨rfl, b3⟩; have R3 := Lib.hid ((R2.out.below b3).more b3.size); have O3 := Lib.hid (O2.out.below b3); have B3 := Lib.hid (below_then B2.out b3); have P3 := Lib.hid (P2.out.then b3); clear b3)
      | (go_at_call 36; refine (HLo.out _ _ _ _ B3.out R3.out rfl).mono ?_; rintro e w4 ⟨rfl, b4⟩; have O4 := Lib.hid (O3.out.below b4); have B4 := Lib.hid (below_then B3.out b4); have hP4 := P3.out.then b4; have P4 := Lib.hid hP4; have k0 := hP4.c0; have k1 := hP4.c1; have k2 := hP4.c2; have k3 := hP4.c3; have f0 := hP4.fr 0; have f1 := hP4.fr 1; have f2 := hP4.fr 2; have f3 := hP4.fr 3; clear b4 hP4))
    refine bodyPost_ret (results_pl rfl _ _ w.heap.size _ _ _ _ rfl (P4.out.set _ _ _ _)) rfl ?_
    refine ⟨.slice y2 L.length c2, ?_, ((O4.out.pl4 (fun e => ?_) _ _ _ _).mono (by simp)), below_pl4 B4.out (Nat.le_refl _) _ _ _ _⟩
    · simp [plV]
    · have := (O4.out.inside e).1
      rw [World.size_alloc] at this
      omega
  · have e0 : Stp.plL p xa inv = [] := by unfold Stp.plL; rw [if_neg hE]
    have eN : plN p xa = 0 := by unfold plN; rw [if_neg hE]
    have eW : plW p xa inv = 0 := by unfold plW; rw [if_neg hE]
    have eT : plT p xa inv = 0 := by unfold plT; rw [e0]; rfl
    rw [eN, eW, eT, e0]
    rw [e0] at HS
    have t := ne_of_bne hE
    generalize gridE p xa = er at HS t ⊢
    clear hx hG hE e0 eN eW eT hn hl hb1 hP1
    go_enter Tryd.func15, Tryd.ntmps15
    go_wp2_with (go_at_call 13; refine HS.out.mono ?_; rintro e w2 ⟨v, rfl, hO, b2⟩; have B2 := Lib.hid (below_then HB1.out b2); have hP4 := HP1.out.then b2; have P2 := Lib.hid hP4; have k0 := hP4.c0; have k1 := hP4.c1; have k2 := hP4.c2; have k3 := hP4.c3; have f0 := hP4.fr 0; have f1 := hP4.fr 1; have f2 := hP4.fr 2; have f3 := hP4.fr 3; clear hO b2 hP4)
    refine bodyPost_ret (results_pl rfl _ _ w.heap.size _ _ _ _ rfl (P2.out.set _ _ _ _)) rfl ?_
    exact ⟨.slice none 0 0, by simp [plV], OwnsP.nil, below_pl4 B2.out (Nat.le_refl _) _ _ _ _⟩

end Go.Proofs.YtlbfllaaabginaaDoor
