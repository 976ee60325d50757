/-
  What the document's Make comes to (brackenref17), over every input: the same; its SameSteps and Same, on what is one.
-/
import Derived.Test.YtlbfllaaabginaaDoorRefPlan
import Derived.Test.YtlbfllaaabginaaDoorStepRefs
import Derived.Test.YtlbfllaaabginaaDoorStepA
import Derived.Laws.StructEq
namespace Go.Proofs.YtlbfllaaabginaaDoor
open Go.RowKit

set_option maxRecDepth 100000 in
set_option maxHeartbeats 4000000 in
theorem rmake17_any (p : Int) (x : Option Addr) (n cap : Nat) (xa : List Ax) (inv : Bool) (w : World) (hx : ReadsA w w.heap.size x xa) (hn : xa.length = n) (hl : n ≤ 8796093022208) :
    Calls Tryd.prog 16 #[.int .u64 p, .slice x n cap, .bool inv] w (RetPn w (plN p xa) (plT p xa inv) (plW p xa inv) (Stp.plL p xa inv) (gridE p xa)) := by
  have hb1 := below_al (Below.refl w.heap.size w) (.cells #[.int .i64 0, .int .i64 0, .int .i64 0, .slice none 0 0] 31)
  have hP1 := Pl4.new w 0 0 0 (.slice none 0 0)
  have HS := Lib.hid (rsteps17_any p x n cap xa inv _ ((hx.below hb1).more hb1.size) hn hl)
  have HP1 := Lib.hid hP1
  have HB1 := Lib.hid hb1
  by_cases hE : gridE p xa = 0
  · have hA := gridE_zero hE
    have e0 : Stp.plL p xa inv = Stp.plS xa inv xa.length := by unfold Stp.plL; rw [if_pos hE]
    have h4 : xa.length ≤ 4 := by have := hA.ok.four; rwa [szs_len] at this
    have hok : ∀ s ∈ Stp.plL p xa inv, Stp.Sok p xa s := fun s hs => by rw [e0] at hs; exact Stp.plS_ok hA (Nat.le_refl _) hs
    have hml : Stp.most xa (Stp.plL p xa inv) ≤ 4096 := Stp.most_le hok
    have hpl : (Stp.plL p xa inv).length ≤ 100 := by rw [e0]; have := Stp.plS_len (inv := inv) hA (Nat.le_refl xa.length); omega
    have hNl : Sh.prod (szs xa) ≤ 4096 := hA.ok.le
    have eN : plN p xa = Sh.prod (szs xa) := by unfold plN; rw [if_pos hE]
    have eW : plW p xa inv = 2 * (Sh.prod (szs xa) + 6) + plT p xa inv := by unfold plW; rw [if_pos hE]
    rw [eW, eN]
    unfold plT
    rw [hE] at HS ⊢
    have HT := Lib.hid (fun (s : Sp) W (hB : Below w.heap.size w W) (hok : Stp.Sok p xa s) => (by
      have := rtable16_any p x n cap xa inv s W ((hx.below hB).more hB.size) hn hl
      rw [hok.zero, hok.tab] at this
      exact this : Calls Tryd.prog 37 #[.int .u64 p, .slice x n cap, .bool inv, spV s] W (LineRet W ((List.range (Stp.tabn xa s)).map (Stp.tabN p xa inv s)) 0)))
    have HMem : Hid (∀ j, j < (Stp.plL p xa inv).length → Stp.Sok p xa ((Stp.plL p xa inv).getD j noSp)) := Lib.hid (fun j hj => hok _ (by
      rw [List.getD_eq_getElem?_getD, List.getElem?_eq_getElem hj]
      exact List.getElem_mem hj))
    have HTn : Hid (∀ s, Stp.Sok p xa s → Stp.tabn xa s ≤ 4096) := Lib.hid (fun s hok => hok.tab_le.2)
    have HD := Lib.hid (fun W (hB : Below w.heap.size w W) => rdims_any x n cap xa W ((hx.below hB).more hB.size) hn hl)
    have HO := Lib.hid hA.ok
    have HDM := Lib.hid hA.is
    have HDL := Lib.hid (dims_len xa)
    have HSz := Lib.hid (szs_len xa)
    generalize Stp.plL p xa inv = L at HS HMem hml hpl ⊢
    have HMo := Lib.hid (fun k (hk : k < L.length) => (by rw [Stp.take_more L noSp k hk, Stp.most_snoc] : Stp.most xa (L.take (k + 1)) = max (Stp.most xa (L.take k)) (Stp.tabn xa (L.getD k noSp))))
    have HM0 : Hid (Stp.most xa (L.take 0) = 0) := Lib.hid rfl
    have HMe : Hid (Stp.most xa (L.take L.length) = Stp.most xa L) := Lib.hid (by rw [List.take_length])
    have HAll : Hid (∀ y c W, Reads .i64 W W.heap.size y (dims xa) → Calls Tryd.prog 31 #[.slice y (dims xa).length c] W fun e w' => e = .returned (.tuple #[.int .i64 ((Sh.prod (szs xa) : Nat) : Int), .int .i64 0]) ∧ W = w') := Lib.hid (fun y c W hy => rall_ok (szs xa) HO.out y _ c W W.heap.size (by rw [← HDM.out]; exact hy) (by rw [HDL.out, szs_len]))
    generalize Sh.prod (szs xa) = N at HAll hNl ⊢
    obtain ⟨m, hm⟩ : ∃ m, m = L.length := ⟨_, rfl⟩
    have HM := Lib.hid hm
    have hml2 : m ≤ 100 := by omega
    clear hx hn hl hE hA e0 h4 hok eN eW hb1 hP1 hm hpl
    go_enter Tryd.func16, Tryd.ntmps16
    go_wp2_with (first
      | (go_at_call 14; refine HS.out.mono ?_; rintro e w2 ⟨v, rfl, hO, b2⟩; obtain ⟨y2, c2, rfl, -, -, hr2⟩ := hO.form; have R2 := Lib.hid hr2; rw [← HM.out] at hO; have O2 := Lib.hid hO; have B2 := Lib.hid (below_then HB1.out b2); have P2 := Lib.hid (HP1.out.then b2); rw [← HM.out]; clear hO hr2 b2)
      | (go_at_call 32; refine (HD.out _ B2.out).mono ?_; rintro e w3 ⟨v, rfl, hO, b3⟩; obtain ⟨y3, c3, rfl, -, -, hr3, -⟩ := hO.form; have R3 := Lib.hid hr3; have O3 := Lib.hid (O2.out.below b3); have B3 := Lib.hid (below_then B2.out b3); have P3 := Lib.hid (P2.out.then b3); replace R2 := Lib.hid ((R2.out.below b3).more b3.size); clear b3 hO hr3)
      | (go_at_call 31; refine (HAll.out _ _ _ R3.out).mono ?_; rintro e w' ⟨rfl, rfl⟩))
    go_loopw [12, 36] (fun v i wr => ∃ (j M : Nat), j ≤ m ∧ i = .int .i64 (j : Int) ∧ v = .int .i64 (M : Int) ∧ M ≤ 4096 ∧ Hid (M = Stp.most xa (L.take j)) ∧ Hid (Below w3.heap.size w3 wr)) (fun _ i _ => m - (intOf i).toNat)
    case atStart => exact ⟨0, 0, Nat.zero_le _, rfl, rfl, Nat.zero_le _, Lib.hid HM0.out.symm, Lib.hid (Below.refl _ _)⟩
    case round =>
      obtain ⟨j, M, hj, rfl, rfl, hM4, HMj, HBr⟩ := hrel
      by_cases hlj : j < m
      · have hdj : decide (j < m) = true := by simpa using hlj
        have hjs : j < L.length := by rw [← HM.out]; exact hlj
        obtain ⟨bs, os, rfl, hbs, hcs⟩ := R2.out (by omega)
        obtain ⟨s0, s1, s2, s3, s4⟩ := hcs j hjs
        have k0 := (HBr.out.cell (p := ⟨bs, os + j * 5, none⟩) hbs).trans s0
        have k1 := (HBr.out.cell (p := ⟨bs, os + j * 5 + 1, none⟩) hbs).trans s1
        have k2 := (HBr.out.cell (p := ⟨bs, os + j * 5 + 2, none⟩) hbs).trans s2
        have k3 := (HBr.out.cell (p := ⟨bs, os + j * 5 + 3, none⟩) hbs).trans s3
        have k4 := (HBr.out.cell (p := ⟨bs, os + j * 5 + 4, none⟩) hbs).trans s4
        have HN := Lib.hid (HMo.out j hjs)
        have hok := HMem.out j hjs
        have HT1 := Lib.hid (fun W hB => HT.out (L.getD j noSp) W hB hok)
        have hT4 := HTn.out _ hok
        obtain ⟨t, ht⟩ : ∃ t, t = L.getD j noSp := ⟨_, rfl⟩
        rw [← ht] at k0 k1 k2 k3 k4 HN HT1 hT4
        obtain ⟨tb, htb⟩ : ∃ tb, tb = (List.range (Stp.tabn xa t)).map (Stp.tabN p xa inv t) := ⟨_, rfl⟩
        have hTL : tb.length = Stp.tabn xa t := by rw [htb]; simp
        rw [← htb] at HT1
        generalize Stp.tabn xa t = T at hT4 HN hTL
        have HTL := Lib.hid hTL
        obtain ⟨sa, sw, sr, sl, sm⟩ := t
        unfold spV at HT1
        dsimp only at k0 k1 k2 k3 k4 HT1
        clear ht hcs s0 s1 s2 s3 s4 hok htb hTL hjs
        have HB3 := Lib.hid (below_al HBr.out (.cells #[.int .i64 sa, .bool sw, .int .i64 sr, .int .i64 sl, .int .i64 sm] 49))
        by_cases hMT : M < T
        all_goals
          go_wp2_with (go_at_call 37; refine (HT1.out _ (below_then B3.out HB3.out)).mono ?_; rintro e w7 ⟨v, rfl, hO, b7⟩; obtain ⟨y7, c7, rfl, -, -, -, -⟩ := hO.form; have B7 := Lib.hid (below_then HB3.out b7); rw [HTL.out]; clear b7 hO)
          go_roundw
          case rel => exact ⟨j + 1, _, by omega, by go_num, rfl, by omega, Lib.hid (by rw [HN.out, ← HMj.out]; omega), B7⟩
          case measure => simp [intOf]; omega
      · obtain rfl : j = m := by omega
        have hdj : decide (j < j) = false := by simp
        have hM : M = Stp.most xa L := by rw [HMj.out, HM.out, HMe.out]
        have hP4 := P3.out.then HBr.out
        have P4 := Lib.hid hP4
        have k0 := hP4.c0
        have k1 := hP4.c1
        have k2 := hP4.c2
        have k3 := hP4.c3
        have f0 := hP4.fr 0
        have f1 := hP4.fr 1
        have f2 := hP4.fr 2
        have f3 := hP4.fr 3
        have O4 := Lib.hid (O3.out.below HBr.out)
        have B4 := Lib.hid (below_then B3.out HBr.out)
        have HMM := Lib.hid hM
        clear hP4 hM
        go_wp2
        refine bodyPost_ret (results_pl rfl _ _ w.heap.size _ _ _ _ rfl (P4.out.set _ _ _ _)) rfl ?_
        refine ⟨.slice y2 j c2, ?_, ((O4.out.pl4 (fun e => ?_) _ _ _ _).mono (base' := w.heap.size) (by simp)), below_pl4 B4.out (Nat.le_refl _) _ _ _ _⟩
        · rw [← HMM.out]; simp [plV]
        · have := (O4.out.inside e).1
          rw [World.size_alloc] at this
          omega
  · have e0 : Stp.plL p xa inv = [] := by unfold Stp.plL; rw [if_neg hE]
    have eN : plN p xa = 0 := by unfold plN; rw [if_neg hE]
    have eW : plW p xa inv = 0 := by unfold plW; rw [if_neg hE]
    have eT : plT p xa inv = 0 := by unfold plT; rw [e0]; rfl
    rw [eN, eW, eT, e0]
    rw [e0] at HS
    have t := ne_of_bne hE
    generalize gridE p xa = er at HS t ⊢
    clear hx hE e0 eN eW eT hn hl hb1 hP1
    go_enter Tryd.func16, Tryd.ntmps16
    go_wp2_with (go_at_call 14; refine HS.out.mono ?_; rintro e w2 ⟨v, rfl, hO, b2⟩; have B2 := Lib.hid (below_then HB1.out b2); have hP4 := HP1.out.then b2; have P2 := Lib.hid hP4; have k0 := hP4.c0; have k1 := hP4.c1; have k2 := hP4.c2; have k3 := hP4.c3; have f0 := hP4.fr 0; have f1 := hP4.fr 1; have f2 := hP4.fr 2; have f3 := hP4.fr 3; clear hO b2 hP4)
    refine bodyPost_ret (results_pl rfl _ _ w.heap.size _ _ _ _ rfl (P2.out.set _ _ _ _)) rfl ?_
    exact ⟨.slice none 0 0, by simp [plV], OwnsP.nil, below_pl4 B2.out (Nat.le_refl _) _ _ _ _⟩

theorem sp_guard : Tryd.prog.eqGuardType Tryd.prog.depth 49 = false := by kernel_rfl

theorem sp_held : Tryd.prog.stoodInHeld 49 = false := by kernel_rfl

theorem neq_sp_self (s : Sp) (w : World) : (binOp .neq 49 (spV s) (spV s)).run Tryd.prog w = .ok (.bool false) w := by
  unfold spV
  rw [run_neq_struct, run_equalIn_struct w 9999 _ _ _ (by simp [Program.fieldsOf, Tryd.underlying49]) sp_held]
  simp [Program.fieldsOf, Tryd.underlying49, Op.eqFields, go_sem]

theorem ReadsP.draws {w : World} {B : Nat} {x : Option Addr} {ss : List Sp} (h : ReadsP w B x ss) (n : Nat) : ReadsP (w.drewN n) B x ss := h

set_option maxRecDepth 100000 in
set_option maxHeartbeats 1000000 in
theorem sameSteps_self (x y : Option Addr) (n cap cap' : Nat) (ss : List Sp) (w : World) (B : Nat) (hx : ReadsP w B x ss) (hy : ReadsP w B y ss) (hn : ss.length = n) (hl : n ≤ 1000000) :
    Calls Tryd.prog 17 #[.slice x n cap, .slice y n cap'] w (RetQ (.bool true) w) := by
  have HX := Lib.hid hx
  have HY := Lib.hid hy
  have HN := Lib.hid hn
  have t : ((n : Int) != (n : Int)) = false := by simp
  clear hx hy hn
  go_enter Tryd.func17, Tryd.ntmps17
  go_wp2
  go_loopw [13] (fun i wr => ∃ k q : Nat, k ≤ n ∧ i = .int .i64 k ∧ wr = w.drewN q) (fun i _ => n - (intOf i).toNat)
  case atStart => exact ⟨0, 0, Nat.zero_le _, rfl, rfl⟩
  case round =>
    obtain ⟨k, q, hk, rfl, rfl⟩ := hrel
    by_cases hlt : k < n
    · have hdk : decide (k < n) = true := by simpa using hlt
      have hks : k < ss.length := by rw [HN.out]; exact hlt
      obtain ⟨b, off, rfl, hb, hc⟩ := HX.out (by omega)
      obtain ⟨b', off', rfl, hb', hc'⟩ := HY.out (by omega)
      obtain ⟨c0, c1, c2, c3, c4⟩ := hc k hks
      obtain ⟨e0, e1, e2, e3, e4⟩ := hc' k hks
      obtain ⟨u, hu⟩ : ∃ u, u = ss.getD k noSp := ⟨_, rfl⟩
      rw [← hu] at c0 c1 c2 c3 c4 e0 e1 e2 e3 e4
      have g3 := fun w => neq_sp_self u w
      unfold spV at g3
      obtain ⟨u1, u2, u3, u4, u5⟩ := u
      dsimp only at c0 c1 c2 c3 c4 e0 e1 e2 e3 e4 g3
      clear hu hc hc' HX HY hks
      have g1 := run_eqGuard_agg (P := Tryd.prog) (hm := sp_guard)
      go_wp2
      go_quiet (fail)
      go_wp2
      go_roundw
      case rel => exact ⟨k + 1, _, by omega, by go_num, rfl⟩
      case measure => simp [intOf]; omega
    · obtain rfl : k = n := by omega
      have hdk : decide (k < k) = false := by simp
      clear HX HY
      go_wp2
      go_ret
      exact ⟨rfl, _, rfl⟩

set_option maxRecDepth 100000 in
set_option maxHeartbeats 1000000 in
theorem samePlan_self (a b c : Int) (x y : Option Addr) (n cap cap' : Nat) (ss : List Sp) (w : World) (hx : ReadsP w w.heap.size x ss) (hy : ReadsP w w.heap.size y ss) (hn : ss.length = n) (hl : n ≤ 1000000) :
    Calls Tryd.prog 18 #[plV a b c (.slice x n cap), plV a b c (.slice y n cap')] w (RetB (.bool true) w) := by
  have hb1 := below_al (Below.refl w.heap.size w) (.cells #[.int .i64 a, .int .i64 b, .int .i64 c, .slice x n cap] 31)
  have hb2 := below_al hb1 (.cells #[.int .i64 a, .int .i64 b, .int .i64 c, .slice y n cap'] 31)
  have HS := Lib.hid (sameSteps_self x y n cap cap' ss _ w.heap.size (hx.below hb2) (hy.below hb2) hn hl)
  have HB := Lib.hid hb2
  have ta : (a == a) = true := by simp
  have tb : (b == b) = true := by simp
  have tc : (c == c) = true := by simp
  unfold plV
  clear hx hy hb1 hb2 hn
  go_enter Tryd.func18, Tryd.ntmps18
  go_wp2_with (go_at_call 17; refine HS.out.mono ?_; rintro e w' ⟨rfl, nd, rfl⟩)
  go_ret
  exact ⟨rfl, below_draws HB.out _⟩

end Go.Proofs.YtlbfllaaabginaaDoor
