/-
  The walk of the law PlanSteps: it returns true for every prime, all axes, either way; nothing that was there is written.
-/
import Derived.Test.YtlbfllaaabginaaDoorPlanLive
import Derived.Test.YtlbfllaaabginaaDoorGrids
import Derived.Test.YtlbfllaaabginaaDoorStepA
import Derived.Deep.CutRange
namespace Go.Proofs.YtlbfllaaabginaaDoor
open Go.RowKit

namespace Stp
/-- Of a list's steps those of the axis k that are twists, and the stages of those that are not. -/
def twk (k : Nat) (l : List Sp) : List Sp := l.filter fun s => decide (s.ax = (k : Int)) && s.tw
def stk (k : Nat) (l : List Sp) : List Fac.Stg := (l.filter fun s => decide (s.ax = (k : Int)) && !s.tw).map Sp.st
def hrk (k : Nat) (l : List Sp) : List Sp := l.filter fun s => decide (s.ax = (k : Int))
section
variable {k j : Nat} {L : List Sp}
theorem drop_more (h : j < L.length) : L.drop j = L.getD j noSp :: L.drop (j + 1) := by
  rw [List.drop_eq_getElem_cons h, List.getD_eq_getElem?_getD, List.getElem?_eq_getElem h]; rfl
theorem stk_app (a b : List Sp) : stk k (a ++ b) = stk k a ++ stk k b := by unfold stk; rw [List.filter_append, List.map_append]
theorem stk_cut (L : List Sp) (j : Nat) : stk k L = stk k (L.take j) ++ stk k (L.drop j) := by rw [← stk_app, List.take_append_drop]
/-- The next stage of the axis. -/
theorem stk_at (h : j < L.length) (ha : (L.getD j noSp).ax = (k : Int)) (ht : (L.getD j noSp).tw = false) :
    (stk k (L.take j)).length < (stk k L).length ∧ (stk k L).getD (stk k (L.take j)).length noStg = (L.getD j noSp).st ∧ (stk k (L.take (j + 1))).length = (stk k (L.take j)).length + 1 := by
  have e1 : stk k (L.drop j) = (L.getD j noSp).st :: stk k (L.drop (j + 1)) := by
    rw [drop_more h]
    unfold stk
    rw [List.filter_cons_of_pos (by rw [ha, ht]; simp)]
    rfl
  have e2 := stk_cut (k := k) L j
  rw [e1] at e2
  refine ⟨by rw [e2]; simp, ?_, ?_⟩
  · rw [e2, List.getD_eq_getElem?_getD, List.getElem?_append_right (Nat.le_refl _), Nat.sub_self]
    rfl
  · rw [take_more L noSp j h, stk_app, List.length_append]
    unfold stk
    rw [List.filter_cons_of_pos (by rw [ha, ht]; simp)]
    simp
theorem stk_not (h : j < L.length) (hn : ¬ ((L.getD j noSp).ax = (k : Int) ∧ (L.getD j noSp).tw = false)) : (stk k (L.take (j + 1))).length = (stk k (L.take j)).length := by
  rw [take_more L noSp j h, stk_app, List.length_append]
  unfold stk
  rw [List.filter_cons_of_neg (by simpa using hn)]
  simp
theorem twk_next (h : j < L.length) : (twk k (L.take (j + 1))).length = (twk k (L.take j)).length + if (L.getD j noSp).ax = (k : Int) ∧ (L.getD j noSp).tw = true then 1 else 0 := by
  rw [take_more L noSp j h]
  unfold twk
  rw [List.filter_append, List.length_append]
  by_cases hc : (L.getD j noSp).ax = (k : Int) ∧ (L.getD j noSp).tw = true
  · rw [if_pos hc, List.filter_cons_of_pos (by simpa using hc)]; rfl
  · rw [if_neg hc, List.filter_cons_of_neg (by simpa using hc)]; rfl
theorem hrk_next (h : j < L.length) : (hrk k (L.take (j + 1))).length = (hrk k (L.take j)).length + if (L.getD j noSp).ax = (k : Int) then 1 else 0 := by
  rw [take_more L noSp j h]
  unfold hrk
  rw [List.filter_append, List.length_append]
  by_cases hc : (L.getD j noSp).ax = (k : Int)
  · rw [if_pos hc, List.filter_cons_of_pos (by simpa using hc)]; rfl
  · rw [if_neg hc, List.filter_cons_of_neg (by simpa using hc)]; rfl
theorem hrk_le (k : Nat) (l : List Sp) : (hrk k l).length ≤ l.length := List.length_filter_le _ _
theorem stk_le (k : Nat) (l : List Sp) : (stk k l).length ≤ l.length := by unfold stk; rw [List.length_map]; exact List.length_filter_le _ _
theorem twk_le (k : Nat) (l : List Sp) : (twk k l).length ≤ l.length := List.length_filter_le _ _
end
section
variable {p : Int} {xa : List Ax} {inv : Bool}
theorem hrk_all {k : Nat} (hk : k < xa.length) : hrk k (plS xa inv xa.length) = stepsOf (gN xa k) inv (gL xa k) k := by
  unfold hrk; rw [plS_at, if_pos hk]
theorem stk_all {k : Nat} (hk : k < xa.length) : stk k (plS xa inv xa.length) = stgs (gL xa k) := by
  have e : stk k (plS xa inv xa.length) = ((hrk k (plS xa inv xa.length)).filter fun s => !s.tw).map Sp.st := by
    unfold stk hrk; rw [List.filter_filter]; congr 2; funext s; rw [Bool.and_comm]
  rw [e, hrk_all hk]
  unfold stepsOf
  have f1 : ∀ S : List Fac.Stg, ((S.map fun t => (⟨(k : Int), false, t⟩ : Sp)).filter fun s => !s.tw) = S.map fun t => (⟨(k : Int), false, t⟩ : Sp) := fun S => List.filter_eq_self.2 (by
    intro a ha
    obtain ⟨t, _, rfl⟩ := List.mem_map.1 ha
    rfl)
  rw [List.filter_append, List.filter_append, f1]
  cases inv <;> cases gN xa k <;> simp [Function.comp_def]
theorem twk_all {k : Nat} (hk : k < xa.length) : (twk k (plS xa inv xa.length)).length = if inv = true ∨ gN xa k = true then 1 else 0 := by
  have e : twk k (plS xa inv xa.length) = (hrk k (plS xa inv xa.length)).filter fun s => s.tw := by
    unfold twk hrk; rw [List.filter_filter]; congr 1; funext s; rw [Bool.and_comm]
  rw [e, hrk_all hk]
  unfold stepsOf
  have f1 : ∀ S : List Fac.Stg, ((S.map fun t => (⟨(k : Int), false, t⟩ : Sp)).filter fun s => s.tw) = [] := fun S => List.filter_eq_nil_iff.2 (by
    intro a ha
    obtain ⟨t, _, rfl⟩ := List.mem_map.1 ha
    simp)
  rw [List.filter_append, List.filter_append, f1]
  cases inv <;> cases gN xa k <;> simp
theorem plS_more {k : Nat} (hk : k < xa.length) : (plS xa inv (k + 1)).length = (plS xa inv k).length + (hrk k (plS xa inv xa.length)).length := by
  rw [hrk_all hk, plS, List.length_append]
theorem plS_mono {k m : Nat} (h : k ≤ m) : (plS xa inv k).length ≤ (plS xa inv m).length := by
  induction m with
  | zero => obtain rfl : k = 0 := by omega
            exact Nat.le_refl _
  | succ m ih =>
    by_cases e : k = m + 1
    · subst e; exact Nat.le_refl _
    · rw [plS, List.length_append]
      have := ih (by omega)
      omega
end
end Stp

set_option maxRecDepth 100000 in
set_option maxHeartbeats 8000000 in
theorem plansteps_yes (HP : PlanHas Gl) (p : Int) (x : Option Addr) (n cap : Nat) (xa : List Ax) (inv : Bool) (w : World) (hG : Gl w) (hx : ReadsA w w.heap.size x xa) (hn : xa.length = n) (hl : n ≤ 8796093022208) (hA : Axes p xa)
    (HFew : Hid (∀ W, Below w.heap.size w W → Calls Tryd.prog 12 #[.slice x n cap, .int .i64 4096] W (RetB (.bool true) W))) :
    Calls Tryd.prog 8 #[.int .u64 p, .slice x n cap, .bool inv] w fun e w' => e = .returned (.bool true) ∧ Below w.heap.size w w' := by
  have HV := Lib.hid (live17_any HP _ hG)
  have HSt := Lib.hid (fun W (hB : Below w.heap.size w W) => HP.steps p x n cap xa inv W (HP.keep hG hB) ((hx.below hB).more hB.size) hn hl)
  have e0 : Stp.plL p xa inv = Stp.plS xa inv xa.length := by unfold Stp.plL; rw [if_pos hA.zero]
  rw [hA.zero, e0] at HSt
  have h4 : xa.length ≤ 4 := by have := hA.ok.four; rwa [szs_len] at this
  have h1 : 1 ≤ xa.length := by have := hA.ok.one; rwa [szs_len] at this
  have hpl : (Stp.plS xa inv xa.length).length ≤ 100 := by have := Stp.plS_len (inv := inv) hA (Nat.le_refl xa.length); omega
  have HNo : Hid (∀ j, j < (Stp.plS xa inv xa.length).length → ((Stp.plS xa inv xa.length).getD j noSp).tw = true → ((Stp.plS xa inv xa.length).getD j noSp).st = noSt) := Lib.hid (fun j hj ht => by
    have hm : (Stp.plS xa inv xa.length).getD j noSp ∈ Stp.plS xa inv xa.length := by
      rw [List.getD_eq_getElem?_getD, List.getElem?_eq_getElem hj]
      exact List.getElem_mem hj
    have hok := Stp.plS_ok hA (Nat.le_refl _) hm
    rcases hok.is with ⟨_, h⟩ | ⟨h, _⟩
    · exact h
    · rw [ht] at h; cases h)
  have HSk : Hid (∀ k, k < xa.length → Stp.stk k (Stp.plS xa inv xa.length) = Stp.stgs (gL xa k)) := Lib.hid (fun k hk => Stp.stk_all hk)
  have HTk : Hid (∀ k, k < xa.length → (Stp.twk k (Stp.plS xa inv xa.length)).length = if inv = true ∨ gN xa k = true then 1 else 0) := Lib.hid (fun k hk => Stp.twk_all hk)
  have HMk : Hid (∀ k, k < xa.length → (Stp.plS xa inv (k + 1)).length = (Stp.plS xa inv k).length + (Stp.hrk k (Stp.plS xa inv xa.length)).length) := Lib.hid (fun k hk => Stp.plS_more hk)
  have HMm : Hid (∀ k, k ≤ xa.length → (Stp.plS xa inv k).length ≤ 100) := Lib.hid (fun k hk => Nat.le_trans (Stp.plS_mono hk) hpl)
  have HM0 : Hid ((Stp.plS xa inv 0).length = 0) := Lib.hid rfl
  have HMe : Hid ((Stp.plS xa inv n).length = (Stp.plS xa inv xa.length).length) := Lib.hid (by rw [hn])
  generalize Stp.plS xa inv xa.length = L at HSt hpl HNo HSk HTk HMk HMe
  generalize hpn : (fun k => (Stp.plS xa inv k).length) = pn at HMk HMm HM0 HMe
  have HPk : Hid (∀ k, k < xa.length → pn (k + 1) = pn k + (Stp.hrk k L).length) := Lib.hid (fun k hk => by rw [← hpn]; exact HMk.out k hk)
  have HPm : Hid (∀ k, k ≤ xa.length → pn k ≤ 100) := Lib.hid (fun k hk => by rw [← hpn]; exact HMm.out k hk)
  have HP0 : Hid (pn 0 = 0) := Lib.hid (by rw [← hpn]; exact HM0.out)
  have HPe : Hid (pn n = L.length) := Lib.hid (by rw [← hpn]; exact HMe.out)
  obtain ⟨m, hm⟩ : ∃ m, m = L.length := ⟨_, rfl⟩
  have HM := Lib.hid hm
  have hm1 : m ≤ 100 := by omega
  have HA := Lib.hid hA
  have HNn := Lib.hid hn
  obtain ⟨bx, ox, rfl, hbx, hcx⟩ := hx (by omega)
  have HX := Lib.hid hcx
  have hn4 : n ≤ 4 := by omega
  clear hx hG hn HP hA e0 h4 h1 hpl hpn hm hcx hl HMk HMm HM0 HMe
  cases inv
  all_goals
    go_enter Tryd.func8, Tryd.ntmps8
    go_wp2_with (first
      | (go_at_call 11; refine HV.out.mono ?_; rintro e w1 ⟨rfl, b1⟩; have B1 := Lib.hid b1; clear b1)
      | (go_at_call 12; refine (HFew.out _ B1.out).mono ?_; rintro e w2 ⟨rfl, b2⟩; have B2 := Lib.hid (below_then B1.out b2); clear b2)
      | (go_at_call 13; refine (HSt.out _ B2.out).mono ?_; rintro e w3 ⟨v, rfl, hO, b3⟩; obtain ⟨y3, c3, rfl, -, -, hr⟩ := hO.form; have R3 := Lib.hid hr; have B3 := Lib.hid (below_then B2.out b3); rw [← HM.out]; clear b3 hO hr))
    go_loopw [9, 44] (fun v i wr => ∃ k a : Nat, k ≤ n ∧ i = .int .i64 (k : Int) ∧ v = .int .i64 (a : Int) ∧ a ≤ 100 ∧ Hid (a = pn k) ∧ Hid (Below w3.heap.size w3 wr)) (fun _ i _ => n - (intOf i).toNat)
    case atStart => exact ⟨0, 0, Nat.zero_le _, rfl, rfl, by omega, Lib.hid HP0.out.symm, Lib.hid (Below.refl _ _)⟩
    case round =>
      obtain ⟨k, a, hk, rfl, rfl, ha1, HAk, HBr⟩ := hrel
      by_cases hlk : k < n
      · have hdk : decide (k < n) = true := by simpa using hlk
        have hka : k < xa.length := by have := HNn.out; omega
        obtain ⟨c1, c2⟩ := HX.out k hka
        rw [HA.out.int hka] at c1
        have hNe : (xa.getD k noAx).neg = gN xa k := rfl
        rw [hNe] at c2
        have hbw := below_then B3.out HBr.out
        have k1 := (hbw.cell (p := ⟨bx, ox + k * 2, none⟩) hbx).trans c1
        have k2 := (hbw.cell (p := ⟨bx, ox + k * 2 + 1, none⟩) hbx).trans c2
        have HStg := Lib.hid (fun W => stages_yes (gL xa k) W (HA.out.sm' hka))
        have HSdef : Fac.stages (gL xa k) (Fac.rads (gL xa k)) 1 = Stp.stgs (gL xa k) := rfl
        rw [HSdef, ← HSk.out k hka] at HStg
        have HT := Lib.hid (HTk.out k hka)
        have HMn := Lib.hid (HPk.out k hka)
        have HM1 := Lib.hid (HPm.out (k + 1) hka)
        have hS12 : (Stp.stk k L).length ≤ 100 := by have := Stp.stk_le k L; have := HM.out; omega
        obtain ⟨ns, hns⟩ : ∃ ns, ns = (Stp.stk k L).length := ⟨_, rfl⟩
        have HNs := Lib.hid hns
        rw [← hns] at hS12
        generalize gL xa k = l at k1 HStg
        generalize gN xa k = neg at k2 HT
        clear c1 c2 hNe hbw HSdef hns
        go_upto_region 13 with (go_at_call 29; go_loud (have hb := below_al (Below.refl wr.heap.size wr) (.cells #[.int .i64 (l : Int), .bool neg] 53); refine (HStg.out _).mono ?_; rintro e w5 ⟨v, rfl, hO, b5⟩; obtain ⟨y5, c5, rfl, -, -, hr⟩ := hO.form; have R5 := Lib.hid hr; have q1 := (b5.cell (p := ⟨wr.heap.size, 1, none⟩) (by simp)).trans (by simp : (wr.alloc (.cells #[.int .i64 (l : Int), .bool neg] 53)).cell? ⟨wr.heap.size, 1, none⟩ = some (.bool neg)); have B5 := Lib.hid (below_then HBr.out (below_then hb b5)); have hg5 : wr.heap.size < w5.heap.size := Nat.lt_of_lt_of_le (by simp) b5.size; rw [← HNs.out]; clear b5 hO hr hb))
        obtain ⟨ga, hga⟩ : ∃ g, g = wr.heap.size := ⟨_, rfl⟩
        rw [← hga] at q1 hg5 ⊢
        have Q1 := Lib.hid q1
        have HG5 := Lib.hid hg5
        have R4 := Lib.hid ((R3.out.below B5.out).more B5.out.size)
        clear q1 hg5 hga k1 k2
        go_wp2
        go_loopw [9, 14, 15, 59] (fun v u t i wi => ∃ j b c d : Nat, j ≤ m ∧ i = .int .i64 (j : Int) ∧ v = .int .i64 (b : Int) ∧ u = .int .i64 (c : Int) ∧ t = .int .i64 (d : Int) ∧ b ≤ 200 ∧ c ≤ 100 ∧ d ≤ 100 ∧ Hid (b = a + (Stp.hrk k (L.take j)).length) ∧ Hid (c = (Stp.stk k (L.take j)).length) ∧ Hid (d = (Stp.twk k (L.take j)).length) ∧ Hid (Below w5.heap.size w5 wi)) (fun _ _ _ i _ => m - (intOf i).toNat)
        case atStart => exact ⟨0, a, 0, 0, Nat.zero_le _, rfl, rfl, rfl, rfl, by omega, by omega, by omega, Lib.hid (by simp [Stp.hrk]), Lib.hid (by simp [Stp.stk]), Lib.hid (by simp [Stp.twk]), Lib.hid (Below.refl _ _)⟩
        case round =>
          obtain ⟨j, b, c, d, hj, rfl, rfl, rfl, rfl, hb2, hc1, hd1, HBj, HCj, HDj, HBi⟩ := hrel
          by_cases hlj : j < m
          · have hdj : decide (j < m) = true := by simpa using hlj
            have hjs : j < L.length := by rw [← HM.out]; exact hlj
            obtain ⟨bs, os, rfl, hbs, hcs⟩ := R4.out (by omega)
            obtain ⟨s0, s1, s2, s3, s4⟩ := hcs j hjs
            have l0 := (HBi.out.cell (p := ⟨bs, os + j * 5, none⟩) hbs).trans s0
            have l1 := (HBi.out.cell (p := ⟨bs, os + j * 5 + 1, none⟩) hbs).trans s1
            have l2 := (HBi.out.cell (p := ⟨bs, os + j * 5 + 2, none⟩) hbs).trans s2
            have l3 := (HBi.out.cell (p := ⟨bs, os + j * 5 + 3, none⟩) hbs).trans s3
            have l4 := (HBi.out.cell (p := ⟨bs, os + j * 5 + 4, none⟩) hbs).trans s4
            have HN1 := Lib.hid (Stp.twk_next (k := k) hjs)
            have HN2 := Lib.hid (Stp.hrk_next (k := k) hjs)
            have HN3 := Lib.hid (Stp.stk_not (k := k) hjs)
            have HN4 := Lib.hid (Stp.stk_at (k := k) hjs)
            have HN5 := Lib.hid (HNo.out j hjs)
            have HLe := Lib.hid (And.intro (Stp.hrk_le k (L.take (j + 1))) (And.intro (Stp.stk_le k (L.take (j + 1))) (Stp.twk_le k (L.take (j + 1)))))
            have HTl : Hid ((L.take (j + 1)).length ≤ 100) := Lib.hid (by rw [List.length_take]; omega)
            obtain ⟨s, hs⟩ : ∃ s, s = L.getD j noSp := ⟨_, rfl⟩
            rw [← hs] at l0 l1 l2 l3 l4 HN1 HN2 HN3 HN4 HN5
            clear hs hcs s0 s1 s2 s3 s4 hjs
            have HB3 := Lib.hid (below_al HBi.out (.cells #[.int .i64 s.ax, .bool s.tw, .int .i64 s.st.r, .int .i64 s.st.l, .int .i64 s.st.m] 49))
            have g1 := run_eqGuard_agg (P := Tryd.prog) (hm := stg_guard)
            by_cases hax : s.ax = (k : Int)
            · cases htw : s.tw
              · -- a stage
                obtain ⟨h5, h6, h7⟩ := HN4.out hax htw
                have e1 := HN1.out
                rw [if_neg (by rw [htw]; simp)] at e1
                have e2 := HN2.out
                rw [if_pos hax] at e2
                rw [← HCj.out] at h5 h6 h7
                rw [← HNs.out] at h5
                obtain ⟨bt, ot, rfl, hbt, hct⟩ := R5.out (by rw [← HNs.out]; omega)
                obtain ⟨t0, t1, t2⟩ := hct c (by rw [← HNs.out]; exact h5)
                rw [h6] at t0 t1 t2
                have m0 := (HBi.out.cell (p := ⟨bt, ot + c * 3, none⟩) hbt).trans t0
                have m1 := (HBi.out.cell (p := ⟨bt, ot + c * 3 + 1, none⟩) hbt).trans t1
                have m2 := (HBi.out.cell (p := ⟨bt, ot + c * 3 + 2, none⟩) hbt).trans t2
                have E1 := Lib.hid e1
                have E2 := Lib.hid e2
                have E7 := Lib.hid h7
                have g3 := fun w => (neq_stg s.st.r s.st.l s.st.m s.st.r s.st.l s.st.m w).trans (by rw [decide_eq_true rfl])
                obtain ⟨sa, sw, sr, sl, sm⟩ := s
                dsimp only at hax htw l0 l1 l2 l3 l4 m0 m1 m2 HB3 g3
                subst hax htw
                have tax : ((k : Int) != (k : Int)) = false := by simp
                have dc : decide (ns ≤ c) = false := by simp; omega
                have dc' : decide (c < ns) = true := by simp; omega
                clear e1 e2 h6 h7 hct t0 t1 t2 HN1 HN2 HN3 HN4 HN5
                go_upto_region 21 with fail
                have hB1 := below_al (Below.refl wr.heap.size wr) (.cells #[.int .i64 (k : Int), .bool false, .int .i64 sr, .int .i64 sl, .int .i64 sm] 49)
                have hbw := Nat.lt_of_lt_of_le hbt HBi.out.size
                have n0 := (hB1.cell (p := ⟨bt, ot + c * 3, none⟩) hbw).trans m0
                have n1 := (hB1.cell (p := ⟨bt, ot + c * 3 + 1, none⟩) hbw).trans m1
                have n2 := (hB1.cell (p := ⟨bt, ot + c * 3 + 2, none⟩) hbw).trans m2
                have SA := SpAt.new wr 49 ⟨(k : Int), false, ⟨sr, sl, sm⟩⟩
                dsimp only at SA
                obtain ⟨W3, hW3⟩ : ∃ W3, W3 = wr.alloc (.cells #[.int .i64 (k : Int), .bool false, .int .i64 sr, .int .i64 sl, .int .i64 sm] 49) := ⟨_, rfl⟩
                rw [← hW3] at n0 n1 n2 SA HB3 ⊢
                obtain ⟨q0, q1, q2, q3, q4⟩ := SA
                dsimp only at q0 q1 q2 q3 q4
                clear hW3 hB1 hbw m0 m1 m2 l0 l1 l2 l3 l4
                go_wp2
                go_quiet (fail)
                go_wp2
                go_roundw
                case rel =>
                  have hle := HLe.out
                  have htl := HTl.out
                  have x1 := E1.out
                  have x2 := E2.out
                  have x7 := E7.out
                  have y1 := HBj.out
                  have y2 := HCj.out
                  have y3 := HDj.out
                  refine ⟨j + 1, b + 1, c + 1, d, by omega, by go_num, by go_num, by go_num, rfl, by omega, by omega, by omega, Lib.hid (by omega), Lib.hid (by omega), Lib.hid (by omega), Lib.hid (below_draws HB3.out _)⟩
                case measure => simp [intOf]; omega
              · -- a twist
                have e1 := HN1.out
                rw [if_pos ⟨hax, htw⟩] at e1
                have e2 := HN2.out
                rw [if_pos hax] at e2
                have e3 := HN3.out (fun h => by rw [htw] at h; cases h.2)
                have e5 := HN5.out htw
                have E1 := Lib.hid e1
                have E2 := Lib.hid e2
                have E3 := Lib.hid e3
                obtain ⟨sa, sw, sr, sl, sm⟩ := s
                dsimp only at hax htw l0 l1 l2 l3 l4 HB3 e5
                unfold noSt at e5
                simp at e5
                obtain ⟨rfl, rfl, rfl⟩ := e5
                subst hax htw
                have g3 := fun w => (neq_stg 0 0 0 0 0 0 w).trans (by rw [decide_eq_true rfl])
                have tax : ((k : Int) != (k : Int)) = false := by simp
                clear e1 e2 e3 HN1 HN2 HN3 HN4 HN5
                go_wp2
                go_roundw
                case rel =>
                  have hle := HLe.out
                  have htl := HTl.out
                  have x1 := E1.out
                  have x2 := E2.out
                  have x7 := E3.out
                  have y1 := HBj.out
                  have y2 := HCj.out
                  have y3 := HDj.out
                  refine ⟨j + 1, b + 1, c, d + 1, by omega, by go_num, by go_num, rfl, by go_num, by omega, by omega, by omega, Lib.hid (by omega), Lib.hid (by omega), Lib.hid (by omega), HB3⟩
                case measure => simp [intOf]; omega
            · have e1 := HN1.out
              rw [if_neg (fun h => hax h.1)] at e1
              have e2 := HN2.out
              rw [if_neg hax] at e2
              have e3 := HN3.out (fun h => hax h.1)
              have E1 := Lib.hid e1
              have E2 := Lib.hid e2
              have E3 := Lib.hid e3
              obtain ⟨sa, sw, sr, sl, sm⟩ := s
              dsimp only at hax l0 l1 l2 l3 l4 HB3
              have tax : (sa != (k : Int)) = true := by rw [bne_iff_ne]; exact hax
              clear e1 e2 e3 HN1 HN2 HN3 HN4 HN5 hax
              go_wp2
              go_roundw
              case rel =>
                have x1 := E1.out
                have x2 := E2.out
                have x7 := E3.out
                have y1 := HBj.out
                have y2 := HCj.out
                have y3 := HDj.out
                refine ⟨j + 1, b, c, d, by omega, by go_num, rfl, rfl, rfl, by omega, by omega, by omega, Lib.hid (by omega), Lib.hid (by omega), Lib.hid (by omega), HB3⟩
              case measure => simp [intOf]; omega
          · obtain rfl : j = m := by omega
            have hdj : decide (j < j) = false := by simp
            have eT : L.take j = L := by rw [HM.out, List.take_length]
            rw [eT] at HBj HCj HDj
            obtain rfl : c = ns := by rw [HCj.out, HNs.out]
            have hbn : b = pn (k + 1) := by rw [HBj.out, HMn.out, HAk.out]
            have HBn := Lib.hid hbn
            have hb100 : b ≤ 100 := by rw [hbn]; exact HM1.out
            have hd := HDj.out.trans HT.out
            have q1 := (HBi.out.cell (p := ⟨ga, 1, none⟩) HG5.out).trans Q1.out
            have HBw := Lib.hid (below_then B5.out HBi.out)
            have tns : ((c : Int) != (c : Int)) = false := by simp
            clear hbn eT
            cases neg
            all_goals
              simp at hd
              subst hd
              go_wp2
              go_roundw
              case rel => exact ⟨k + 1, b, by omega, by go_num, rfl, hb100, HBn, HBw⟩
              case measure => simp [intOf]; omega
      · obtain rfl : k = n := by omega
        have hdk : decide (k < k) = false := by simp
        obtain rfl : a = m := by rw [HAk.out, HPe.out, HM.out]
        have tm : ((a : Int) == (a : Int)) = true := by simp
        have HF := Lib.hid (below_then B3.out HBr.out)
        go_wp2
        go_ret
        exact ⟨rfl, HF.out⟩

set_option maxRecDepth 100000 in
set_option maxHeartbeats 4000000 in
theorem plansteps_any (HP : PlanHas Gl) (p : Int) (x : Option Addr) (n cap : Nat) (xa : List Ax) (inv : Bool) (w : World) (hG : Gl w) (hx : ReadsA w w.heap.size x xa) (hn : xa.length = n) (hl : n ≤ 8796093022208) :
    Calls Tryd.prog 8 #[.int .u64 p, .slice x n cap, .bool inv] w fun e w' => e = .returned (.bool true) ∧ Below w.heap.size w w' := by
  obtain ⟨b, HFew⟩ := few_any x n cap xa 4096 w hx hn hl
  have HV := Lib.hid (live17_any HP _ hG)
  cases b
  · clear hx hG hn HP
    go_enter Tryd.func8, Tryd.ntmps8
    go_wp2_with (first
      | (go_at_call 11; refine HV.out.mono ?_; rintro e w1 ⟨rfl, b1⟩; have B1 := Lib.hid b1; clear b1)
      | (go_at_call 12; refine (HFew.out _ B1.out).mono ?_; rintro e w2 ⟨rfl, b2⟩; have B2 := Lib.hid (below_then B1.out b2); clear b2))
    go_ret
    exact ⟨rfl, B2.out⟩
  by_cases hE : gridE p xa = 0
  · exact plansteps_yes HP p x n cap xa inv w hG hx hn hl (gridE_zero hE) HFew
  have HSt := Lib.hid (fun W (hB : Below w.heap.size w W) => HP.steps p x n cap xa inv W (HP.keep hG hB) ((hx.below hB).more hB.size) hn hl)
  have HC := Lib.hid (fun W (hB : Below w.heap.size w W) => check7_any p x n cap xa W (hG.then hB) ((hx.below hB).more hB.size) hn hl)
  have e0 : Stp.plL p xa inv = [] := by unfold Stp.plL; rw [if_neg hE]
  rw [e0] at HSt
  have t := ne_of_bne hE
  have t3 : (gridE p xa == gridE p xa) = true := by simp
  generalize gridE p xa = er at HSt HC t t3
  clear hx hG hn HP hE e0
  go_enter Tryd.func8, Tryd.ntmps8
  go_wp2_with (first
    | (go_at_call 11; refine HV.out.mono ?_; rintro e w1 ⟨rfl, b1⟩; have B1 := Lib.hid b1; clear b1)
    | (go_at_call 12; refine (HFew.out _ B1.out).mono ?_; rintro e w2 ⟨rfl, b2⟩; have B2 := Lib.hid (below_then B1.out b2); clear b2)
    | (go_at_call 13; refine (HSt.out _ B2.out).mono ?_; rintro e w3 ⟨v, rfl, hO, b3⟩; obtain ⟨y1, c1, rfl, -, -, -⟩ := hO.form; have B3 := Lib.hid (below_then B2.out b3); simp only [List.length_nil]; clear b3 hO)
    | (go_at_call 28; refine (HC.out _ B3.out).mono ?_; rintro e w4 ⟨rfl, b4⟩; have B4 := Lib.hid (below_then B3.out b4); clear b4))
  go_ret
  exact ⟨rfl, B4.out⟩

theorem plansteps_walk (HP : PlanHas Gl) (p : Int) (x : Option Addr) (len cap : Nat) (xa : List Ax) (inv : Bool) (w : World) (_hp : (Lit.int .u64 p).wf = true) (hA : AxisIn w x len cap xa) (hlb : len ≤ 8796093022208) (hG : Gl w) :
    Calls Tryd.prog 8 #[.int .u64 p, .slice x len cap, .bool inv] w fun e w' => e = .returned (.bool true) ∧ Below w.heap.size w w' := by
  obtain ⟨hn, hc1, hc2, hx, -⟩ := hA
  exact plansteps_any HP p x len cap xa inv w hG hx hn hlb

end Go.Proofs.YtlbfllaaabginaaDoor
