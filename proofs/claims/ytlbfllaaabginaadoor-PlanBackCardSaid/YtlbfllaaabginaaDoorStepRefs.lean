/-
  Several texts in one: RefSta, RefStep, RefStepTab, RefStepSt, GpMake, GpMakeTwo, RefGroups, RefGroupsSt, RefStepAll, RefStepSame.
-/
import Derived.Test.YtlbfllaaabginaaDoorRoots
import Derived.Test.YtlbfllaaabginaaDoorStepA
import Derived.Test.YtlbfllaaabginaaDoorGrids
import Derived.Test.YtlbfllaaabginaaDoorRows2
import Derived.Test.YtlbfllaaabginaaDoorStepB
import Derived.Test.YtlbfllaaabginaaDoorPairs
import Derived.Deep.RegionWith

/-!   What the document's own stages come to (brackenref04.Stages, Check), and factor.Check, and the example that each law begins with.
-/

namespace Go.Proofs.YtlbfllaaabginaaDoor
open Go.RowKit

/-- The stages of a size that may be. -/
def stg (n : Nat) : List Fac.Stg := Fac.stages n (Fac.rads n) 1
theorem stg_len (n : Nat) : (stg n).length = (Fac.rads n).length := Fac.stages_len _ _ _
theorem stg_at {n : Nat} (e : Fac.prod (Fac.rads n) = n) (k : Nat) (h : k < (Fac.rads n).length) : (stg n).take (k + 1) = (stg n).take k ++ [⟨((Fac.rads n)[k].1 : Nat), (Fac.prod ((Fac.rads n).take k) : Nat), (Fac.prod ((Fac.rads n).drop (k + 1)) : Nat)⟩] := by
  rw [List.take_succ_eq_append_getElem (by rw [stg_len]; exact h)]
  congr 2
  unfold stg
  rw [Fac.stages_get n _ k h, Fac.behind e k h]

theorem rstages_no (n : Int) (w : World) (h : Fac.sm n = false) :
    Calls Tryd.prog 34 #[.int .i64 n] w (RetB (.tuple #[.slice none 0 0, .int .i64 4]) w) := by
  have HR := Lib.hid (rradices_no n w h)
  clear h
  go_enter Tryd.func34, Tryd.ntmps34
  go_wp2_with (go_at_call 68; refine HR.out.mono ?_; rintro e w' ⟨rfl, hb⟩)
  go_ret2
  exact ⟨rfl, hb⟩

set_option maxRecDepth 100000 in
set_option maxHeartbeats 2000000 in
theorem rstages_yes (n : Nat) (w : World) (h : Fac.sm (n : Int) = true) :
    Calls Tryd.prog 34 #[.int .i64 (n : Int)] w fun e w' =>
      ∃ v, e = .returned (.tuple #[v, .int .i64 0]) ∧ OwnsS w' w.heap.size v (stg n) ∧ Below w.heap.size w w' := by
  have HR := Lib.hid (rradices_yes n w h)
  obtain ⟨h1, h2, he⟩ := Fac.sm_of h
  rw [Int.toNat_natCast] at he
  have HL := Lib.hid (Fac.rads_len n (by omega) (by omega))
  have HA := Lib.hid (fun k h => stg_at he k h)
  have HF := Lib.hid (stg_len n)
  obtain ⟨L, hL⟩ : ∃ L, L = Fac.rads n := ⟨_, rfl⟩
  obtain ⟨S, hS⟩ : ∃ S, S = stg n := ⟨_, rfl⟩
  rw [← hL] at HR HL HA HF
  rw [← hS] at HA HF ⊢
  obtain ⟨i0, hi, hz0, hz1, hz2⟩ := info_parts info_stg
  clear h he hL hS
  go_enter Tryd.func34, Tryd.ntmps34
  go_wp2_with (go_at_call 68; refine HR.out.mono ?_; rintro e w1 ⟨v, rfl, hO, hB⟩; obtain ⟨x, cap, rfl, hcap, hmx, hrd, _⟩ := hO.form)
  rw [Fac.ints_len] at hcap ⊢
  have HX := Lib.hid hrd
  have HB := Lib.hid hB
  clear hrd hB hO HR
  go_loopw [6, 19] (fun v i wr => ∃ (k : Nat) (o : Value), k ≤ L.length ∧ i = .int .i64 (k : Int) ∧ o = v ∧ OwnsS wr w1.heap.size o (S.take k) ∧ Below w1.heap.size w1 wr) (fun _ i _ => L.length - (intOf i).toNat)
  case atStart => exact ⟨0, _, Nat.zero_le _, rfl, rfl, OwnsS.nil, Below.refl _ _⟩
  case round =>
    obtain ⟨k, o, hk, rfl, rfl, hO, hW⟩ := hrel
    by_cases hlt : k < L.length
    · have hA := HA.out k hlt
      obtain ⟨b, off, rfl, hb, hc⟩ := HX.out (by rw [Fac.ints_len]; omega)
      have c1 := (hW.cell (p := ⟨b, off + k, none⟩) hb).trans (hc k (by rw [Fac.ints_len]; exact hlt))
      rw [Fac.ints_get _ k hlt] at c1
      have h12 := HL.out
      have hR := HX.out.below hW
      have hR1 : Reads .i64 wr w1.heap.size (some ⟨b, off, none⟩) (Fac.ints (L.take k)) := by have := hR.take k; unfold Fac.ints at this ⊢; rwa [List.map_take]
      have hC1 := fun (c nn : Nat) => rproduct_any (L.take k) (by simp; omega) (some ⟨b, off, none⟩) k c (wr.drewN nn) w1.heap.size (hR1.draws nn) (by simp; omega)
      have hR2 : Reads .i64 wr w1.heap.size (some ⟨b, off + (k + 1), none⟩) (Fac.ints (L.drop (k + 1))) := by have := hR.drop (k + 1); unfold Fac.ints at this ⊢; rwa [List.map_drop]
      have hR3 : Reads .i64 wr w1.heap.size (if cap = k + 1 then some ⟨b, off, none⟩ else some ⟨b, off + (k + 1), none⟩) (Fac.ints (L.drop (k + 1))) := by
        by_cases hcp : cap = k + 1
        · rw [List.drop_eq_nil_of_le (by omega)]; exact Reads.nil
        · rw [if_neg hcp]; exact hR2
      have hC2 := fun (c nn : Nat) => rproduct_any (L.drop (k + 1)) (by simp; omega) _ (L.length - (k + 1)) c (wr.drewN nn) w1.heap.size (hR3.draws nn) (by simp)
      obtain ⟨r, hr⟩ : ∃ r, r = L[k].1 := ⟨_, rfl⟩
      obtain ⟨p1, hp1⟩ : ∃ p, p = Fac.prod (L.take k) := ⟨_, rfl⟩
      obtain ⟨p2, hp2⟩ : ∃ p, p = Fac.prod (L.drop (k + 1)) := ⟨_, rfl⟩
      have hs1 : Hid ((S.take k).length ≤ 12) := Lib.hid (by have := HF.out; simp; omega)
      rw [← hr] at c1
      rw [← hp1] at hC1
      rw [← hp2] at hC2
      rw [← hr, ← hp1, ← hp2] at hA
      have H1 := Lib.hid hC1
      have H2 := Lib.hid hC2
      have HA' := Lib.hid hA
      clear hC1 hC2 hR hR1 hR2 hR3 hc hA hr hp1 hp2 HA
      have hmx' : Tryd.prog.follows .mixedOrders = true := by kernel_rfl
      go_wp2
      refine region_late (l1 := [_, _, _, _, _, _, _, _, _, _, _]) o (.slice (some ⟨wr.heap.size, 0, none⟩) 1 1) (.cells #[.int .i64 (r : Int), .int .i64 (p1 : Int), .int .i64 (p2 : Int)] 47) hmx' (by kernel_rfl) (by kernel_rfl) ?_ ?_ ?_
      · intro k; go_simp
      · intro k; go_simp
      simp only [List.cons_append, List.nil_append, Act.put, List.setIfInBounds_toArray, List.set_cons_succ, List.set_cons_zero]
      repeat (go_big_quiet_step (first
        | (go_at_call_of 69 (Value.slice (some ⟨b, off, none⟩) k cap); exact Calls.quiet_of_same ((H1.out _ _).mono fun _ _ ⟨a, b⟩ => ⟨a, b.symm⟩))
        | (go_at_call 69; exact Calls.quiet_of_same ((H2.out _ _).mono fun _ _ ⟨a, b⟩ => ⟨a, b.symm⟩))))
      refine wpQuiet_nil ?_
      refine ⟨by kernel_rfl, fun k => ?_, fun nq => ?_⟩
      · go_simp
      have hsw := hW.size
      go_wp2_with (at_builtin; refine wpList_append_own _ rfl _ _ 56 rfl w1.heap.size 47 i0 (.agg #[.int .i64 0, .int .i64 0, .int .i64 0]) 3 24 Tryd.underlying56 hi hz0 hz1 hz2 rfl (by decide) _ _ _ rfl (World.ownsRow.alloc (w := wr.drewN nq) hO _) ⟨wr.heap.size, 0, none⟩ 1 1 [.int .i64 (r : Int), .int .i64 (p1 : Int), .int .i64 (p2 : Int)] rfl rfl (cell_three_new (wr.drewN nq) _ _ _ _) (by simp [Value.oneCell']) (by have := hs1.out; unfold maxLen; omega) (by have := hs1.out; omega) (by simp; omega) ?_; intro v' w2 hown' hgrow _)
      go_roundw
      case rel =>
        refine ⟨k + 1, _, by omega, by congr 1, rfl, ?_, ?_⟩
        · rw [HA'.out]; exact OwnsS.push hown'
        · exact ((below_draws hW nq).alloc (by show _ ≤ wr.heap.size; exact hW.size) _).grown hgrow (by simp; omega) (fun g e => (World.ownsRow.lt hO g e).1)
      case measure => simp [intOf]; omega
    · have hO' := hO
      rw [List.take_of_length_le (by have := HF.out; omega)] at hO'
      have hBW := Lib.hid (HB.out.trans (hW.mono HB.out.size))
      have HO := Lib.hid (OwnsS.mono hO' HB.out.size)
      clear hO hO' hW HX
      go_wp2
      go_ret2
      exact ⟨_, rfl, HO.out, hBW.out⟩

end Go.Proofs.YtlbfllaaabginaaDoor

/-!   What the document's Check and Table of layer 16 come to (brackenref16): the same.
-/

namespace Go.Proofs.YtlbfllaaabginaaDoor
open Go.RowKit Go.Shelf

theorem neq_stgs (s t : Fac.Stg) (w : World) : (binOp .neq 47 (stV s) (stV t)).run Tryd.prog w = .ok (.bool (!decide (s = t))) w := by
  obtain ⟨a, b, c⟩ := s
  obtain ⟨d, e, f⟩ := t
  exact neq_stg a b c d e f w

set_option maxRecDepth 100000 in
set_option maxHeartbeats 4000000 in
theorem rcheck16_any (p : Int) (x : Option Addr) (n cap : Nat) (xa : List Ax) (s : Sp) (w : World) (hx : ReadsA w w.heap.size x xa) (hn : xa.length = n) (hl : n ≤ 8796093022208) :
    Calls Tryd.prog 70 #[.int .u64 p, .slice x n cap, spV s] w (RetB (.int .i64 (Stp.stepE p xa s)) w) := by
  subst hn
  obtain ⟨ax, tw, s1, s2, s3⟩ := s
  have hb0 := (Below.refl w.heap.size w).alloc (Nat.le_refl _) (.cells #[.int .i64 ax, .bool tw, .int .i64 s1, .int .i64 s2, .int .i64 s3] 49)
  have HB := Lib.hid hb0
  have HC := Lib.hid (rcheck7_any p x xa.length cap xa _ ((hx.below hb0).more hb0.size) rfl hl)
  have hcs := Stp.stepE_cases p xa ⟨ax, tw, ⟨s1, s2, s3⟩⟩
  generalize Stp.stepE p xa ⟨ax, tw, ⟨s1, s2, s3⟩⟩ = er at hcs ⊢
  unfold spV
  dsimp only at hcs ⊢
  have g1 := run_eqGuard_agg (P := Tryd.prog) (hm := stg_guard)
  by_cases hg : gridE p xa = 0
  · rw [hg] at HC
    have CE : Hid (∀ W, Below (w.alloc (.cells #[.int .i64 ax, .bool tw, .int .i64 s1, .int .i64 s2, .int .i64 s3] 49)).heap.size (w.alloc (.cells #[.int .i64 ax, .bool tw, .int .i64 s1, .int .i64 s2, .int .i64 s3] 49)) W → SpAt W w.heap.size ⟨ax, tw, ⟨s1, s2, s3⟩⟩) :=
      Lib.hid (fun W hW => (SpAt.new w 49 ⟨ax, tw, ⟨s1, s2, s3⟩⟩).then hW)
    by_cases h0 : ax < 0
    · have d1 : decide (ax < 0) = true := decide_eq_true h0
      obtain rfl : er = 1 := by rcases hcs with h | h | h | h | h <;> first | omega | (have := h.1.lo; dsimp only at this; omega) | exact absurd hg h.1
      clear hcs hg hx hb0
      go_enter Tryd.func70, Tryd.ntmps70
      go_wp2_with (go_at_call 33; refine HC.out.mono ?_; rintro e w1 ⟨rfl, b1⟩; obtain ⟨k0, k1, k2, k3, k4⟩ := CE.out w1 b1; have B1 := Lib.hid (HB.out.trans (b1.mono HB.out.size)); clear b1)
      go_ret
      exact ⟨rfl, B1.out⟩
    · have d1 : decide (ax < 0) = false := decide_eq_false h0
      by_cases h1 : (xa.length : Int) ≤ ax
      · have d2 : decide ((xa.length : Int) ≤ ax) = true := decide_eq_true h1
        obtain rfl : er = 1 := by rcases hcs with h | h | h | h | h <;> first | omega | (have := h.1.hi; dsimp only at this; omega) | exact absurd hg h.1
        clear hcs hg hx hb0
        go_enter Tryd.func70, Tryd.ntmps70
        go_wp2_with (go_at_call 33; refine HC.out.mono ?_; rintro e w1 ⟨rfl, b1⟩; obtain ⟨k0, k1, k2, k3, k4⟩ := CE.out w1 b1; have B1 := Lib.hid (HB.out.trans (b1.mono HB.out.size)); clear b1)
        go_ret
        exact ⟨rfl, B1.out⟩
      · have d2 : decide ((xa.length : Int) ≤ ax) = false := decide_eq_false h1
        obtain ⟨a, rfl⟩ : ∃ a : Nat, ax = (a : Int) := ⟨ax.toNat, by omega⟩
        have ha : a < xa.length := by omega
        have hax := gridE_zero hg
        have d2' : decide (xa.length ≤ a) = false := decide_eq_false (by omega)
        cases tw
        · -- a stage
          obtain ⟨b, off, rfl, hb, hc⟩ := hx (by omega)
          obtain ⟨c0, c1⟩ := hc a ha
          rw [hax.int ha] at c0
          rw [Int.toNat_natCast] at hcs
          have HST := Lib.hid (fun W => rstages_yes (gL xa a) W (hax.sm' ha))
          have HE : Hid (stg (gL xa a) = Stp.stgs (gL xa a)) := Lib.hid rfl
          have her : (⟨s1, s2, s3⟩ : Fac.Stg) ∈ Stp.stgs (gL xa a) ∧ er = 0 ∨ (⟨s1, s2, s3⟩ : Fac.Stg) ∉ Stp.stgs (gL xa a) ∧ er = 1 := by
            rcases hcs with h | h | h | h | h
            · exact absurd hg h.1
            · omega
            · exact absurd h.2.2.2.1 (by decide)
            · exact .inr ⟨h.2.2.2.2.1, h.2.2.2.2.2⟩
            · have := h.1.is
              dsimp only at this
              rw [Int.toNat_natCast] at this
              exact .inl ⟨this.elim (fun h => absurd h.1 (by decide)) (fun h => h.2), h.2⟩
          have HER := Lib.hid her
          rw [HE.out] at HST
          generalize Stp.stgs (gL xa a) = ss at HST HER
          obtain ⟨L, hL⟩ : ∃ L, L = gL xa a := ⟨_, rfl⟩
          rw [← hL] at c0 HST
          have C0 := Lib.hid (fun W (hB : Below w.heap.size w W) => (hB.cell (p := ⟨b, off + a * 2, none⟩) hb).trans c0)
          clear hcs hg hx hb0 hax hL hc c0 c1 HE her
          go_enter Tryd.func70, Tryd.ntmps70
          go_wp2_with (first
            | (go_at_call 33; refine HC.out.mono ?_; rintro e w1 ⟨rfl, b1⟩; obtain ⟨k0, k1, k2, k3, k4⟩ := CE.out w1 b1; dsimp only at k0 k1 k2 k3 k4; have S1 := Lib.hid (CE.out w1 b1); have B1 := Lib.hid (HB.out.trans (b1.mono HB.out.size)); have cA := C0.out w1 B1.out; clear b1)
            | (go_at_call 34; refine (HST.out w1).mono ?_; rintro e w2 ⟨v, rfl, hO, b2⟩; obtain ⟨xs, cs, rfl, hc1, hc2, hr⟩ := hO.form; have R2 := Lib.hid hr; have B2 := Lib.hid (below_then B1.out b2); have S2 := Lib.hid (S1.out.then b2); clear hO b2 hr k0 k1 k2 k3 k4 cA))
          have hl2 : ss.length ≤ 9223372036854775807 := by unfold maxLen at hc2; omega
          clear HC CE HST S1 C0
          go_loopw [46] (fun i wr => ∃ k : Nat, k ≤ ss.length ∧ i = .int .i64 (k : Int) ∧ Hid ((∀ j, j < k → ss.getD j noStg ≠ ⟨s1, s2, s3⟩) ∧ Below w2.heap.size w2 wr)) (fun i _ => ss.length - (intOf i).toNat)
          case atStart => exact ⟨0, Nat.zero_le _, rfl, Lib.hid ⟨fun j hj => by omega, Below.refl _ _⟩⟩
          case round =>
            obtain ⟨k, hk, rfl, HI⟩ := hrel
            obtain ⟨k0, k1, k2, k3, k4⟩ := S2.out.then HI.out.2
            dsimp only at k0 k1 k2 k3 k4
            have hsl : w.heap.size < wr.heap.size := (S2.out.then HI.out.2).lt
            by_cases hlt : k < ss.length
            · have hdk : decide (k < ss.length) = true := decide_eq_true hlt
              obtain ⟨b', off', rfl, hb', hc'⟩ := (R2.out.below HI.out.2) (by omega)
              obtain ⟨e1, e2, e3⟩ := hc' k hlt
              obtain ⟨u, hu⟩ : ∃ u, u = ss.getD k noStg := ⟨_, rfl⟩
              rw [← hu] at e1 e2 e3
              obtain ⟨u1, u2, u3⟩ := u
              dsimp only at e1 e2 e3
              have g3 : ∀ W, (binOp .eql 47 (.agg #[.int .i64 u1, .int .i64 u2, .int .i64 u3]) (.agg #[.int .i64 s1, .int .i64 s2, .int .i64 s3])).run Tryd.prog W = .ok (.bool (decide ((⟨u1, u2, u3⟩ : Fac.Stg) = ⟨s1, s2, s3⟩))) W := fun W => eql_stg ⟨u1, u2, u3⟩ ⟨s1, s2, s3⟩ W
              have HBn := Lib.hid (below_al HI.out.2 (.cells #[.int .i64 u1, .int .i64 u2, .int .i64 u3] 47))
              by_cases he : (⟨u1, u2, u3⟩ : Fac.Stg) = ⟨s1, s2, s3⟩
              · rw [decide_eq_true he] at g3
                have HZ : Hid (er = 0) := Lib.hid (by
                  rcases HER.out with h | h
                  · exact h.2
                  · exact absurd (by rw [← he, hu]; exact getD_memS hlt) h.1)
                clear he hu hc' HI
                go_wp2
                go_ret
                exact ⟨by rw [HZ.out]; rfl, below_then B2.out HBn.out⟩
              · rw [decide_eq_false he] at g3
                have HA' : Hid (∀ j, j < k + 1 → ss.getD j noStg ≠ ⟨s1, s2, s3⟩) := Lib.hid (fun j hj => by
                  by_cases e : j = k
                  · rw [e, ← hu]; exact he
                  · exact HI.out.1 j (by omega))
                clear he hu hc' HI
                go_wp2
                go_roundw
                case rel => exact ⟨k + 1, hlt, by go_num, Lib.hid ⟨HA'.out, HBn.out⟩⟩
                case measure => simp [intOf]; omega
            · obtain rfl : k = ss.length := by omega
              have HZ : Hid (er = 1) := Lib.hid (by
                rcases HER.out with h | h
                · obtain ⟨j, hj, e⟩ := mem_getD h.1
                  exact absurd e (HI.out.1 j hj)
                · exact h.2)
              have HBn := Lib.hid (below_then B2.out HI.out.2)
              clear HI
              go_wp2
              go_ret
              exact ⟨by rw [HZ.out]; rfl, HBn.out⟩
        · -- a twist
          have her : er = if (⟨s1, s2, s3⟩ : Fac.Stg) = ⟨0, 0, 0⟩ then 0 else 1 := by
            rcases hcs with h | h | h | h | h
            · exact absurd hg h.1
            · omega
            · have hh : ¬ (⟨s1, s2, s3⟩ : Fac.Stg) = ⟨0, 0, 0⟩ := h.2.2.2.2.1
              rw [if_neg hh]; exact h.2.2.2.2.2
            · exact absurd h.2.2.2.1 (by decide)
            · have := h.1.is
              dsimp only at this
              have hh : (⟨s1, s2, s3⟩ : Fac.Stg) = ⟨0, 0, 0⟩ := this.elim (fun h => h.2) (fun h => absurd h.1 (by decide))
              rw [if_pos hh]; exact h.2
          have g3 : ∀ W, (binOp .neq 47 (.agg #[.int .i64 s1, .int .i64 s2, .int .i64 s3]) (.agg #[.int .i64 0, .int .i64 0, .int .i64 0])).run Tryd.prog W = .ok (.bool (!decide ((⟨s1, s2, s3⟩ : Fac.Stg) = ⟨0, 0, 0⟩))) W := fun W => neq_stgs ⟨s1, s2, s3⟩ ⟨0, 0, 0⟩ W
          by_cases hz : (⟨s1, s2, s3⟩ : Fac.Stg) = ⟨0, 0, 0⟩
          all_goals
            first | rw [if_pos hz] at her | rw [if_neg hz] at her
            first | rw [decide_eq_true hz] at g3 | rw [decide_eq_false hz] at g3
            simp only [Bool.not_true, Bool.not_false] at g3
            subst her
            clear hcs hg hx hb0 hax hz
            go_enter Tryd.func70, Tryd.ntmps70
            go_wp2_with (go_at_call 33; refine HC.out.mono ?_; rintro e w1 ⟨rfl, b1⟩; obtain ⟨k0, k1, k2, k3, k4⟩ := CE.out w1 b1; dsimp only at k0 k1 k2 k3 k4; have B1 := Lib.hid (HB.out.trans (b1.mono HB.out.size)); clear b1)
            go_ret
            exact ⟨rfl, B1.out⟩
  · obtain rfl : er = gridE p xa := by rcases hcs with h | h | h | h | h <;> first | exact h.2 | exact absurd h.1 hg | exact absurd h.1.ax.zero hg
    have t := ne_of_bne hg
    generalize gridE p xa = er at HC t ⊢
    clear hcs hg hx hb0
    go_enter Tryd.func70, Tryd.ntmps70
    go_wp2_with (go_at_call 33; refine HC.out.mono ?_; rintro e w1 ⟨rfl, b1⟩)
    go_ret
    exact ⟨rfl, HB.out.trans (b1.mono HB.out.size)⟩

end Go.Proofs.YtlbfllaaabginaaDoor

/-!   What the document's Table of layer 16 comes to (brackenref16): the same.
-/

namespace Go.Proofs.YtlbfllaaabginaaDoor
open Go.RowKit Go.Shelf

namespace Stp
theorem pw_ne {p r : Int} (h : Fp.kn p = true) (hr : Fp.red p r ≠ 0) (e : Nat) : Fp.red p (Fp.pw p r e) ≠ 0 := by
  intro e0
  have hz : Fp.eqm p (r ^ e) 0 := by
    have h0 : Fp.red p (Fp.pw p r e) = Fp.pw p r e := by unfold Fp.pw; exact Fp.red_red p _
    rw [h0, Fp.pw_kn _ _ h] at e0
    unfold Fp.eqm
    rw [e0]; simp
  clear e0
  induction e with
  | zero =>
    rw [Int.pow_zero] at hz
    have p1 := Fp.kn_bd h
    unfold Fp.eqm at hz
    rw [Int.emod_eq_of_lt (by omega) (by omega)] at hz
    simp at hz
  | succ j ih =>
    rw [Int.pow_succ] at hz
    rcases Fp.eqm_mul_zero h hz with e1 | e1
    · exact ih e1
    · refine hr ?_
      rw [Fp.red_kn _ h]
      unfold Fp.eqm at e1
      rw [e1]; simp
theorem mul_ne {p a b : Int} (h : Fp.kn p = true) (ha : Fp.red p a ≠ 0) (hb : Fp.red p b ≠ 0) : Fp.red p (Fp.mul p a b) ≠ 0 := by
  intro e0
  have hz : Fp.eqm p (a * b) 0 := by
    rw [Fp.red_kn _ h, Fp.mul_kn _ _ h, Int.emod_emod] at e0
    unfold Fp.eqm
    rw [e0]; simp
  rcases Fp.eqm_mul_zero h hz with e1 | e1
  · refine ha ?_
    rw [Fp.red_kn _ h]
    unfold Fp.eqm at e1
    rw [e1]; simp
  · refine hb ?_
    rw [Fp.red_kn _ h]
    unfold Fp.eqm at e1
    rw [e1]; simp
end Stp
theorem rinv_of (p a : Int) (w : World) (h : Fp.kn p = true) (a0 : 0 ≤ a) (a1 : a < 18446744073709551616) (hz : Fp.red p a ≠ 0) : Calls Tryd.prog 72 #[.int .u64 p, .int .u64 a] w (RetQ (.tuple #[.int .u64 (Fp.inv p a), .int .i64 0]) w) := by
  have := rinv_any p a w a0 a1
  unfold invN invE at this
  rwa [if_neg (by rw [h]; decide), if_neg hz, if_neg (by rw [h]; decide), if_neg hz] at this

set_option maxRecDepth 100000 in
set_option maxHeartbeats 800000 in
theorem rtwist16 (p : Int) (x : Option Addr) (cap : Nat) (xa : List Ax) (inv : Bool) (a : Nat) (t : Fac.Stg) (w : World) (hx : ReadsA w w.heap.size x xa) (hl : xa.length ≤ 8796093022208) (hE : Stp.stepE p xa ⟨(a : Int), true, t⟩ = 0) :
    Calls Tryd.prog 37 #[.int .u64 p, .slice x xa.length cap, .bool inv, spV ⟨(a : Int), true, t⟩] w (LineRet w ((List.range (gL xa a)).map (Stp.twT p (gN xa a) inv (gL xa a))) 0) := by
  have hs := Stp.stepE_zero hE
  have hb0 := (Below.refl w.heap.size w).alloc (Nat.le_refl _) (.cells #[.int .i64 (a : Int), .bool true, .int .i64 t.r, .int .i64 t.l, .int .i64 t.m] 49)
  have HB0 := Lib.hid hb0
  have HC := Lib.hid (rcheck16_any p x xa.length cap xa ⟨(a : Int), true, t⟩ _ ((hx.below hb0).more hb0.size) rfl hl)
  rw [hE] at HC
  have CE : Hid (∀ W, Below (w.alloc (.cells #[.int .i64 (a : Int), .bool true, .int .i64 t.r, .int .i64 t.l, .int .i64 t.m] 49)).heap.size (w.alloc (.cells #[.int .i64 (a : Int), .bool true, .int .i64 t.r, .int .i64 t.l, .int .i64 t.m] 49)) W → SpAt W w.heap.size ⟨(a : Int), true, t⟩) :=
    Lib.hid (fun W hW => (SpAt.new w 49 ⟨(a : Int), true, t⟩).then hW)
  have hhi : a < xa.length := by have := hs.hi; simpa using this
  have hk := hs.ax.kn
  have hkb := Fp.kn_bd hk
  have l1 := hs.ax.L hhi
  have l2 := hs.ax.L_le hhi
  have hd := hs.ax.dvd' hhi
  obtain ⟨b, off, rfl, hb, hc⟩ := hx (by omega)
  obtain ⟨c0, c1⟩ := hc a hhi
  rw [hs.ax.int hhi] at c0
  obtain ⟨neg, hneg⟩ : ∃ neg, neg = (xa.getD a noAx).neg := ⟨_, rfl⟩
  have hneg' : gN xa a = neg := by rw [hneg]; rfl
  rw [← hneg] at c1
  have hT0 : ∀ k, Fp.red p (Stp.tw0 p neg (gL xa a) k) ≠ 0 := fun k => by rw [← hneg']; exact Stp.tw0_ne hs.ax hhi k
  have hLn := Stp.len_ne hs.ax hhi
  rw [hneg'] at hd ⊢
  obtain ⟨L, hL⟩ : ∃ L, L = gL xa a := ⟨_, rfl⟩
  rw [← hL] at c0 hT0 hLn l1 l2 hd ⊢
  have C0 := Lib.hid (fun W (hB : Below w.heap.size w W) => And.intro ((hB.cell (p := ⟨b, off + a * 2, none⟩) hb).trans c0) ((hB.cell (p := ⟨b, off + a * 2 + 1, none⟩) hb).trans c1))
  -- the numbers
  have hgb : ∀ k, 0 ≤ Stp.tw0 p neg L k ∧ Stp.tw0 p neg L k < p := fun k => Stp.tw0_bd hk neg L k
  have hmb : ∀ k, 0 ≤ Fp.mul p (Stp.tw0 p neg L k) (L : Int) ∧ Fp.mul p (Stp.tw0 p neg L k) (L : Int) < p := fun k => ⟨(Fp.mul_bd _ _ _).1, (Fp.mul_bd _ _ _).2.2 hk⟩
  have HM0 := Lib.hid (fun k W => rmul_any p (Stp.tw0 p neg L k) (L : Int) W (hgb k).1 (by have := (hgb k).2; omega) (by omega) (by omega))
  have HI0 := Lib.hid (fun k W => rinv_of p (Fp.mul p (Stp.tw0 p neg L k) (L : Int)) W hk (hmb k).1 (by have := (hmb k).2; omega) (Stp.mul_ne hk (hT0 k) hLn))
  obtain ⟨i0, hi, hz0, hz1, hz2⟩ := info_parts info_u64
  cases neg
  · have HG1 : Hid (∀ k, Stp.tw0 p false L k = 1) := Lib.hid (fun _ => rfl)
    cases inv
    · have HF1 : Hid (∀ k, Stp.twT p false false L k = 1) := Lib.hid (fun _ => rfl)
      generalize Stp.twT p false false L = f at HF1 ⊢
      clear hL hx hs hk hkb hd hc hneg hneg' hT0 hLn hgb hmb HM0 HI0 hE hb0 c0 c1 HG1
      unfold spV at HC ⊢
      dsimp only at HC HB0 CE ⊢
      go_enter Tryd.func37, Tryd.ntmps37
      go_wp2_with (go_at_call 70; refine HC.out.mono ?_; rintro e w1 ⟨rfl, b1⟩; obtain ⟨k0, k1, k2, k3, k4⟩ := CE.out w1 b1; dsimp only at k0 k1 k2 k3 k4; have B1 := Lib.hid (HB0.out.trans (b1.mono HB0.out.size)); obtain ⟨c0, c1⟩ := C0.out w1 B1.out; clear b1)
      have hA0 : Below (w1.heap.size + 1) (w1.alloc (.cells #[.int .i64 (L : Int), .bool false] 53)) (w1.alloc (.cells #[.int .i64 (L : Int), .bool false] 53)) := Below.refl _ _
      have A0 := Lib.hid hA0
      have HBa : Hid (Below w.heap.size w (w1.alloc (.cells #[.int .i64 (L : Int), .bool false] 53))) := Lib.hid (below_al B1.out _)
      have hzz : w.heap.size ≤ w1.heap.size := B1.out.size
      have HZZ := Lib.hid hzz
      clear k0 k1 k2 k3 k4 c0 c1 hA0 HC CE C0 hzz B1
      go_loopw [11, 38] (fun v i wr => ∃ (k : Nat) (o : Value), k ≤ L ∧ i = .int .i64 (k : Int) ∧ o = v ∧ Owns .u64 22 wr (w1.heap.size + 1) o ((List.range k).map f) ∧ Below (w1.heap.size + 1) (w1.alloc (.cells #[.int .i64 (L : Int), .bool false] 53)) wr) (fun _ i _ => L - (intOf i).toNat)
      case atStart => exact ⟨0, _, Nat.zero_le _, rfl, rfl, Owns.nil, A0.out⟩
      case round =>
        clear A0
        obtain ⟨k, o, hk, rfl, rfl, hO, hB⟩ := hrel
        obtain ⟨k0, k1⟩ := box_cells hB
        by_cases hlt : k < L
        · have hdk : decide (k < L) = true := decide_eq_true hlt
          have hS := range_snoc f k
          have hL : ((List.range k).map f).length = k := by simp
          have hfk := HF1.out k
          rw [hfk] at hS
          generalize hxs : (List.range k).map f = xs at hO hS hL
          have HO := Lib.hid hO
          have HB := Lib.hid hB
          have HSS := Lib.hid hS
          have HLn := Lib.hid hL
          have hza : w1.heap.size + 1 ≤ (w1.alloc (.cells #[.int .i64 (L : Int), .bool false] 53)).heap.size := Nat.le_of_eq (World.size_alloc _ _).symm
          have hz3 := Nat.le_trans hza hB.size
          clear hO hB hS hL hxs
          go_wp2_with (at_builtin; refine wpList_append_num rfl _ _ 37 rfl (w1.heap.size + 1) 22 i0 .u64 8 Tryd.underlying37 hi hz0 hz1 hz2 o _ rfl (HO.out.alloc _) ⟨wr.heap.size, 0, none⟩ 1 1 [1] rfl (src_one _ _ _ _) (by omega) (by rw [HLn.out]; unfold maxLen; omega) (by rw [HLn.out]; omega) (by simp; omega) ?_; intro v' w6 hown' hgrow hat)
          go_roundw
          case rel =>
            refine ⟨k + 1, _, hlt, by go_num, rfl, ?_, ?_⟩
            · rw [HSS.out]; exact hown'
            · exact (HB.out.alloc (Nat.le_trans hza HB.out.size) _).grown hgrow (by rw [World.size_alloc]; exact Nat.le_succ_of_le (Nat.le_trans hza HB.out.size)) (fun g e => (HO.out.inside e).1)
          case measure => simp [intOf]; omega
        · obtain rfl : k = L := by omega
          have hR : LineRet w ((List.range k).map f) 0 (.returned (.tuple #[o, .int .i64 0])) wr := ⟨_, rfl, hO.mono (Nat.le_succ_of_le HZZ.out), HBa.out.trans (hB.mono (Nat.le_succ_of_le HZZ.out))⟩
          clear hO hB
          go_wp2
          go_ret2
          exact hR
    · have HI1 : Hid (∀ k, Stp.twT p false true L k = Fp.inv p (Fp.mul p (Stp.tw0 p false L k) (L : Int))) := Lib.hid (fun _ => rfl)
      have HI2 : Hid (∀ k W, Calls Tryd.prog 72 #[.int .u64 p, .int .u64 (Fp.mul p (Stp.tw0 p false L k) (L : Int))] W (RetQ (.tuple #[.int .u64 (Stp.twT p false true L k), .int .i64 0]) W)) := Lib.hid (fun k W => by rw [HI1.out]; exact HI0.out k W)
      obtain ⟨m, hm⟩ : ∃ m : Nat → Int, m = fun k => Fp.mul p (Stp.tw0 p false L k) (L : Int) := ⟨_, rfl⟩
      have HM2 : Hid (∀ k W, Calls Tryd.prog 73 #[.int .u64 p, .int .u64 (Stp.tw0 p false L k), .int .u64 (L : Int)] W fun e w' => e = .returned (.int .u64 (m k)) ∧ W = w') := Lib.hid (by rw [hm]; exact HM0.out)
      have HI3 : Hid (∀ k W, Calls Tryd.prog 72 #[.int .u64 p, .int .u64 (m k)] W (RetQ (.tuple #[.int .u64 (Stp.twT p false true L k), .int .i64 0]) W)) := Lib.hid (by rw [hm]; exact HI2.out)
      clear HM0 HI0 HI1 HI2 hm
      have HM0 := HM2
      have HI0 := HI3
      clear HM2 HI3
      generalize Stp.twT p false true L = f at HI0 ⊢
      clear hL hx hs hk hkb hd hc hneg hneg' hT0 hLn hgb hmb hE hb0 c0 c1
      unfold spV at HC ⊢
      dsimp only at HC HB0 CE ⊢
      go_enter Tryd.func37, Tryd.ntmps37
      go_wp2_with (go_at_call 70; refine HC.out.mono ?_; rintro e w1 ⟨rfl, b1⟩; obtain ⟨k0, k1, k2, k3, k4⟩ := CE.out w1 b1; dsimp only at k0 k1 k2 k3 k4; have B1 := Lib.hid (HB0.out.trans (b1.mono HB0.out.size)); obtain ⟨c0, c1⟩ := C0.out w1 B1.out; clear b1)
      have hA0 : Below (w1.heap.size + 1) (w1.alloc (.cells #[.int .i64 (L : Int), .bool false] 53)) (w1.alloc (.cells #[.int .i64 (L : Int), .bool false] 53)) := Below.refl _ _
      have A0 := Lib.hid hA0
      have HBa : Hid (Below w.heap.size w (w1.alloc (.cells #[.int .i64 (L : Int), .bool false] 53))) := Lib.hid (below_al B1.out _)
      have hzz : w.heap.size ≤ w1.heap.size := B1.out.size
      have HZZ := Lib.hid hzz
      clear k0 k1 k2 k3 k4 c0 c1 hA0 HC CE C0 hzz B1
      go_loopw [11, 38] (fun v i wr => ∃ (k : Nat) (o : Value), k ≤ L ∧ i = .int .i64 (k : Int) ∧ o = v ∧ Owns .u64 22 wr (w1.heap.size + 1) o ((List.range k).map f) ∧ Below (w1.heap.size + 1) (w1.alloc (.cells #[.int .i64 (L : Int), .bool false] 53)) wr) (fun _ i _ => L - (intOf i).toNat)
      case atStart => exact ⟨0, _, Nat.zero_le _, rfl, rfl, Owns.nil, A0.out⟩
      case round =>
        clear A0
        obtain ⟨k, o, hk, rfl, rfl, hO, hB⟩ := hrel
        obtain ⟨k0, k1⟩ := box_cells hB
        by_cases hlt : k < L
        · have hdk : decide (k < L) = true := decide_eq_true hlt
          have hS := range_snoc f k
          have hL : ((List.range k).map f).length = k := by simp
          have HM := Lib.hid (fun W => HM0.out k W)
          have HI := Lib.hid (fun W => HI0.out k W)
          have hgk := HG1.out k
          rw [hgk] at HM
          obtain ⟨mm, hmm⟩ : ∃ mm, mm = m k := ⟨_, rfl⟩
          rw [← hmm] at HM HI
          obtain ⟨z, hz⟩ : ∃ z, z = f k := ⟨_, rfl⟩
          rw [← hz] at hS
          rw [← hz] at HI
          generalize hxs : (List.range k).map f = xs at hO hS hL
          have HO := Lib.hid hO
          have HB := Lib.hid hB
          have HSS := Lib.hid hS
          have HLn := Lib.hid hL
          have hza : w1.heap.size + 1 ≤ (w1.alloc (.cells #[.int .i64 (L : Int), .bool false] 53)).heap.size := Nat.le_of_eq (World.size_alloc _ _).symm
          have hz3 := Nat.le_trans hza hB.size
          clear hO hB hS hL hxs hz hgk hmm
          go_wp2_with (first
            | (go_at_call 73; refine (HM.out wr).mono ?_; rintro e w' ⟨rfl, rfl⟩)
            | (go_at_call 72; refine (HI.out wr).mono ?_; rintro e V2 ⟨rfl, n2, hV2⟩; have O2 : Hid (Owns .u64 22 V2 (w1.heap.size + 1) o xs) := Lib.hid (by rw [hV2]; exact HO.out.draws n2); have B2 : Hid (Below (w1.heap.size + 1) (w1.alloc (.cells #[.int .i64 (L : Int), .bool false] 53)) V2) := Lib.hid (by rw [hV2]; exact below_draws HB.out n2); have hzb2 := Nat.le_trans hza B2.out.size; clear hV2)
            | (at_builtin; refine wpList_append_num rfl _ _ 37 rfl (w1.heap.size + 1) 22 i0 .u64 8 Tryd.underlying37 hi hz0 hz1 hz2 o _ rfl (O2.out.alloc _) ⟨V2.heap.size, 0, none⟩ 1 1 [z] rfl (src_one _ _ _ _) (by omega) (by rw [HLn.out]; unfold maxLen; omega) (by rw [HLn.out]; omega) (by simp; omega) ?_; intro v' w6 hown' hgrow hat))
          go_roundw
          case rel =>
            refine ⟨k + 1, _, hlt, by go_num, rfl, ?_, ?_⟩
            · rw [HSS.out]; exact hown'
            · exact (B2.out.alloc (Nat.le_trans hza B2.out.size) _).grown hgrow (by rw [World.size_alloc]; exact Nat.le_succ_of_le (Nat.le_trans hza B2.out.size)) (fun g e => (O2.out.inside e).1)
          case measure => simp [intOf]; omega
        · obtain rfl : k = L := by omega
          have hR : LineRet w ((List.range k).map f) 0 (.returned (.tuple #[o, .int .i64 0])) wr := ⟨_, rfl, hO.mono (Nat.le_succ_of_le HZZ.out), HBa.out.trans (hB.mono (Nat.le_succ_of_le HZZ.out))⟩
          clear hO hB
          go_wp2
          go_ret2
          exact hR
  · have hod : Fp.od true L = 2 * L := by simp [Fp.od]
    rw [hod] at hd
    have hEr := rootE_of hk (show 1 ≤ 2 * L by omega) (by omega) hd
    have HR := Lib.hid (fun W => rroot_any p ((2 * L : Nat) : Int) W (by omega))
    unfold rootN at HR
    rw [hEr, if_pos rfl, Int.toNat_natCast] at HR
    obtain ⟨r0, r1, r2⟩ := Fp.rt_bd p (2 * L)
    have r2 := r2 hk
    have HP0 : Hid (∀ (k : Nat) W, k < L → Calls Tryd.prog 71 #[.int .u64 p, .int .u64 (Fp.rt p (2 * L)), .int .u64 (k : Int)] W fun e w' => e = .returned (.int .u64 (Stp.tw0 p true L k)) ∧ W = w') := Lib.hid (fun k W hk' => by
      have := rpow_any p (Fp.rt p (2 * L)) (k : Int) W r0 (by omega) (by omega) (by omega)
      rwa [Int.toNat_natCast] at this)
    have hz : (2 : Int) * (L : Int) = ((2 * L : Nat) : Int) := by simp
    generalize Fp.rt p (2 * L) = rt at HR HP0
    obtain ⟨u, hu⟩ : ∃ u : Nat, u = 2 * L := ⟨_, rfl⟩
    rw [← hu] at hz HR
    have hub : u ≤ 8192 := by omega
    cases inv
    · have HF1 : Hid (∀ k, Stp.tw0 p true L k = Stp.twT p true false L k) := Lib.hid (fun _ => rfl)
      generalize Stp.twT p true false L = f at HF1 ⊢
      clear hL hx hs hk hkb hd hc hneg hneg' hT0 hLn hgb hmb HM0 HI0 hE hb0 c0 c1 hu hod hEr r0 r1 r2
      unfold spV at HC ⊢
      dsimp only at HC HB0 CE ⊢
      go_enter Tryd.func37, Tryd.ntmps37
      go_wp2_with (go_at_call 70; refine HC.out.mono ?_; rintro e w1 ⟨rfl, b1⟩; obtain ⟨k0, k1, k2, k3, k4⟩ := CE.out w1 b1; dsimp only at k0 k1 k2 k3 k4; have B1 := Lib.hid (HB0.out.trans (b1.mono HB0.out.size)); obtain ⟨c0, c1⟩ := C0.out w1 B1.out; clear b1)
      have hA0 : Below (w1.heap.size + 1) (w1.alloc (.cells #[.int .i64 (L : Int), .bool true] 53)) (w1.alloc (.cells #[.int .i64 (L : Int), .bool true] 53)) := Below.refl _ _
      have A0 := Lib.hid hA0
      have HBa : Hid (Below w.heap.size w (w1.alloc (.cells #[.int .i64 (L : Int), .bool true] 53))) := Lib.hid (below_al B1.out _)
      have hzz : w.heap.size ≤ w1.heap.size := B1.out.size
      have HZZ := Lib.hid hzz
      clear k0 k1 k2 k3 k4 c0 c1 hA0 HC CE C0 hzz B1
      go_loopw [11, 38] (fun v i wr => ∃ (k : Nat) (o : Value), k ≤ L ∧ i = .int .i64 (k : Int) ∧ o = v ∧ Owns .u64 22 wr (w1.heap.size + 1) o ((List.range k).map f) ∧ Below (w1.heap.size + 1) (w1.alloc (.cells #[.int .i64 (L : Int), .bool true] 53)) wr) (fun _ i _ => L - (intOf i).toNat)
      case atStart => exact ⟨0, _, Nat.zero_le _, rfl, rfl, Owns.nil, A0.out⟩
      case round =>
        clear A0
        obtain ⟨k, o, hk, rfl, rfl, hO, hB⟩ := hrel
        obtain ⟨k0, k1⟩ := box_cells hB
        by_cases hlt : k < L
        · have hdk : decide (k < L) = true := decide_eq_true hlt
          have hS := range_snoc f k
          have hL : ((List.range k).map f).length = k := by simp
          have HP := Lib.hid (fun W => HP0.out k W hlt)
          have hfk := HF1.out k
          rw [hfk] at HP
          obtain ⟨z, hz⟩ : ∃ z, z = f k := ⟨_, rfl⟩
          rw [← hz] at hS
          rw [← hz] at HP
          generalize hxs : (List.range k).map f = xs at hO hS hL
          have HO := Lib.hid hO
          have HB := Lib.hid hB
          have HSS := Lib.hid hS
          have HLn := Lib.hid hL
          have hza : w1.heap.size + 1 ≤ (w1.alloc (.cells #[.int .i64 (L : Int), .bool true] 53)).heap.size := Nat.le_of_eq (World.size_alloc _ _).symm
          have hz3 := Nat.le_trans hza hB.size
          clear hO hB hS hL hxs hz hfk
          go_wp2_with (first
            | (go_at_call 67; refine (HR.out wr).mono ?_; rintro e V1 ⟨rfl, n1, hV1⟩; have O1 : Hid (Owns .u64 22 V1 (w1.heap.size + 1) o xs) := Lib.hid (by rw [hV1]; exact HO.out.draws n1); have B1 : Hid (Below (w1.heap.size + 1) (w1.alloc (.cells #[.int .i64 (L : Int), .bool true] 53)) V1) := Lib.hid (by rw [hV1]; exact below_draws HB.out n1); have k0' := (box_cells B1.out).1; have hzb1 := Nat.le_trans hza B1.out.size; clear hV1)
            | (go_at_call 71; refine (HP.out V1).mono ?_; rintro e w' ⟨rfl, rfl⟩)
            | (at_builtin; refine wpList_append_num rfl _ _ 37 rfl (w1.heap.size + 1) 22 i0 .u64 8 Tryd.underlying37 hi hz0 hz1 hz2 o _ rfl (O1.out.alloc _) ⟨V1.heap.size, 0, none⟩ 1 1 [z] rfl (src_one _ _ _ _) (by omega) (by rw [HLn.out]; unfold maxLen; omega) (by rw [HLn.out]; omega) (by simp; omega) ?_; intro v' w6 hown' hgrow hat))
          go_roundw
          case rel =>
            refine ⟨k + 1, _, hlt, by go_num, rfl, ?_, ?_⟩
            · rw [HSS.out]; exact hown'
            · exact (B1.out.alloc (Nat.le_trans hza B1.out.size) _).grown hgrow (by rw [World.size_alloc]; exact Nat.le_succ_of_le (Nat.le_trans hza B1.out.size)) (fun g e => (O1.out.inside e).1)
          case measure => simp [intOf]; omega
        · obtain rfl : k = L := by omega
          have hR : LineRet w ((List.range k).map f) 0 (.returned (.tuple #[o, .int .i64 0])) wr := ⟨_, rfl, hO.mono (Nat.le_succ_of_le HZZ.out), HBa.out.trans (hB.mono (Nat.le_succ_of_le HZZ.out))⟩
          clear hO hB
          go_wp2
          go_ret2
          exact hR
    · have HI2 : Hid (∀ k W, Calls Tryd.prog 72 #[.int .u64 p, .int .u64 (Fp.mul p (Stp.tw0 p true L k) (L : Int))] W (RetQ (.tuple #[.int .u64 (Stp.twT p true true L k), .int .i64 0]) W)) := Lib.hid (fun k W => HI0.out k W)
      obtain ⟨g, hg⟩ : ∃ g : Nat → Int, g = Stp.tw0 p true L := ⟨_, rfl⟩
      obtain ⟨m, hm⟩ : ∃ m : Nat → Int, m = fun k => Fp.mul p (Stp.tw0 p true L k) (L : Int) := ⟨_, rfl⟩
      have HM2 : Hid (∀ k W, Calls Tryd.prog 73 #[.int .u64 p, .int .u64 (g k), .int .u64 (L : Int)] W fun e w' => e = .returned (.int .u64 (m k)) ∧ W = w') := Lib.hid (by rw [hm, hg]; exact HM0.out)
      have HI3 : Hid (∀ k W, Calls Tryd.prog 72 #[.int .u64 p, .int .u64 (m k)] W (RetQ (.tuple #[.int .u64 (Stp.twT p true true L k), .int .i64 0]) W)) := Lib.hid (by rw [hm]; exact HI2.out)
      rw [← hg] at HP0
      clear HM0 HI0 HI2 hm hg
      have HM0 := HM2
      have HI0 := HI3
      clear HM2 HI3
      generalize Stp.twT p true true L = f at HI0 ⊢
      clear hL hx hs hk hkb hd hc hneg hneg' hT0 hLn hgb hmb hE hb0 c0 c1 hu hod hEr r0 r1 r2
      unfold spV at HC ⊢
      dsimp only at HC HB0 CE ⊢
      go_enter Tryd.func37, Tryd.ntmps37
      go_wp2_with (go_at_call 70; refine HC.out.mono ?_; rintro e w1 ⟨rfl, b1⟩; obtain ⟨k0, k1, k2, k3, k4⟩ := CE.out w1 b1; dsimp only at k0 k1 k2 k3 k4; have B1 := Lib.hid (HB0.out.trans (b1.mono HB0.out.size)); obtain ⟨c0, c1⟩ := C0.out w1 B1.out; clear b1)
      have hA0 : Below (w1.heap.size + 1) (w1.alloc (.cells #[.int .i64 (L : Int), .bool true] 53)) (w1.alloc (.cells #[.int .i64 (L : Int), .bool true] 53)) := Below.refl _ _
      have A0 := Lib.hid hA0
      have HBa : Hid (Below w.heap.size w (w1.alloc (.cells #[.int .i64 (L : Int), .bool true] 53))) := Lib.hid (below_al B1.out _)
      have hzz : w.heap.size ≤ w1.heap.size := B1.out.size
      have HZZ := Lib.hid hzz
      clear k0 k1 k2 k3 k4 c0 c1 hA0 HC CE C0 hzz B1
      go_loopw [11, 38] (fun v i wr => ∃ (k : Nat) (o : Value), k ≤ L ∧ i = .int .i64 (k : Int) ∧ o = v ∧ Owns .u64 22 wr (w1.heap.size + 1) o ((List.range k).map f) ∧ Below (w1.heap.size + 1) (w1.alloc (.cells #[.int .i64 (L : Int), .bool true] 53)) wr) (fun _ i _ => L - (intOf i).toNat)
      case atStart => exact ⟨0, _, Nat.zero_le _, rfl, rfl, Owns.nil, A0.out⟩
      case round =>
        clear A0
        obtain ⟨k, o, hk, rfl, rfl, hO, hB⟩ := hrel
        obtain ⟨k0, k1⟩ := box_cells hB
        by_cases hlt : k < L
        · have hdk : decide (k < L) = true := decide_eq_true hlt
          have hS := range_snoc f k
          have hL : ((List.range k).map f).length = k := by simp
          have HP := Lib.hid (fun W => HP0.out k W hlt)
          have HM := Lib.hid (fun W => HM0.out k W)
          have HI := Lib.hid (fun W => HI0.out k W)
          obtain ⟨mm, hmm⟩ : ∃ mm, mm = m k := ⟨_, rfl⟩
          rw [← hmm] at HM HI
          obtain ⟨gg, hgg⟩ : ∃ gg, gg = g k := ⟨_, rfl⟩
          rw [← hgg] at HM HP
          obtain ⟨z, hz⟩ : ∃ z, z = f k := ⟨_, rfl⟩
          rw [← hz] at hS
          rw [← hz] at HI
          generalize hxs : (List.range k).map f = xs at hO hS hL
          have HO := Lib.hid hO
          have HB := Lib.hid hB
          have HSS := Lib.hid hS
          have HLn := Lib.hid hL
          have hza : w1.heap.size + 1 ≤ (w1.alloc (.cells #[.int .i64 (L : Int), .bool true] 53)).heap.size := Nat.le_of_eq (World.size_alloc _ _).symm
          have hz3 := Nat.le_trans hza hB.size
          clear hO hB hS hL hxs hz hmm hgg
          go_wp2_with (first
            | (go_at_call 67; refine (HR.out wr).mono ?_; rintro e V1 ⟨rfl, n1, hV1⟩; have O1 : Hid (Owns .u64 22 V1 (w1.heap.size + 1) o xs) := Lib.hid (by rw [hV1]; exact HO.out.draws n1); have B1 : Hid (Below (w1.heap.size + 1) (w1.alloc (.cells #[.int .i64 (L : Int), .bool true] 53)) V1) := Lib.hid (by rw [hV1]; exact below_draws HB.out n1); have k0' := (box_cells B1.out).1; have hzb1 := Nat.le_trans hza B1.out.size; clear hV1)
            | (go_at_call 71; refine (HP.out V1).mono ?_; rintro e w' ⟨rfl, rfl⟩)
            | (go_at_call 73; refine (HM.out V1).mono ?_; rintro e w' ⟨rfl, rfl⟩)
            | (go_at_call 72; refine (HI.out V1).mono ?_; rintro e V2 ⟨rfl, n2, hV2⟩; have O2 : Hid (Owns .u64 22 V2 (w1.heap.size + 1) o xs) := Lib.hid (by rw [hV2]; exact O1.out.draws n2); have B2 : Hid (Below (w1.heap.size + 1) (w1.alloc (.cells #[.int .i64 (L : Int), .bool true] 53)) V2) := Lib.hid (by rw [hV2]; exact below_draws B1.out n2); have hzb2 := Nat.le_trans hza B2.out.size; clear hV2)
            | (at_builtin; refine wpList_append_num rfl _ _ 37 rfl (w1.heap.size + 1) 22 i0 .u64 8 Tryd.underlying37 hi hz0 hz1 hz2 o _ rfl (O2.out.alloc _) ⟨V2.heap.size, 0, none⟩ 1 1 [z] rfl (src_one _ _ _ _) (by omega) (by rw [HLn.out]; unfold maxLen; omega) (by rw [HLn.out]; omega) (by simp; omega) ?_; intro v' w6 hown' hgrow hat))
          go_roundw
          case rel =>
            refine ⟨k + 1, _, hlt, by go_num, rfl, ?_, ?_⟩
            · rw [HSS.out]; exact hown'
            · exact (B2.out.alloc (Nat.le_trans hza B2.out.size) _).grown hgrow (by rw [World.size_alloc]; exact Nat.le_succ_of_le (Nat.le_trans hza B2.out.size)) (fun g e => (O2.out.inside e).1)
          case measure => simp [intOf]; omega
        · obtain rfl : k = L := by omega
          have hR : LineRet w ((List.range k).map f) 0 (.returned (.tuple #[o, .int .i64 0])) wr := ⟨_, rfl, hO.mono (Nat.le_succ_of_le HZZ.out), HBa.out.trans (hB.mono (Nat.le_succ_of_le HZZ.out))⟩
          clear hO hB
          go_wp2
          go_ret2
          exact hR

end Go.Proofs.YtlbfllaaabginaaDoor

/-!   What the document's Table of layer 16 comes to, of a stage; and over every input.
-/

namespace Go.Proofs.YtlbfllaaabginaaDoor
open Go.RowKit Go.Shelf

set_option maxRecDepth 100000 in
set_option maxHeartbeats 8000000 in
theorem rstage16 (p : Int) (x : Option Addr) (cap : Nat) (xa : List Ax) (inv : Bool) (ax : Int) (R L M : Nat) (w : World) (hx : ReadsA w w.heap.size x xa) (hl : xa.length ≤ 8796093022208) (hE : Stp.stepE p xa ⟨ax, false, ⟨(R : Int), (L : Int), (M : Int)⟩⟩ = 0) (h3 : Stp.Three (gL xa ax.toNat) R L M) (hle : R * M ≤ 4096) (hd : R * M ∣ p.toNat - 1) :
    Calls Tryd.prog 37 #[.int .u64 p, .slice x xa.length cap, .bool inv, spV ⟨ax, false, ⟨(R : Int), (L : Int), (M : Int)⟩⟩] w (LineRet w ((List.range (M * R)).map (Stp.stT p inv R M)) 0) := by
  have hs := Stp.stepE_zero hE
  have hk := hs.ax.kn
  have hkb := Fp.kn_bd hk
  have hb0 := (Below.refl w.heap.size w).alloc (Nat.le_refl _) (.cells #[.int .i64 ax, .bool false, .int .i64 (R : Int), .int .i64 (L : Int), .int .i64 (M : Int)] 49)
  have HB0 := Lib.hid hb0
  have HC := Lib.hid (rcheck16_any p x xa.length cap xa ⟨ax, false, ⟨(R : Int), (L : Int), (M : Int)⟩⟩ _ ((hx.below hb0).more hb0.size) rfl hl)
  rw [hE] at HC
  have CE : Hid (∀ W, Below (w.alloc (.cells #[.int .i64 ax, .bool false, .int .i64 (R : Int), .int .i64 (L : Int), .int .i64 (M : Int)] 49)).heap.size (w.alloc (.cells #[.int .i64 ax, .bool false, .int .i64 (R : Int), .int .i64 (L : Int), .int .i64 (M : Int)] 49)) W → SpAt W w.heap.size ⟨ax, false, ⟨(R : Int), (L : Int), (M : Int)⟩⟩) :=
    Lib.hid (fun W hW => (SpAt.new w 49 ⟨ax, false, ⟨(R : Int), (L : Int), (M : Int)⟩⟩).then hW)
  have r2 := h3.r2
  have m1 := h3.m1
  have hN1 : 1 ≤ R * M := Nat.mul_pos (by omega) m1
  have hdm := emod_of_dvd hk hd
  have hEr := rootE_of hk hN1 (by omega) hdm
  have HR := Lib.hid (fun W => rroot_any p ((R * M : Nat) : Int) W (by omega))
  unfold rootN at HR
  rw [hEr, if_pos rfl, Int.toNat_natCast] at HR
  obtain ⟨r0, r1, r3⟩ := Fp.rt_bd p (R * M)
  have r3 := r3 hk
  have hrn := Fp.rt_ne hk hd hN1
  have HX : Hid (∀ a u, a < M → u < R → a * u < R * M) := Lib.hid (fun a u ha hu => by
    have h1 : a * u ≤ a * R := Nat.mul_le_mul_left a (by omega)
    have h2 : (a + 1) * R ≤ M * R := Nat.mul_le_mul_right R ha
    rw [Nat.succ_mul, Nat.mul_comm M R] at h2
    omega)
  have HQ : Hid (∀ a, a < M → a * R + R ≤ R * M) := Lib.hid (fun a ha => by
    have h2 : (a + 1) * R ≤ M * R := Nat.mul_le_mul_right R ha
    rw [Nat.succ_mul, Nat.mul_comm M R] at h2
    exact h2)
  have HP : Hid (∀ a u, a < M → u < R → ∀ W, Calls Tryd.prog 71 #[.int .u64 p, .int .u64 (Fp.rt p (R * M)), .int .u64 ((a * u : Nat) : Int)] W fun e w' => e = .returned (.int .u64 (Fp.pw p (Fp.rt p (R * M)) (a * u))) ∧ W = w') := Lib.hid (fun a u ha hu W => by
    have hb := HX.out a u ha hu
    have := rpow_any p (Fp.rt p (R * M)) ((a * u : Nat) : Int) W r0 (by omega) (by omega) (by omega)
    rwa [Int.toNat_natCast] at this)
  have HI0 : Hid (∀ a u, a < M → u < R → ∀ W, Calls Tryd.prog 72 #[.int .u64 p, .int .u64 (Fp.pw p (Fp.rt p (R * M)) (a * u))] W (RetQ (.tuple #[.int .u64 (Fp.inv p (Fp.pw p (Fp.rt p (R * M)) (a * u))), .int .i64 0]) W)) := Lib.hid (fun a u _ _ W => by
    have hb := Fp.pw_bd p (Fp.rt p (R * M)) (a * u)
    exact rinv_of p _ W hk hb.1 (by omega) (Stp.pw_ne hk hrn _))
  have hsT : ∀ a u, u < R → Stp.stT p inv R M (a * R + u) = if inv then Fp.inv p (Fp.pw p (Fp.rt p (R * M)) (a * u)) else Fp.pw p (Fp.rt p (R * M)) (a * u) := fun a u hu => by
    unfold Stp.stT
    rw [Nat.mul_comm a R, Nat.mul_add_div (by omega), Nat.mul_add_mod, Nat.div_eq_of_lt hu, Nat.mod_eq_of_lt hu, Nat.add_zero]
  obtain ⟨i0, hi, hz0, hz1, hz2⟩ := info_parts info_u64
  have hz : (R : Int) * (M : Int) = ((R * M : Nat) : Int) := by simp
  have rb : R ≤ R * M := Nat.le_mul_of_pos_right R m1
  have mb : M ≤ R * M := Nat.le_mul_of_pos_left M (by omega)
  obtain ⟨N, hN⟩ : ∃ N : Nat, N = R * M := ⟨_, rfl⟩
  cases inv
  · have HFF : Hid (∀ a u, u < R → Fp.pw p (Fp.rt p (R * M)) (a * u) = Stp.stT p false R M (a * R + u)) := Lib.hid (fun a u hu => by rw [hsT a u hu]; rfl)
    rw [← hN] at HR HP HX HQ HFF hz hle rb mb
    generalize Fp.rt p N = rt at HR HP HFF
    generalize Stp.stT p false R M = f at HFF ⊢
    generalize Fp.pw p rt = pf at HP HFF
    unfold spV at HC ⊢
    dsimp only at HC HB0 CE ⊢
    clear hx hE h3 hd hs hk hkb hb0 hdm hEr r0 r1 r3 hrn HI0 hsT hN m1 hN1
    go_enter Tryd.func37, Tryd.ntmps37
    go_wp2_with (first
      | (go_at_call 70; refine HC.out.mono ?_; rintro e w1 ⟨rfl, b1⟩; obtain ⟨k0, k1, k2, k3, k4⟩ := CE.out w1 b1; dsimp only at k0 k1 k2 k3 k4; have S1 := Lib.hid (CE.out w1 b1); have B1 := Lib.hid (HB0.out.trans (b1.mono HB0.out.size)); clear b1)
      | (go_at_call 67; refine (HR.out w1).mono ?_; rintro e w2 ⟨rfl, n1, hw2⟩; have b2 : Below w1.heap.size w1 w2 := (hw2 ▸ draws_below _ _ n1); have S2 := Lib.hid (S1.out.then b2); have B2' := Lib.hid (below_then B1.out b2); clear k0 k1 k2 k3 k4 hw2 b2; obtain ⟨k0, k1, k2, k3, k4⟩ := S2.out; dsimp only at k0 k1 k2 k3 k4))
    clear k0 k1 k2 k3 k4 HR HC CE S1 B1
    go_loopw [11, 89] (fun v i wr => ∃ (a : Nat) (o : Value), a ≤ M ∧ i = .int .i64 (a : Int) ∧ o = v ∧ Owns .u64 22 wr w2.heap.size o ((List.range (a * R)).map f) ∧ Below w2.heap.size w2 wr) (fun _ i _ => M - (intOf i).toNat)
    case atStart => exact ⟨0, _, Nat.zero_le _, rfl, rfl, by rw [Nat.zero_mul]; exact Owns.nil, Below.refl _ _⟩
    case round =>
      obtain ⟨a, o, ha, rfl, rfl, hO, hB⟩ := hrel
      obtain ⟨k0, k1, k2, k3, k4⟩ := S2.out.then hB
      dsimp only at k0 k1 k2 k3 k4
      by_cases hlt : a < M
      · have hda : decide (a < M) = true := decide_eq_true hlt
        have HO := Lib.hid hO
        have HB := Lib.hid hB
        have haR := HQ.out a hlt
        clear hO hB
        go_wp2
        clear k0 k1 k2 k3 k4
        go_loopw [11, 95] (fun v i wi => ∃ (u : Nat) (o' : Value), u ≤ R ∧ i = .int .i64 (u : Int) ∧ o' = v ∧ Owns .u64 22 wi w2.heap.size o' ((List.range (a * R + u)).map f) ∧ Below w2.heap.size w2 wi) (fun _ i _ => R - (intOf i).toNat)
        case atStart => exact ⟨0, _, Nat.zero_le _, rfl, rfl, HO.out, HB.out⟩
        case round =>
          clear HO HB
          obtain ⟨u, o', hu, rfl, rfl, hO, hB⟩ := hrel
          obtain ⟨k0, k1, k2, k3, k4⟩ := S2.out.then hB
          dsimp only at k0 k1 k2 k3 k4
          by_cases hlu : u < R
          · have hdu : decide (u < R) = true := decide_eq_true hlu
            have he := HX.out a u hlt hlu
            have hza : (a : Int) * (u : Int) = ((a * u : Nat) : Int) := by simp
            have hS := range_snoc f (a * R + u)
            have hL : ((List.range (a * R + u)).map f).length = a * R + u := by simp
            have HPk := Lib.hid (fun W => HP.out a u hlt hlu W)
            obtain ⟨z, hz'⟩ : ∃ z, z = f (a * R + u) := ⟨_, rfl⟩
            rw [HFF.out a u hlu, ← hz'] at HPk
            rw [← hz'] at hS
            obtain ⟨e, hee⟩ : ∃ e : Nat, e = a * u := ⟨_, rfl⟩
            rw [← hee] at he hza HPk
            obtain ⟨q, hq⟩ : ∃ q : Nat, q = a * R + u := ⟨_, rfl⟩
            have hqb : q < N := by omega
            have HQ1 : Hid (a * R + (u + 1) = q + 1) := Lib.hid (by omega)
            rw [← hq] at hS hL hO
            generalize hxs : (List.range q).map f = xs at hO hS hL
            have HO := Lib.hid hO
            have HB := Lib.hid hB
            have HSS := Lib.hid hS
            have HLn := Lib.hid hL
            have hsw : w2.heap.size ≤ wr.heap.size := hB.size
            clear hO hB hS hL hxs hee hq hz'
            go_wp2_with (first
            | (go_at_call 71; refine (HPk.out wr).mono ?_; rintro e' w' ⟨rfl, rfl⟩)
            | (at_builtin; refine wpList_append_num rfl _ _ 37 rfl w2.heap.size 22 i0 .u64 8 Tryd.underlying37 hi hz0 hz1 hz2 o' _ rfl (HO.out.alloc _) ⟨wr.heap.size, 0, none⟩ 1 1 [z] rfl (src_one _ _ _ _) (by omega) (by rw [HLn.out]; unfold maxLen; omega) (by rw [HLn.out]; omega) (by simp; omega) ?_; intro v' w6 hown' hgrow hat))
            go_roundw
            case rel =>
              refine ⟨u + 1, _, hlu, by go_num, rfl, ?_, ?_⟩
              · rw [HQ1.out, HSS.out]; exact hown'
              · exact (HB.out.alloc HB.out.size _).grown hgrow (by rw [World.size_alloc]; exact Nat.le_succ_of_le HB.out.size) (fun g e => (HO.out.inside e).1)
            case measure => simp [intOf]; omega
          · obtain rfl : u = R := by omega
            have hS : a * u + u = (a + 1) * u := by rw [Nat.succ_mul]
            have HO := Lib.hid hO
            have HB := Lib.hid hB
            have HSS := Lib.hid hS
            clear hO hB hS
            go_wp2
            go_roundw
            case rel => exact ⟨a + 1, _, hlt, by go_num, rfl, by rw [← HSS.out]; exact HO.out, HB.out⟩
            case measure => simp [intOf]; omega
      · obtain rfl : a = M := by omega
        have hR : LineRet w ((List.range (a * R)).map f) 0 (.returned (.tuple #[o, .int .i64 0])) wr := ⟨_, rfl, hO.mono B2'.out.size, below_then B2'.out hB⟩
        clear hO hB
        go_wp2
        go_ret2
        exact hR
  · have HI : Hid (∀ a u, a < M → u < R → ∀ W, Calls Tryd.prog 72 #[.int .u64 p, .int .u64 (Fp.pw p (Fp.rt p (R * M)) (a * u))] W (RetQ (.tuple #[.int .u64 (Stp.stT p true R M (a * R + u)), .int .i64 0]) W)) := Lib.hid (fun a u ha hu W => by rw [hsT a u hu, if_pos rfl]; exact HI0.out a u ha hu W)
    rw [← hN] at HR HP HX HQ HI hz hle rb mb
    generalize Fp.rt p N = rt at HR HP HI
    generalize Stp.stT p true R M = f at HI ⊢
    generalize Fp.pw p rt = pf at HP HI
    unfold spV at HC ⊢
    dsimp only at HC HB0 CE ⊢
    clear hx hE h3 hd hs hk hkb hb0 hdm hEr r0 r1 r3 hrn HI0 hsT hN m1 hN1
    go_enter Tryd.func37, Tryd.ntmps37
    go_wp2_with (first
      | (go_at_call 70; refine HC.out.mono ?_; rintro e w1 ⟨rfl, b1⟩; obtain ⟨k0, k1, k2, k3, k4⟩ := CE.out w1 b1; dsimp only at k0 k1 k2 k3 k4; have S1 := Lib.hid (CE.out w1 b1); have B1 := Lib.hid (HB0.out.trans (b1.mono HB0.out.size)); clear b1)
      | (go_at_call 67; refine (HR.out w1).mono ?_; rintro e w2 ⟨rfl, n1, hw2⟩; have b2 : Below w1.heap.size w1 w2 := (hw2 ▸ draws_below _ _ n1); have S2 := Lib.hid (S1.out.then b2); have B2' := Lib.hid (below_then B1.out b2); clear k0 k1 k2 k3 k4 hw2 b2; obtain ⟨k0, k1, k2, k3, k4⟩ := S2.out; dsimp only at k0 k1 k2 k3 k4))
    clear k0 k1 k2 k3 k4 HR HC CE S1 B1
    go_loopw [11, 89] (fun v i wr => ∃ (a : Nat) (o : Value), a ≤ M ∧ i = .int .i64 (a : Int) ∧ o = v ∧ Owns .u64 22 wr w2.heap.size o ((List.range (a * R)).map f) ∧ Below w2.heap.size w2 wr) (fun _ i _ => M - (intOf i).toNat)
    case atStart => exact ⟨0, _, Nat.zero_le _, rfl, rfl, by rw [Nat.zero_mul]; exact Owns.nil, Below.refl _ _⟩
    case round =>
      obtain ⟨a, o, ha, rfl, rfl, hO, hB⟩ := hrel
      obtain ⟨k0, k1, k2, k3, k4⟩ := S2.out.then hB
      dsimp only at k0 k1 k2 k3 k4
      by_cases hlt : a < M
      · have hda : decide (a < M) = true := decide_eq_true hlt
        have HO := Lib.hid hO
        have HB := Lib.hid hB
        have haR := HQ.out a hlt
        clear hO hB
        go_wp2
        clear k0 k1 k2 k3 k4
        go_loopw [11, 95] (fun v i wi => ∃ (u : Nat) (o' : Value), u ≤ R ∧ i = .int .i64 (u : Int) ∧ o' = v ∧ Owns .u64 22 wi w2.heap.size o' ((List.range (a * R + u)).map f) ∧ Below w2.heap.size w2 wi) (fun _ i _ => R - (intOf i).toNat)
        case atStart => exact ⟨0, _, Nat.zero_le _, rfl, rfl, HO.out, HB.out⟩
        case round =>
          clear HO HB
          obtain ⟨u, o', hu, rfl, rfl, hO, hB⟩ := hrel
          obtain ⟨k0, k1, k2, k3, k4⟩ := S2.out.then hB
          dsimp only at k0 k1 k2 k3 k4
          by_cases hlu : u < R
          · have hdu : decide (u < R) = true := decide_eq_true hlu
            have he := HX.out a u hlt hlu
            have hza : (a : Int) * (u : Int) = ((a * u : Nat) : Int) := by simp
            have hS := range_snoc f (a * R + u)
            have hL : ((List.range (a * R + u)).map f).length = a * R + u := by simp
            have HPk := Lib.hid (fun W => HP.out a u hlt hlu W)
            have HIk := Lib.hid (fun W => HI.out a u hlt hlu W)
            obtain ⟨pz, hpz⟩ : ∃ pz, pz = pf (a * u) := ⟨_, rfl⟩
            rw [← hpz] at HPk HIk
            obtain ⟨z, hz'⟩ : ∃ z, z = f (a * R + u) := ⟨_, rfl⟩
            rw [← hz'] at HIk hS
            obtain ⟨e, hee⟩ : ∃ e : Nat, e = a * u := ⟨_, rfl⟩
            rw [← hee] at he hza HPk
            obtain ⟨q, hq⟩ : ∃ q : Nat, q = a * R + u := ⟨_, rfl⟩
            have hqb : q < N := by omega
            have HQ1 : Hid (a * R + (u + 1) = q + 1) := Lib.hid (by omega)
            rw [← hq] at hS hL hO
            generalize hxs : (List.range q).map f = xs at hO hS hL
            have HO := Lib.hid hO
            have HB := Lib.hid hB
            have HSS := Lib.hid hS
            have HLn := Lib.hid hL
            have hsw : w2.heap.size ≤ wr.heap.size := hB.size
            clear hO hB hS hL hxs hee hq hpz hz'
            go_wp2_with (first
            | (go_at_call 71; refine (HPk.out wr).mono ?_; rintro e' w' ⟨rfl, rfl⟩)
            | (go_at_call 72; refine (HIk.out wr).mono ?_; rintro e' V2 ⟨rfl, n2, hV2⟩; have O2 : Hid (Owns .u64 22 V2 w2.heap.size o' xs) := Lib.hid (by rw [hV2]; exact HO.out.draws n2); have B2 : Hid (Below w2.heap.size w2 V2) := Lib.hid (by rw [hV2]; exact below_draws HB.out n2); have hzb2 := B2.out.size; clear hV2)
            | (at_builtin; refine wpList_append_num rfl _ _ 37 rfl w2.heap.size 22 i0 .u64 8 Tryd.underlying37 hi hz0 hz1 hz2 o' _ rfl (O2.out.alloc _) ⟨V2.heap.size, 0, none⟩ 1 1 [z] rfl (src_one _ _ _ _) (by omega) (by rw [HLn.out]; unfold maxLen; omega) (by rw [HLn.out]; omega) (by simp; omega) ?_; intro v' w6 hown' hgrow hat))
            go_roundw
            case rel =>
              refine ⟨u + 1, _, hlu, by go_num, rfl, ?_, ?_⟩
              · rw [HQ1.out, HSS.out]; exact hown'
              · exact (B2.out.alloc B2.out.size _).grown hgrow (by rw [World.size_alloc]; exact Nat.le_succ_of_le B2.out.size) (fun g e => (O2.out.inside e).1)
            case measure => simp [intOf]; omega
          · obtain rfl : u = R := by omega
            have hS : a * u + u = (a + 1) * u := by rw [Nat.succ_mul]
            have HO := Lib.hid hO
            have HB := Lib.hid hB
            have HSS := Lib.hid hS
            clear hO hB hS
            go_wp2
            go_roundw
            case rel => exact ⟨a + 1, _, hlt, by go_num, rfl, by rw [← HSS.out]; exact HO.out, HB.out⟩
            case measure => simp [intOf]; omega
      · obtain rfl : a = M := by omega
        have hR : LineRet w ((List.range (a * R)).map f) 0 (.returned (.tuple #[o, .int .i64 0])) wr := ⟨_, rfl, hO.mono B2'.out.size, below_then B2'.out hB⟩
        clear hO hB
        go_wp2
        go_ret2
        exact hR

end Go.Proofs.YtlbfllaaabginaaDoor

/-!   A group that is being made, place by place, beside a row of groups of the call's own. No function of the program is named here.
-/

namespace Go.Proofs.YtlbfllaaabginaaDoor
open Go.RowKit

/-- The blocks that are being written. -/
def gmF (gb : Nat) (vo v1 v2 v3 : Value) : Nat → Prop := fun k => k = gb ∨ vo.ownBlock = some k ∨ v1.ownBlock = some k ∨ v2.ownBlock = some k ∨ v3.ownBlock = some k

/-- A row of groups that have been made, and one that is being made in block gb. -/
structure Gm (W : World) (base gb : Nat) (pre : List Gp) (vo v1 v2 v3 : Value) (l1 l2 l3 : List Int) : Prop where
  out : ∃ hs, OwnsG W base vo hs ∧ GvsOk W (gmF gb vo v1 v2 v3) hs pre
  is : Trip W gb 78 v1 v2 v3
  o1 : Owns .i64 3 W base v1 l1
  o2 : Owns .i64 3 W base v2 l2
  o3 : Owns .i64 3 W base v3 l3
  nb : vo.ownBlock ≠ some gb ∧ v1.ownBlock ≠ some gb ∧ v2.ownBlock ≠ some gb ∧ v3.ownBlock ≠ some gb
  no : ∀ g, vo.ownBlock = some g → v1.ownBlock ≠ some g ∧ v2.ownBlock ≠ some g ∧ v3.ownBlock ≠ some g
  n1 : ∀ g, v1.ownBlock = some g → v2.ownBlock ≠ some g ∧ v3.ownBlock ≠ some g
  n2 : ∀ g, v2.ownBlock = some g → v3.ownBlock ≠ some g
  lo : base ≤ gb

/-- What has become of a world: only the blocks F, or new ones, are written, and only these are being written now. -/
def Since2 (F F' : Nat → Prop) (w w' : World) : Prop := But F w w' ∧ ∀ k, F' k → F k ∨ w.heap.size ≤ k
theorem Since2.refl (F : Nat → Prop) (w : World) : Since2 F F w w := ⟨But.refl _ _, fun _ h => .inl h⟩
theorem Since2.trans {F F' F'' : Nat → Prop} {w w' w'' : World} (h : Since2 F F' w w') (h' : Since2 F' F'' w' w'') : Since2 F F'' w w'' := by
  have hs := h.1.size
  refine ⟨h.1.trans h'.1 (fun k hk hf => (h.2 k hf).elim id (fun c => by omega)), fun k hk => ?_⟩
  rcases h'.2 k hk with c | c
  · exact h.2 k c
  · exact .inr (by omega)
theorem Since2.below {F : Nat → Prop} {w w' : World} (h : Below w.heap.size w w') : Since2 F F w w' := ⟨But.of_below h, fun _ c => .inl c⟩

section
variable {W W3 : World} {base gb : Nat} {pre : List Gp} {vo v1 v2 v3 : Value} {l1 l2 l3 : List Int}
theorem Gm.hi (h : Gm W base gb pre vo v1 v2 v3 l1 l2 l3) : ∀ k, gmF gb vo v1 v2 v3 k → base ≤ k ∧ k < W.heap.size := by
  obtain ⟨hs, ho, _⟩ := h.out
  rintro k (rfl | e | e | e | e)
  · exact ⟨h.lo, h.is.lt⟩
  · exact ho.inside e
  · exact h.o1.inside e
  · exact h.o2.inside e
  · exact h.o3.inside e
theorem OwnsG.far {v : Value} {hs : List Gv} (h : OwnsG W base v hs) {A : Nat} (hA : v.ownBlock ≠ some A) (o : Nat) (u : Value) : OwnsG (W.setCell ⟨A, o, none⟩ u) base v hs :=
  h.still fun g e => Below.heap_setCell _ _ _ _ (fun c => hA (by rw [e, c]))
theorem Owns.far {v : Value} {l : List Int} (h : Owns .i64 3 W base v l) {A : Nat} (hA : v.ownBlock ≠ some A) (o : Nat) (u : Value) : Owns .i64 3 (W.setCell ⟨A, o, none⟩ u) base v l :=
  h.still fun g e => Below.heap_setCell _ _ _ _ (fun c => hA (by rw [e, c]))
/-- A row that did not grow, behind an allocation and what makes another one grow. -/
theorem Owns.past {o : Obj} {r : Option Nat} {v : Value} {l : List Int} (h : Owns .i64 3 W base v l) (hg : (W.alloc o).grownBy W3 r) (hn : ∀ g, v.ownBlock = some g → r ≠ some g) : Owns .i64 3 W3 base v l :=
  h.still fun g e => (hg.block g (by have := (h.inside e).2; rw [World.size_alloc]; omega) (fun c => hn g e c.symm)).trans ((below_al (Below.refl W.heap.size W) o).block g (h.inside e).2)
theorem OwnsG.past {o : Obj} {r : Option Nat} {v : Value} {hs : List Gv} (h : OwnsG W base v hs) (hg : (W.alloc o).grownBy W3 r) (hn : ∀ g, v.ownBlock = some g → r ≠ some g) : OwnsG W3 base v hs :=
  h.still fun g e => (hg.block g (by have := (h.inside e).2; rw [World.size_alloc]; omega) (fun c => hn g e c.symm)).trans ((below_al (Below.refl W.heap.size W) o).block g (h.inside e).2)
theorem Trip.past {o : Obj} {r : Option Nat} {g : Nat} {t : TypeId} {a b c : Value} (h : Trip W g t a b c) (hg : (W.alloc o).grownBy W3 r) (hn : r ≠ some g) : Trip W3 g t a b c :=
  h.keep ((hg.block g (by have := h.lt; rw [World.size_alloc]; omega) (fun c => hn c.symm)).trans ((below_al (Below.refl W.heap.size W) o).block g h.lt))
theorem Trip.set0 {g : Nat} {t : TypeId} {a b c : Value} (h : Trip W g t a b c) (u : Value) : Trip (W.setCell ⟨g, 0, none⟩ u) g t u b c := ⟨heap_setCell_same _ g 0 _ t u h.is⟩
theorem Trip.set1 {g : Nat} {t : TypeId} {a b c : Value} (h : Trip W g t a b c) (u : Value) : Trip (W.setCell ⟨g, 1, none⟩ u) g t a u c := ⟨heap_setCell_same _ g 1 _ t u h.is⟩
theorem Trip.set2 {g : Nat} {t : TypeId} {a b c : Value} (h : Trip W g t a b c) (u : Value) : Trip (W.setCell ⟨g, 2, none⟩ u) g t a b u := ⟨heap_setCell_same _ g 2 _ t u h.is⟩
/-- Where a row lies that has grown. -/
theorem grown_ne {o : Obj} {v v' : Value} {g : Nat} (hat : ∀ k, v'.ownBlock = some k → v.ownBlock = some k ∨ (W.alloc o).heap.size ≤ k) (hn : v.ownBlock ≠ some g) (hlt : g < W.heap.size) : v'.ownBlock ≠ some g := fun e => by
  rcases hat g e with c | c
  · exact hn c
  · rw [World.size_alloc] at c; omega

/-- The first list grows by one. -/
theorem Gm.more1 {o : Obj} {v1' : Value} {u : Int} (h : Gm W base gb pre vo v1 v2 v3 l1 l2 l3) (hown : Owns .i64 3 W3 base v1' (l1 ++ [u])) (hg : (W.alloc o).grownBy W3 v1.ownBlock) (hat : ∀ k, v1'.ownBlock = some k → v1.ownBlock = some k ∨ (W.alloc o).heap.size ≤ k) :
    Gm (W3.setCell ⟨gb, 0, none⟩ v1') base gb pre vo v1' v2 v3 (l1 ++ [u]) l2 l3 ∧ Since2 (gmF gb vo v1 v2 v3) (gmF gb vo v1' v2 v3) W (W3.setCell ⟨gb, 0, none⟩ v1') := by
  have hgb := h.is.lt
  have n1' : v1'.ownBlock ≠ some gb := grown_ne hat h.nb.2.1 hgb
  have hsub : ∀ k, gmF gb vo v1' v2 v3 k → gmF gb vo v1 v2 v3 k ∨ W.heap.size ≤ k := by
    rintro k (c | c | c | c | c)
    · exact .inl (.inl c)
    · exact .inl (.inr (.inl c))
    · rcases hat k c with d | d
      · exact .inl (.inr (.inr (.inl d)))
      · exact .inr (by rw [World.size_alloc] at d; omega)
    · exact .inl (.inr (.inr (.inr (.inl c))))
    · exact .inl (.inr (.inr (.inr (.inr c))))
  have hbut : But (gmF gb vo v1 v2 v3) W (W3.setCell ⟨gb, 0, none⟩ v1') :=
    ((But.of_below (below_al (Below.refl W.heap.size W) o)).trans (But.of_grown hg) (fun k _ c => .inr (.inr (.inl c)))).trans (But.setCell W3 gb 0 v1') (fun k _ c => .inl c)
  obtain ⟨hs, ho, hv⟩ := h.out
  refine ⟨⟨⟨hs, (ho.past hg (fun g e c => (h.no g e).1 c)).far h.nb.1 _ _, hv.but hbut hsub⟩, (h.is.past hg h.nb.2.1).set0 _, hown.far n1' _ _, (h.o2.past hg (fun g e c => (h.n1 g c).1 e)).far h.nb.2.2.1 _ _, (h.o3.past hg (fun g e c => (h.n1 g c).2 e)).far h.nb.2.2.2 _ _, ⟨h.nb.1, n1', h.nb.2.2.1, h.nb.2.2.2⟩, fun g e => ⟨?_, (h.no g e).2⟩, fun g e => ?_, h.n2, h.lo⟩, hbut, hsub⟩
  · exact grown_ne hat (h.no g e).1 (ho.inside e).2
  · exact ⟨fun c => grown_ne hat (fun d => (h.n1 g d).1 c) (h.o2.inside c).2 e, fun c => grown_ne hat (fun d => (h.n1 g d).2 c) (h.o3.inside c).2 e⟩
/-- The second. -/
theorem Gm.more2 {o : Obj} {v2' : Value} {u : Int} (h : Gm W base gb pre vo v1 v2 v3 l1 l2 l3) (hown : Owns .i64 3 W3 base v2' (l2 ++ [u])) (hg : (W.alloc o).grownBy W3 v2.ownBlock) (hat : ∀ k, v2'.ownBlock = some k → v2.ownBlock = some k ∨ (W.alloc o).heap.size ≤ k) :
    Gm (W3.setCell ⟨gb, 1, none⟩ v2') base gb pre vo v1 v2' v3 l1 (l2 ++ [u]) l3 ∧ Since2 (gmF gb vo v1 v2 v3) (gmF gb vo v1 v2' v3) W (W3.setCell ⟨gb, 1, none⟩ v2') := by
  have hgb := h.is.lt
  have n2' : v2'.ownBlock ≠ some gb := grown_ne hat h.nb.2.2.1 hgb
  have hsub : ∀ k, gmF gb vo v1 v2' v3 k → gmF gb vo v1 v2 v3 k ∨ W.heap.size ≤ k := by
    rintro k (c | c | c | c | c)
    · exact .inl (.inl c)
    · exact .inl (.inr (.inl c))
    · exact .inl (.inr (.inr (.inl c)))
    · rcases hat k c with d | d
      · exact .inl (.inr (.inr (.inr (.inl d))))
      · exact .inr (by rw [World.size_alloc] at d; omega)
    · exact .inl (.inr (.inr (.inr (.inr c))))
  have hbut : But (gmF gb vo v1 v2 v3) W (W3.setCell ⟨gb, 1, none⟩ v2') :=
    ((But.of_below (below_al (Below.refl W.heap.size W) o)).trans (But.of_grown hg) (fun k _ c => .inr (.inr (.inr (.inl c))))).trans (But.setCell W3 gb 1 v2') (fun k _ c => .inl c)
  obtain ⟨hs, ho, hv⟩ := h.out
  refine ⟨⟨⟨hs, (ho.past hg (fun g e c => (h.no g e).2.1 c)).far h.nb.1 _ _, hv.but hbut hsub⟩, (h.is.past hg h.nb.2.2.1).set1 _, (h.o1.past hg (fun g e c => (h.n1 g e).1 c)).far h.nb.2.1 _ _, hown.far n2' _ _, (h.o3.past hg (fun g e c => h.n2 g c e)).far h.nb.2.2.2 _ _, ⟨h.nb.1, h.nb.2.1, n2', h.nb.2.2.2⟩, fun g e => ⟨(h.no g e).1, ?_, (h.no g e).2.2⟩, fun g e => ⟨?_, (h.n1 g e).2⟩, fun g e c => ?_, h.lo⟩, hbut, hsub⟩
  · exact grown_ne hat (h.no g e).2.1 (ho.inside e).2
  · exact grown_ne hat (h.n1 g e).1 (h.o1.inside e).2
  · exact grown_ne hat (fun d => h.n2 g d c) (h.o3.inside c).2 e
/-- The third. -/
theorem Gm.more3 {o : Obj} {v3' : Value} {u : Int} (h : Gm W base gb pre vo v1 v2 v3 l1 l2 l3) (hown : Owns .i64 3 W3 base v3' (l3 ++ [u])) (hg : (W.alloc o).grownBy W3 v3.ownBlock) (hat : ∀ k, v3'.ownBlock = some k → v3.ownBlock = some k ∨ (W.alloc o).heap.size ≤ k) :
    Gm (W3.setCell ⟨gb, 2, none⟩ v3') base gb pre vo v1 v2 v3' l1 l2 (l3 ++ [u]) ∧ Since2 (gmF gb vo v1 v2 v3) (gmF gb vo v1 v2 v3') W (W3.setCell ⟨gb, 2, none⟩ v3') := by
  have hgb := h.is.lt
  have n3' : v3'.ownBlock ≠ some gb := grown_ne hat h.nb.2.2.2 hgb
  have hsub : ∀ k, gmF gb vo v1 v2 v3' k → gmF gb vo v1 v2 v3 k ∨ W.heap.size ≤ k := by
    rintro k (c | c | c | c | c)
    · exact .inl (.inl c)
    · exact .inl (.inr (.inl c))
    · exact .inl (.inr (.inr (.inl c)))
    · exact .inl (.inr (.inr (.inr (.inl c))))
    · rcases hat k c with d | d
      · exact .inl (.inr (.inr (.inr (.inr d))))
      · exact .inr (by rw [World.size_alloc] at d; omega)
  have hbut : But (gmF gb vo v1 v2 v3) W (W3.setCell ⟨gb, 2, none⟩ v3') :=
    ((But.of_below (below_al (Below.refl W.heap.size W) o)).trans (But.of_grown hg) (fun k _ c => .inr (.inr (.inr (.inr c))))).trans (But.setCell W3 gb 2 v3') (fun k _ c => .inl c)
  obtain ⟨hs, ho, hv⟩ := h.out
  refine ⟨⟨⟨hs, (ho.past hg (fun g e c => (h.no g e).2.2 c)).far h.nb.1 _ _, hv.but hbut hsub⟩, (h.is.past hg h.nb.2.2.2).set2 _, (h.o1.past hg (fun g e c => (h.n1 g e).2 c)).far h.nb.2.1 _ _, (h.o2.past hg (fun g e c => h.n2 g e c)).far h.nb.2.2.1 _ _, hown.far n3' _ _, ⟨h.nb.1, h.nb.2.1, h.nb.2.2.1, n3'⟩, fun g e => ⟨(h.no g e).1, (h.no g e).2.1, ?_⟩, fun g e => ⟨(h.n1 g e).1, ?_⟩, fun g e c => ?_, h.lo⟩, hbut, hsub⟩
  · exact grown_ne hat (h.no g e).2.2 (ho.inside e).2
  · exact grown_ne hat (h.n1 g e).2 (h.o1.inside e).2
  · exact grown_ne hat (h.n2 g e) (h.o2.inside e).2 c

end
end Go.Proofs.YtlbfllaaabginaaDoor

/-!   Rows of groups of the call's own: one group begun, one put behind. No function of the program is named here.
-/

namespace Go.Proofs.YtlbfllaaabginaaDoor
open Go.RowKit

def Fo (vo : Value) : Nat → Prop := fun k => vo.ownBlock = some k
/-- A row of groups that have been made. -/
def Gx (W : World) (base : Nat) (pre : List Gp) (vo : Value) : Prop := ∃ hs, OwnsG W base vo hs ∧ GvsOk W (Fo vo) hs pre
section
variable {W W' W3 : World} {base gb : Nat} {pre : List Gp} {vo v1 v2 v3 : Value} {l1 l2 l3 : List Int}
theorem Gx.nil (W : World) (base : Nat) : Gx W base [] (.slice none 0 0) := ⟨[], OwnsG.nil, GvsOk.nil _ _⟩
theorem Gx.later (h : Gx W base pre vo) (hb : Below W.heap.size W W') : Gx W' base pre vo := by
  obtain ⟨hs, h1, h2⟩ := h
  exact ⟨hs, h1.below hb, h2.but (But.of_below hb) (fun _ c => .inl c)⟩
theorem Gx.hi (h : Gx W base pre vo) : ∀ k, Fo vo k → base ≤ k ∧ k < W.heap.size := by
  obtain ⟨hs, h1, _⟩ := h
  exact fun k e => h1.inside e
theorem Gx.len (h : Gx W base pre vo) : ∃ hs, OwnsG W base vo hs ∧ hs.length = pre.length := by
  obtain ⟨hs, h1, h2⟩ := h
  exact ⟨hs, h1, h2.1⟩
/-- A group is begun. -/
theorem Gx.begin (h : Gx W base pre vo) (hb : base ≤ W.heap.size) :
    Gm (W.alloc (.cells #[.slice none 0 0, .slice none 0 0, .slice none 0 0] 78)) base W.heap.size pre vo (.slice none 0 0) (.slice none 0 0) (.slice none 0 0) [] [] [] ∧
    Since2 (Fo vo) (gmF W.heap.size vo (.slice none 0 0) (.slice none 0 0) (.slice none 0 0)) W (W.alloc (.cells #[.slice none 0 0, .slice none 0 0, .slice none 0 0] 78)) := by
  have hlt := h.hi
  have hB := below_al (Below.refl W.heap.size W) (.cells #[.slice none 0 0, .slice none 0 0, .slice none 0 0] 78)
  have hsub : ∀ k, gmF W.heap.size vo (.slice none 0 0) (.slice none 0 0) (.slice none 0 0) k → Fo vo k ∨ W.heap.size ≤ k := by
    rintro k (c | c | c | c | c)
    · exact .inr (by omega)
    · exact .inl c
    · cases c
    · cases c
    · cases c
  obtain ⟨hs, h1, h2⟩ := h
  have hn : ∀ g : Nat, (Value.slice none 0 0).ownBlock ≠ some g := fun g e => by cases e
  have hv : vo.ownBlock ≠ some W.heap.size := fun e => by have := (hlt _ e).2; omega
  exact ⟨⟨⟨hs, h1.below hB, h2.but (But.of_below hB) hsub⟩, Trip.new _ _ _ _ _, Owns.nil, Owns.nil, Owns.nil, ⟨hv, hn _, hn _, hn _⟩, fun g _ => ⟨hn g, hn g, hn g⟩, fun g _ => ⟨hn g, hn g⟩, fun g _ => hn g, hb⟩, But.of_below hB, hsub⟩
/-- And ended. -/
theorem Gm.toX (h : Gm W base gb pre vo v1 v2 v3 l1 l2 l3) : Gx W base pre vo ∧ Since2 (gmF gb vo v1 v2 v3) (Fo vo) W W := by
  obtain ⟨hs, h1, h2⟩ := h.out
  exact ⟨⟨hs, h1, h2.but (But.refl _ _) (fun k c => .inl (.inr (.inl c)))⟩, But.refl _ _, fun k c => .inl (.inr (.inl c))⟩
theorem Owns.rdsF {x : Option Addr} {n c : Nat} {l : List Int} {F : Nat → Prop} (h : Owns .i64 3 W base (.slice x n c) l) (hn : ∀ g, (Value.slice x n c).ownBlock = some g → ¬ F g) : RdsF W F x l := fun h0 => by
  obtain ⟨x', c', e', _, _, hr, hg⟩ := h.form
  injection e' with e1
  subst e1
  obtain ⟨g, rfl, h1, h2⟩ := hg h0
  obtain ⟨b, off, e2, hb, hc⟩ := hr h0
  cases e2
  exact ⟨g, 0, rfl, h2, hn g rfl, hc⟩
theorem Gm.gv {g : Gp} (h : Gm W base gb pre vo v1 v2 v3 l1 l2 l3) (e1 : l1 = Sh.ints g.inn) (e2 : l2 = Sh.ints g.fac) (e3 : l3 = Sh.ints g.out) :
    ∃ x1 c1 x2 c2 x3 c3, v1 = .slice x1 g.inn.length c1 ∧ v2 = .slice x2 g.fac.length c2 ∧ v3 = .slice x3 g.out.length c3 ∧ GvOk W (Fo vo) ⟨.slice x1 g.inn.length c1, .slice x2 g.fac.length c2, .slice x3 g.out.length c3⟩ g := by
  subst e1
  subst e2
  subst e3
  obtain ⟨x1, c1, f1, -, -⟩ := h.o1.form
  obtain ⟨x2, c2, f2, -, -⟩ := h.o2.form
  obtain ⟨x3, c3, f3, -, -⟩ := h.o3.form
  have k1 := h.o1
  have k2 := h.o2
  have k3 := h.o3
  have hno := h.no
  rw [f1] at k1 hno
  rw [f2] at k2 hno
  rw [f3] at k3 hno
  simp only [Sh.ints_len] at f1 f2 f3 k1 k2 k3 hno
  exact ⟨x1, c1, x2, c2, x3, c3, f1, f2, f3, x1, c1, x2, c2, x3, c3, rfl, k1.rdsF (fun g e c => (hno g c).1 e), k2.rdsF (fun g e c => (hno g c).2.1 e), k3.rdsF (fun g e c => (hno g c).2.2 e)⟩
/-- One group is put behind. -/
theorem Gx.push {h : Gv} {g : Gp} {g' n cp : Nat} {hs : List Gv} (hx : OwnsG W base vo hs ∧ GvsOk W (Fo vo) hs pre) (hg : GvOk W (Fo vo) h g) (hown : OwnsG W3 base (.slice (some ⟨g', 0, none⟩) n cp) (hs ++ [h])) (hgr : W.grownBy W3 vo.ownBlock) (hat : vo.ownBlock = some g' ∨ W.heap.size ≤ g') :
    Gx W3 base (pre ++ [g]) (.slice (some ⟨g', 0, none⟩) n cp) ∧ Since2 (Fo vo) (Fo (.slice (some ⟨g', 0, none⟩) n cp)) W W3 := by
  have hbut : But (Fo vo) W W3 := But.of_grown hgr
  have hsub : ∀ k, Fo (.slice (some ⟨g', 0, none⟩) n cp) k → Fo vo k ∨ W.heap.size ≤ k := fun k e => by
    have e' : g' = k := by simpa [Fo, Value.ownBlock] using e
    subst e'
    exact hat
  exact ⟨⟨hs ++ [h], hown, (hx.2.but hbut hsub).more (hg.but hbut hsub)⟩, hbut, hsub⟩
theorem Gx.read (h : Gx W base pre vo) : ∃ x cap, vo = .slice x pre.length cap ∧ ReadsG W W.heap.size x pre := by
  obtain ⟨hs, h1, h2⟩ := h
  obtain ⟨x, cap, e, -, -, hr⟩ := h1.reads h2
  exact ⟨x, cap, e, hr⟩
end

/-- The worlds in which what a group's places are reckoned from stands as it does. -/
structure GrW (sb gb gl j : Nat) (s : Sp) (v1 v2 v3 : Value) (lv : Int) where
  out : World
  cs : SpAt out sb s
  ct : Trip out gb 78 v1 v2 v3
  cl : out.cell? ⟨gl, j, none⟩ = some (.int .i64 lv)

end Go.Proofs.YtlbfllaaabginaaDoor

/-!   What the document's Groups of layer 16 come to (brackenref16): the same; of a twist.
-/

namespace Go.Proofs.YtlbfllaaabginaaDoor
open Go.RowKit Go.Shelf

/-- A group of three lists of one place each, and a block that holds it. -/
def oneO (i : Nat) : Obj := .cells #[.int .i64 (i : Int)] 3
def gpO (n : Nat) : Obj := .cells #[.slice (some ⟨n, 0, none⟩) 1 1, .slice (some ⟨n + 1, 0, none⟩) 1 1, .slice (some ⟨n + 1 + 1, 0, none⟩) 1 1] 78
def onesW (w : World) (i c : Nat) : World := (((w.alloc (oneO i)).alloc (oneO c)).alloc (oneO i)).alloc (gpO w.heap.size)
theorem onesW_size (w : World) (i c : Nat) : (onesW w i c).heap.size = w.heap.size + 1 + 1 + 1 + 1 := by unfold onesW; simp only [World.size_alloc]
theorem onesW_below (w : World) (i c : Nat) : Below w.heap.size w (onesW w i c) := below_al (below_al (below_al (below_al (Below.refl _ _) _) _) _) _
theorem ones_ok (w : World) (i c : Nat) (F : Nat → Prop) (hF : ∀ k, F k → k < w.heap.size) : GvOk (onesW w i c) F ⟨.slice (some ⟨w.heap.size, 0, none⟩) 1 1, .slice (some ⟨w.heap.size + 1, 0, none⟩) 1 1, .slice (some ⟨w.heap.size + 1 + 1, 0, none⟩) 1 1⟩ ⟨[i], [c], [i]⟩ := by
  have q1 := owns_one w .i64 3 (i : Int) 0 (Nat.zero_le _)
  have q2 := owns_one (w.alloc (oneO i)) .i64 3 (c : Int) 0 (Nat.zero_le _)
  have q3 := owns_one ((w.alloc (oneO i)).alloc (oneO c)) .i64 3 (i : Int) 0 (Nat.zero_le _)
  rw [World.size_alloc] at q2
  rw [World.size_alloc, World.size_alloc] at q3
  have a1 := ((q1.alloc (oneO c)).alloc (oneO i)).alloc (gpO w.heap.size)
  have a2 := (q2.alloc (oneO i)).alloc (gpO w.heap.size)
  have a3 := q3.alloc (gpO w.heap.size)
  have far : ∀ {g k : Nat}, w.heap.size ≤ g → (Value.slice (some ⟨g, 0, none⟩) 1 1).ownBlock = some k → ¬ F k := by
    intro g k hg e hk
    have e' : g = k := by simpa [Value.ownBlock] using e
    have := hF k hk
    omega
  exact ⟨_, 1, _, 1, _, 1, rfl, a1.rdsF (fun k e => far (Nat.le_refl _) e), a2.rdsF (fun k e => far (by omega) e), a3.rdsF (fun k e => far (by omega) e)⟩
theorem ones_src (w : World) (i c : Nat) : ∀ j u, (gvc ⟨.slice (some ⟨w.heap.size, 0, none⟩) 1 1, .slice (some ⟨w.heap.size + 1, 0, none⟩) 1 1, .slice (some ⟨w.heap.size + 1 + 1, 0, none⟩) 1 1⟩)[j]? = some u → (onesW w i c).cell? ((⟨w.heap.size + 1 + 1 + 1, 0, none⟩ : Addr).add j) = some u := by
  have := cell_three_new (((w.alloc (oneO i)).alloc (oneO c)).alloc (oneO i)) (.slice (some ⟨w.heap.size, 0, none⟩) 1 1) (.slice (some ⟨w.heap.size + 1, 0, none⟩) 1 1) (.slice (some ⟨w.heap.size + 1 + 1, 0, none⟩) 1 1) 78
  rw [World.size_alloc, World.size_alloc, World.size_alloc] at this
  exact this

/-- What was there is there, where nothing old is written. -/
theorem Since2.block {F' : Nat → Prop} {w w' : World} (h : Since2 (fun _ => False) F' w w') {g : Nat} (hg : g < w.heap.size) : w'.heap[g]? = w.heap[g]? := h.1.block g hg (fun c => c)

end Go.Proofs.YtlbfllaaabginaaDoor

/-!   What the document's Groups of layer 16 come to (brackenref16): the same; of a stage.
-/

namespace Go.Proofs.YtlbfllaaabginaaDoor
open Go.RowKit Go.Shelf

section
variable {W W' W3 : World} {base gb : Nat} {pre : List Gp} {vo v1 v2 v3 : Value} {l1 l2 l3 : List Int}
theorem Gm.later (h : Gm W base gb pre vo v1 v2 v3 l1 l2 l3) (hb : Below W.heap.size W W') : Gm W' base gb pre vo v1 v2 v3 l1 l2 l3 := by
  obtain ⟨hs, h1, h2⟩ := h.out
  exact ⟨⟨hs, h1.below hb, h2.but (But.of_below hb) (fun _ c => .inl c)⟩, h.is.below hb h.is.lt, h.o1.below hb, h.o2.below hb, h.o3.below hb, h.nb, h.no, h.n1, h.n2, h.lo⟩
/-- What lies apart from what is written stays, when a row grows. -/
theorem heap_past {o : Obj} {r : Option Nat} {g : Nat} (hg : (W.alloc o).grownBy W3 r) (hlt : g < W.heap.size) (hn : r ≠ some g) : W3.heap[g]? = W.heap[g]? :=
  (hg.block g (by rw [World.size_alloc]; omega) (fun c => hn c.symm)).trans ((below_al (Below.refl W.heap.size W) o).block g hlt)
end
theorem Owns.slc {w : World} {base n : Nat} {v : Value} {l : List Int} (h : Owns .i64 3 w base v l) (hn : l.length = n) : ∃ x c, v = .slice x n c := by
  obtain ⟨x, c, e, _⟩ := h.form
  exact ⟨x, c, by rw [e, hn]⟩

end Go.Proofs.YtlbfllaaabginaaDoor

/-!   What the document's Table and Groups of layer 16 come to (brackenref16), over every input: the same.
-/

namespace Go.Proofs.YtlbfllaaabginaaDoor
open Go.RowKit Go.Shelf

set_option maxHeartbeats 2000000 in
theorem rtable16_any (p : Int) (x : Option Addr) (n cap : Nat) (xa : List Ax) (inv : Bool) (s : Sp) (w : World) (hx : ReadsA w w.heap.size x xa) (hn : xa.length = n) (hl : n ≤ 8796093022208) :
    Calls Tryd.prog 37 #[.int .u64 p, .slice x n cap, .bool inv, spV s] w (LineRet w (Stp.tabL p xa inv s) (Stp.stepE p xa s)) := by
  subst hn
  obtain ⟨ax, tw, t⟩ := s
  by_cases hE : Stp.stepE p xa ⟨ax, tw, t⟩ = 0
  · have hs := Stp.stepE_zero hE
    rw [hs.tab, hE]
    have hlo := hs.lo
    dsimp only at hlo
    obtain ⟨a, rfl⟩ : ∃ a : Nat, ax = (a : Int) := ⟨ax.toNat, by omega⟩
    cases tw
    · obtain ⟨R, L, M, rfl, h3, hle, hd⟩ := sok_st hs rfl
      have e1 : (List.range (Stp.tabn xa ⟨(a : Int), false, ⟨(R : Int), (L : Int), (M : Int)⟩⟩)).map (Stp.tabN p xa inv ⟨(a : Int), false, ⟨(R : Int), (L : Int), (M : Int)⟩⟩) = (List.range (M * R)).map (Stp.stT p inv R M) := by
        unfold Stp.tabn
        rw [if_neg (by simp)]
        dsimp only
        rw [Int.toNat_natCast, Int.toNat_natCast]
        refine List.map_congr_left fun k _ => ?_
        unfold Stp.tabN
        rw [if_neg (by simp)]
        dsimp only
        rw [Int.toNat_natCast, Int.toNat_natCast]
      rw [e1]
      exact rstage16 p x cap xa inv (a : Int) R L M w hx hl hE h3 hle hd
    · have e1 : (List.range (Stp.tabn xa ⟨(a : Int), true, t⟩)).map (Stp.tabN p xa inv ⟨(a : Int), true, t⟩) = (List.range (gL xa a)).map (Stp.twT p (gN xa a) inv (gL xa a)) := by
        unfold Stp.tabn
        rw [if_pos rfl]
        dsimp only
        rw [Int.toNat_natCast]
        refine List.map_congr_left fun k _ => ?_
        unfold Stp.tabN
        rw [if_pos rfl]
        dsimp only
        rw [Int.toNat_natCast]
      rw [e1]
      exact rtwist16 p x cap xa inv a t w hx hl hE
  · have e : Stp.tabL p xa inv ⟨ax, tw, t⟩ = [] := by unfold Stp.tabL; rw [if_neg hE]
    have hb0 := (Below.refl w.heap.size w).alloc (Nat.le_refl _) (.cells #[.int .i64 ax, .bool tw, .int .i64 t.r, .int .i64 t.l, .int .i64 t.m] 49)
    have HB := Lib.hid hb0
    have HC := Lib.hid (rcheck16_any p x xa.length cap xa ⟨ax, tw, t⟩ _ ((hx.below hb0).more hb0.size) rfl hl)
    rw [e]
    have tt := ne_of_bne hE
    generalize Stp.stepE p xa ⟨ax, tw, t⟩ = er at HC tt ⊢
    unfold spV at HC ⊢
    dsimp only at HC HB ⊢
    clear hx hb0 hE e
    go_enter Tryd.func37, Tryd.ntmps37
    go_wp2_with (go_at_call 70; refine HC.out.mono ?_; rintro e w1 ⟨rfl, b1⟩)
    go_ret2
    exact ⟨_, rfl, Owns.nil, HB.out.trans (b1.mono HB.out.size)⟩

end Go.Proofs.YtlbfllaaabginaaDoor

/-!   The document's Same for groups, on two lists that are one.
-/

namespace Go.Proofs.YtlbfllaaabginaaDoor
open Go.RowKit

end Go.Proofs.YtlbfllaaabginaaDoor
