/-
  Several texts in one: RefSta, RefStep, RefStepTab, RefStepSt, GpMake, GpMakeTwo, RefGroups, RefGroupsSt, RefStepAll, RefStepSame.
-/
import Derived.Test.YtphghklhknadoaaDoorRoots
import Derived.Test.YtphghklhknadoaaDoorStepA
import Derived.Test.YtphghklhknadoaaDoorGrids
import Derived.Test.YtphghklhknadoaaDoorRows2
import Derived.Test.YtphghklhknadoaaDoorStepB
import Derived.Test.YtphghklhknadoaaDoorPairs
import Derived.Deep.RegionWith

/-!   What the document's own stages come to (brackenref04.Stages, Check), and factor.Check, and the example that each law begins with.
-/

namespace Go.Proofs.YtphghklhknadoaaDoor
open Go.RowKit

/-- The stages of a size that may be. -/
def stg (n : Nat) : List Fac.Stg := Fac.stages n (Fac.rads n) 1
theorem stg_len (n : Nat) : (stg n).length = (Fac.rads n).length := Fac.stages_len _ _ _
theorem stg_at {n : Nat} (e : Fac.prod (Fac.rads n) = n) (k : Nat) (h : k < (Fac.rads n).length) : (stg n).take (k + 1) = (stg n).take k ++ [⟨((Fac.rads n)[k].1 : Nat), (Fac.prod ((Fac.rads n).take k) : Nat), (Fac.prod ((Fac.rads n).drop (k + 1)) : Nat)⟩] := by
  rw [List.take_succ_eq_append_getElem (by rw [stg_len]; exact h)]
  congr 2
  unfold stg
  rw [Fac.stages_get n _ k h, Fac.behind e k h]

theorem rstages_no (n : Int) (w : World) (h : Fac.sm n = false) :
    Calls Tryd.prog 48 #[.int .i64 n] w (RetB (.tuple #[.slice none 0 0, .int .i64 4]) w) := by
  have HR := Lib.hid (rradices_no n w h)
  clear h
  go_enter Tryd.func48, Tryd.ntmps48
  go_wp2_with (go_at_call 80; refine HR.out.mono ?_; rintro e w' ⟨rfl, hb⟩)
  go_ret2
  exact ⟨rfl, hb⟩

set_option maxRecDepth 100000 in
set_option maxHeartbeats 2000000 in
theorem rstages_yes (n : Nat) (w : World) (h : Fac.sm (n : Int) = true) :
    Calls Tryd.prog 48 #[.int .i64 (n : Int)] w fun e w' =>
      ∃ v, e = .returned (.tuple #[v, .int .i64 0]) ∧ OwnsS w' w.heap.size v (stg n) ∧ Below w.heap.size w w' := by
  have HR := Lib.hid (rradices_yes n w h)
  obtain ⟨h1, h2, he⟩ := Fac.sm_of h
  rw [Int.toNat_natCast] at he
  have HL := Lib.hid (Fac.rads_len n (by omega) (by omega))
  have HA := Lib.hid (fun k h => stg_at he k h)
  have HF := Lib.hid (stg_len n)
  obtain ⟨L, hL⟩ : ∃ L, L = Fac.rads n := ⟨_, rfl⟩
  obtain ⟨S, hS⟩ : ∃ S, S = stg n := ⟨_, rfl⟩
  rw [← hL] at HR HL HA HF
  rw [← hS] at HA HF ⊢
  obtain ⟨i0, hi, hz0, hz1, hz2⟩ := info_parts info_stg
  clear h he hL hS
  go_enter Tryd.func48, Tryd.ntmps48
  go_wp2_with (go_at_call 80; refine HR.out.mono ?_; rintro e w1 ⟨v, rfl, hO, hB⟩; obtain ⟨x, cap, rfl, hcap, hmx, hrd, _⟩ := hO.form)
  rw [Fac.ints_len] at hcap ⊢
  have HX := Lib.hid hrd
  have HB := Lib.hid hB
  clear hrd hB hO HR
  go_loopw [6, 19] (fun v i wr => ∃ (k : Nat) (o : Value), k ≤ L.length ∧ i = .int .i64 (k : Int) ∧ o = v ∧ OwnsS wr w1.heap.size o (S.take k) ∧ Below w1.heap.size w1 wr) (fun _ i _ => L.length - (intOf i).toNat)
  case atStart => exact ⟨0, _, Nat.zero_le _, rfl, rfl, OwnsS.nil, Below.refl _ _⟩
  case round =>
    obtain ⟨k, o, hk, rfl, rfl, hO, hW⟩ := hrel
    by_cases hlt : k < L.length
    · have hA := HA.out k hlt
      obtain ⟨b, off, rfl, hb, hc⟩ := HX.out (by rw [Fac.ints_len]; omega)
      have c1 := (hW.cell (p := ⟨b, off + k, none⟩) hb).trans (hc k (by rw [Fac.ints_len]; exact hlt))
      rw [Fac.ints_get _ k hlt] at c1
      have h12 := HL.out
      have hR := HX.out.below hW
      have hR1 : Reads .i64 wr w1.heap.size (some ⟨b, off, none⟩) (Fac.ints (L.take k)) := by have := hR.take k; unfold Fac.ints at this ⊢; rwa [List.map_take]
      have hC1 := fun (c nn : Nat) => rproduct_any (L.take k) (by simp; omega) (some ⟨b, off, none⟩) k c (wr.drewN nn) w1.heap.size (hR1.draws nn) (by simp; omega)
      have hR2 : Reads .i64 wr w1.heap.size (some ⟨b, off + (k + 1), none⟩) (Fac.ints (L.drop (k + 1))) := by have := hR.drop (k + 1); unfold Fac.ints at this ⊢; rwa [List.map_drop]
      have hR3 : Reads .i64 wr w1.heap.size (if cap = k + 1 then some ⟨b, off, none⟩ else some ⟨b, off + (k + 1), none⟩) (Fac.ints (L.drop (k + 1))) := by
        by_cases hcp : cap = k + 1
        · rw [List.drop_eq_nil_of_le (by omega)]; exact Reads.nil
        · rw [if_neg hcp]; exact hR2
      have hC2 := fun (c nn : Nat) => rproduct_any (L.drop (k + 1)) (by simp; omega) _ (L.length - (k + 1)) c (wr.drewN nn) w1.heap.size (hR3.draws nn) (by simp)
      obtain ⟨r, hr⟩ : ∃ r, r = L[k].1 := ⟨_, rfl⟩
      obtain ⟨p1, hp1⟩ : ∃ p, p = Fac.prod (L.take k) := ⟨_, rfl⟩
      obtain ⟨p2, hp2⟩ : ∃ p, p = Fac.prod (L.drop (k + 1)) := ⟨_, rfl⟩
      have hs1 : Hid ((S.take k).length ≤ 12) := Lib.hid (by have := HF.out; simp; omega)
      rw [← hr] at c1
      rw [← hp1] at hC1
      rw [← hp2] at hC2
      rw [← hr, ← hp1, ← hp2] at hA
      have H1 := Lib.hid hC1
      have H2 := Lib.hid hC2
      have HA' := Lib.hid hA
      clear hC1 hC2 hR hR1 hR2 hR3 hc hA hr hp1 hp2 HA
      have hmx' : Tryd.prog.follows .mixedOrders = true := by kernel_rfl
      go_wp2
      refine region_late (l1 := [_, _, _, _, _, _, _, _, _, _, _]) o (.slice (some ⟨wr.heap.size, 0, none⟩) 1 1) (.cells #[.int .i64 (r : Int), .int .i64 (p1 : Int), .int .i64 (p2 : Int)] 25) hmx' (by kernel_rfl) (by kernel_rfl) ?_ ?_ ?_
      · intro k; go_simp
      · intro k; go_simp
      simp only [List.cons_append, List.nil_append, Act.put, List.setIfInBounds_toArray, List.set_cons_succ, List.set_cons_zero]
      repeat (go_big_quiet_step (first
        | (go_at_call_of 81 (Value.slice (some ⟨b, off, none⟩) k cap); exact Calls.quiet_of_same ((H1.out _ _).mono fun _ _ ⟨a, b⟩ => ⟨a, b.symm⟩))
        | (go_at_call 81; exact Calls.quiet_of_same ((H2.out _ _).mono fun _ _ ⟨a, b⟩ => ⟨a, b.symm⟩))))
      refine wpQuiet_nil ?_
      refine ⟨by kernel_rfl, fun k => ?_, fun nq => ?_⟩
      · go_simp
      have hsw := hW.size
      go_wp2_with (at_builtin; refine wpList_append_own _ rfl _ _ 47 rfl w1.heap.size 25 i0 (.agg #[.int .i64 0, .int .i64 0, .int .i64 0]) 3 24 Tryd.underlying47 hi hz0 hz1 hz2 rfl (by decide) _ _ _ rfl (World.ownsRow.alloc (w := wr.drewN nq) hO _) ⟨wr.heap.size, 0, none⟩ 1 1 [.int .i64 (r : Int), .int .i64 (p1 : Int), .int .i64 (p2 : Int)] rfl rfl (cell_three_new (wr.drewN nq) _ _ _ _) (by simp [Value.oneCell']) (by have := hs1.out; unfold maxLen; omega) (by have := hs1.out; omega) (by simp; omega) ?_; intro v' w2 hown' hgrow _)
      go_roundw
      case rel =>
        refine ⟨k + 1, _, by omega, by congr 1, rfl, ?_, ?_⟩
        · rw [HA'.out]; exact OwnsS.push hown'
        · exact ((below_draws hW nq).alloc (by show _ ≤ wr.heap.size; exact hW.size) _).grown hgrow (by simp; omega) (fun g e => (World.ownsRow.lt hO g e).1)
      case measure => simp [intOf]; omega
    · have hO' := hO
      rw [List.take_of_length_le (by have := HF.out; omega)] at hO'
      have hBW := Lib.hid (HB.out.trans (hW.mono HB.out.size))
      have HO := Lib.hid (OwnsS.mono hO' HB.out.size)
      clear hO hO' hW HX
      go_wp2
      go_ret2
      exact ⟨_, rfl, HO.out, hBW.out⟩

end Go.Proofs.YtphghklhknadoaaDoor

/-!   What the document's Check and Table of layer 16 come to (brackenref16): the same.
-/

namespace Go.Proofs.YtphghklhknadoaaDoor
open Go.RowKit Go.Shelf

theorem neq_stgs (s t : Fac.Stg) (w : World) : (binOp .neq 25 (stV s) (stV t)).run Tryd.prog w = .ok (.bool (!decide (s = t))) w := by
  obtain ⟨a, b, c⟩ := s
  obtain ⟨d, e, f⟩ := t
  exact neq_stg a b c d e f w

set_option maxRecDepth 100000 in
set_option maxHeartbeats 4000000 in
theorem rcheck16_any (p : Int) (x : Option Addr) (n cap : Nat) (xa : List Ax) (s : Sp) (w : World) (hx : ReadsA w w.heap.size x xa) (hn : xa.length = n) (hl : n ≤ 8796093022208) :
    Calls Tryd.prog 20 #[.int .u64 p, .slice x n cap, spV s] w (RetB (.int .i64 (Stp.stepE p xa s)) w) := by
  subst hn
  obtain ⟨ax, tw, s1, s2, s3⟩ := s
  have hb0 := (Below.refl w.heap.size w).alloc (Nat.le_refl _) (.cells #[.int .i64 ax, .bool tw, .int .i64 s1, .int .i64 s2, .int .i64 s3] 27)
  have HB := Lib.hid hb0
  have HC := Lib.hid (rcheck7_any p x xa.length cap xa _ ((hx.below hb0).more hb0.size) rfl hl)
  have hcs := Stp.stepE_cases p xa ⟨ax, tw, ⟨s1, s2, s3⟩⟩
  generalize Stp.stepE p xa ⟨ax, tw, ⟨s1, s2, s3⟩⟩ = er at hcs ⊢
  unfold spV
  dsimp only at hcs ⊢
  have g1 := run_eqGuard_agg (P := Tryd.prog) (hm := stg_guard)
  by_cases hg : gridE p xa = 0
  · rw [hg] at HC
    have CE : Hid (∀ W, Below (w.alloc (.cells #[.int .i64 ax, .bool tw, .int .i64 s1, .int .i64 s2, .int .i64 s3] 27)).heap.size (w.alloc (.cells #[.int .i64 ax, .bool tw, .int .i64 s1, .int .i64 s2, .int .i64 s3] 27)) W → SpAt W w.heap.size ⟨ax, tw, ⟨s1, s2, s3⟩⟩) :=
      Lib.hid (fun W hW => (SpAt.new w 27 ⟨ax, tw, ⟨s1, s2, s3⟩⟩).then hW)
    by_cases h0 : ax < 0
    · have d1 : decide (ax < 0) = true := decide_eq_true h0
      obtain rfl : er = 1 := by rcases hcs with h | h | h | h | h <;> first | omega | (have := h.1.lo; dsimp only at this; omega) | exact absurd hg h.1
      clear hcs hg hx hb0
      go_enter Tryd.func20, Tryd.ntmps20
      go_wp2_with (go_at_call 47; refine HC.out.mono ?_; rintro e w1 ⟨rfl, b1⟩; obtain ⟨k0, k1, k2, k3, k4⟩ := CE.out w1 b1; have B1 := Lib.hid (HB.out.trans (b1.mono HB.out.size)); clear b1)
      go_ret
      exact ⟨rfl, B1.out⟩
    · have d1 : decide (ax < 0) = false := decide_eq_false h0
      by_cases h1 : (xa.length : Int) ≤ ax
      · have d2 : decide ((xa.length : Int) ≤ ax) = true := decide_eq_true h1
        obtain rfl : er = 1 := by rcases hcs with h | h | h | h | h <;> first | omega | (have := h.1.hi; dsimp only at this; omega) | exact absurd hg h.1
        clear hcs hg hx hb0
        go_enter Tryd.func20, Tryd.ntmps20
        go_wp2_with (go_at_call 47; refine HC.out.mono ?_; rintro e w1 ⟨rfl, b1⟩; obtain ⟨k0, k1, k2, k3, k4⟩ := CE.out w1 b1; have B1 := Lib.hid (HB.out.trans (b1.mono HB.out.size)); clear b1)
        go_ret
        exact ⟨rfl, B1.out⟩
      · have d2 : decide ((xa.length : Int) ≤ ax) = false := decide_eq_false h1
        obtain ⟨a, rfl⟩ : ∃ a : Nat, ax = (a : Int) := ⟨ax.toNat, by omega⟩
        have ha : a < xa.length := by omega
        have hax := gridE_zero hg
        have d2' : decide (xa.length ≤ a) = false := decide_eq_false (by omega)
        cases tw
        · -- a stage
          obtain ⟨b, off, rfl, hb, hc⟩ := hx (by omega)
          obtain ⟨c0, c1⟩ := hc a ha
          rw [hax.int ha] at c0
          rw [Int.toNat_natCast] at hcs
          have HST := Lib.hid (fun W => rstages_yes (gL xa a) W (hax.sm' ha))
          have HE : Hid (stg (gL xa a) = Stp.stgs (gL xa a)) := Lib.hid rfl
          have her : (⟨s1, s2, s3⟩ : Fac.Stg) ∈ Stp.stgs (gL xa a) ∧ er = 0 ∨ (⟨s1, s2, s3⟩ : Fac.Stg) ∉ Stp.stgs (gL xa a) ∧ er = 1 := by
            rcases hcs with h | h | h | h | h
            · exact absurd hg h.1
            · omega
            · exact absurd h.2.2.2.1 (by decide)
            · exact .inr ⟨h.2.2.2.2.1, h.2.2.2.2.2⟩
            · have := h.1.is
              dsimp only at this
              rw [Int.toNat_natCast] at this
              exact .inl ⟨this.elim (fun h => absurd h.1 (by decide)) (fun h => h.2), h.2⟩
          have HER := Lib.hid her
          rw [HE.out] at HST
          generalize Stp.stgs (gL xa a) = ss at HST HER
          obtain ⟨L, hL⟩ : ∃ L, L = gL xa a := ⟨_, rfl⟩
          rw [← hL] at c0 HST
          have C0 := Lib.hid (fun W (hB : Below w.heap.size w W) => (hB.cell (p := ⟨b, off + a * 2, none⟩) hb).trans c0)
          clear hcs hg hx hb0 hax hL hc c0 c1 HE her
          go_enter Tryd.func20, Tryd.ntmps20
          go_wp2_with (first
            | (go_at_call 47; refine HC.out.mono ?_; rintro e w1 ⟨rfl, b1⟩; obtain ⟨k0, k1, k2, k3, k4⟩ := CE.out w1 b1; dsimp only at k0 k1 k2 k3 k4; have S1 := Lib.hid (CE.out w1 b1); have B1 := Lib.hid (HB.out.trans (b1.mono HB.out.size)); have cA := C0.out w1 B1.out; clear b1)
            | (go_at_call 48; refine (HST.out w1).mono ?_; rintro e w2 ⟨v, rfl, hO, b2⟩; obtain ⟨xs, cs, rfl, hc1, hc2, hr⟩ := hO.form; have R2 := Lib.hid hr; have B2 := Lib.hid (below_then B1.out b2); have S2 := Lib.hid (S1.out.then b2); clear hO b2 hr k0 k1 k2 k3 k4 cA))
          have hl2 : ss.length ≤ 9223372036854775807 := by unfold maxLen at hc2; omega
          clear HC CE HST S1 C0
          go_loopw [46] (fun i wr => ∃ k : Nat, k ≤ ss.length ∧ i = .int .i64 (k : Int) ∧ Hid ((∀ j, j < k → ss.getD j noStg ≠ ⟨s1, s2, s3⟩) ∧ Below w2.heap.size w2 wr)) (fun i _ => ss.length - (intOf i).toNat)
          case atStart => exact ⟨0, Nat.zero_le _, rfl, Lib.hid ⟨fun j hj => by omega, Below.refl _ _⟩⟩
          case round =>
            obtain ⟨k, hk, rfl, HI⟩ := hrel
            obtain ⟨k0, k1, k2, k3, k4⟩ := S2.out.then HI.out.2
            dsimp only at k0 k1 k2 k3 k4
            have hsl : w.heap.size < wr.heap.size := (S2.out.then HI.out.2).lt
            by_cases hlt : k < ss.length
            · have hdk : decide (k < ss.length) = true := decide_eq_true hlt
              obtain ⟨b', off', rfl, hb', hc'⟩ := (R2.out.below HI.out.2) (by omega)
              obtain ⟨e1, e2, e3⟩ := hc' k hlt
              obtain ⟨u, hu⟩ : ∃ u, u = ss.getD k noStg := ⟨_, rfl⟩
              rw [← hu] at e1 e2 e3
              obtain ⟨u1, u2, u3⟩ := u
              dsimp only at e1 e2 e3
              have g3 : ∀ W, (binOp .eql 25 (.agg #[.int .i64 u1, .int .i64 u2, .int .i64 u3]) (.agg #[.int .i64 s1, .int .i64 s2, .int .i64 s3])).run Tryd.prog W = .ok (.bool (decide ((⟨u1, u2, u3⟩ : Fac.Stg) = ⟨s1, s2, s3⟩))) W := fun W => eql_stg ⟨u1, u2, u3⟩ ⟨s1, s2, s3⟩ W
              have HBn := Lib.hid (below_al HI.out.2 (.cells #[.int .i64 u1, .int .i64 u2, .int .i64 u3] 25))
              by_cases he : (⟨u1, u2, u3⟩ : Fac.Stg) = ⟨s1, s2, s3⟩
              · rw [decide_eq_true he] at g3
                have HZ : Hid (er = 0) := Lib.hid (by
                  rcases HER.out with h | h
                  · exact h.2
                  · exact absurd (by rw [← he, hu]; exact getD_memS hlt) h.1)
                clear he hu hc' HI
                go_wp2
                go_ret
                exact ⟨by rw [HZ.out]; rfl, below_then B2.out HBn.out⟩
              · rw [decide_eq_false he] at g3
                have HA' : Hid (∀ j, j < k + 1 → ss.getD j noStg ≠ ⟨s1, s2, s3⟩) := Lib.hid (fun j hj => by
                  by_cases e : j = k
                  · rw [e, ← hu]; exact he
                  · exact HI.out.1 j (by omega))
                clear he hu hc' HI
                go_wp2
                go_roundw
                case rel => exact ⟨k + 1, hlt, by go_num, Lib.hid ⟨HA'.out, HBn.out⟩⟩
                case measure => simp [intOf]; omega
            · obtain rfl : k = ss.length := by omega
              have HZ : Hid (er = 1) := Lib.hid (by
                rcases HER.out with h | h
                · obtain ⟨j, hj, e⟩ := mem_getD h.1
                  exact absurd e (HI.out.1 j hj)
                · exact h.2)
              have HBn := Lib.hid (below_then B2.out HI.out.2)
              clear HI
              go_wp2
              go_ret
              exact ⟨by rw [HZ.out]; rfl, HBn.out⟩
        · -- a twist
          have her : er = if (⟨s1, s2, s3⟩ : Fac.Stg) = ⟨0, 0, 0⟩ then 0 else 1 := by
            rcases hcs with h | h | h | h | h
            · exact absurd hg h.1
            · omega
            · have hh : ¬ (⟨s1, s2, s3⟩ : Fac.Stg) = ⟨0, 0, 0⟩ := h.2.2.2.2.1
              rw [if_neg hh]; exact h.2.2.2.2.2
            · exact absurd h.2.2.2.1 (by decide)
            · have := h.1.is
              dsimp only at this
              have hh : (⟨s1, s2, s3⟩ : Fac.Stg) = ⟨0, 0, 0⟩ := this.elim (fun h => h.2) (fun h => absurd h.1 (by decide))
              rw [if_pos hh]; exact h.2
          have g3 : ∀ W, (binOp .neq 25 (.agg #[.int .i64 s1, .int .i64 s2, .int .i64 s3]) (.agg #[.int .i64 0, .int .i64 0, .int .i64 0])).run Tryd.prog W = .ok (.bool (!decide ((⟨s1, s2, s3⟩ : Fac.Stg) = ⟨0, 0, 0⟩))) W := fun W => neq_stgs ⟨s1, s2, s3⟩ ⟨0, 0, 0⟩ W
          by_cases hz : (⟨s1, s2, s3⟩ : Fac.Stg) = ⟨0, 0, 0⟩
          all_goals
            first | rw [if_pos hz] at her | rw [if_neg hz] at her
            first | rw [decide_eq_true hz] at g3 | rw [decide_eq_false hz] at g3
            simp only [Bool.not_true, Bool.not_false] at g3
            subst her
            clear hcs hg hx hb0 hax hz
            go_enter Tryd.func20, Tryd.ntmps20
            go_wp2_with (go_at_call 47; refine HC.out.mono ?_; rintro e w1 ⟨rfl, b1⟩; obtain ⟨k0, k1, k2, k3, k4⟩ := CE.out w1 b1; dsimp only at k0 k1 k2 k3 k4; have B1 := Lib.hid (HB.out.trans (b1.mono HB.out.size)); clear b1)
            go_ret
            exact ⟨rfl, B1.out⟩
  · obtain rfl : er = gridE p xa := by rcases hcs with h | h | h | h | h <;> first | exact h.2 | exact absurd h.1 hg | exact absurd h.1.ax.zero hg
    have t := ne_of_bne hg
    generalize gridE p xa = er at HC t ⊢
    clear hcs hg hx hb0
    go_enter Tryd.func20, Tryd.ntmps20
    go_wp2_with (go_at_call 47; refine HC.out.mono ?_; rintro e w1 ⟨rfl, b1⟩)
    go_ret
    exact ⟨rfl, HB.out.trans (b1.mono HB.out.size)⟩

end Go.Proofs.YtphghklhknadoaaDoor

/-!   What the document's Table of layer 16 comes to (brackenref16): the same.
-/

namespace Go.Proofs.YtphghklhknadoaaDoor
open Go.RowKit Go.Shelf

namespace Stp
theorem pw_ne {p r : Int} (h : Fp.kn p = true) (hr : Fp.red p r ≠ 0) (e : Nat) : Fp.red p (Fp.pw p r e) ≠ 0 := by
  intro e0
  have hz : Fp.eqm p (r ^ e) 0 := by
    have h0 : Fp.red p (Fp.pw p r e) = Fp.pw p r e := by unfold Fp.pw; exact Fp.red_red p _
    rw [h0, Fp.pw_kn _ _ h] at e0
    unfold Fp.eqm
    rw [e0]; simp
  clear e0
  induction e with
  | zero =>
    rw [Int.pow_zero] at hz
    have p1 := Fp.kn_bd h
    unfold Fp.eqm at hz
    rw [Int.emod_eq_of_lt (by omega) (by omega)] at hz
    simp at hz
  | succ j ih =>
    rw [Int.pow_succ] at hz
    rcases Fp.eqm_mul_zero h hz with e1 | e1
    · exact ih e1
    · refine hr ?_
      rw [Fp.red_kn _ h]
      unfold Fp.eqm at e1
      rw [e1]; simp
theorem mul_ne {p a b : Int} (h : Fp.kn p = true) (ha : Fp.red p a ≠ 0) (hb : Fp.red p b ≠ 0) : Fp.red p (Fp.mul p a b) ≠ 0 := by
  intro e0
  have hz : Fp.eqm p (a * b) 0 := by
    rw [Fp.red_kn _ h, Fp.mul_kn _ _ h, Int.emod_emod] at e0
    unfold Fp.eqm
    rw [e0]; simp
  rcases Fp.eqm_mul_zero h hz with e1 | e1
  · refine ha ?_
    rw [Fp.red_kn _ h]
    unfold Fp.eqm at e1
    rw [e1]; simp
  · refine hb ?_
    rw [Fp.red_kn _ h]
    unfold Fp.eqm at e1
    rw [e1]; simp
end Stp
theorem rinv_of (p a : Int) (w : World) (h : Fp.kn p = true) (a0 : 0 ≤ a) (a1 : a < 18446744073709551616) (hz : Fp.red p a ≠ 0) : Calls Tryd.prog 53 #[.int .u64 p, .int .u64 a] w (RetQ (.tuple #[.int .u64 (Fp.inv p a), .int .i64 0]) w) := by
  have := rinv_any p a w a0 a1
  unfold invN invE at this
  rwa [if_neg (by rw [h]; decide), if_neg hz, if_neg (by rw [h]; decide), if_neg hz] at this

set_option maxRecDepth 100000 in
set_option maxHeartbeats 800000 in
theorem rtwist16 (p : Int) (x : Option Addr) (cap : Nat) (xa : List Ax) (inv : Bool) (a : Nat) (t : Fac.Stg) (w : World) (hx : ReadsA w w.heap.size x xa) (hl : xa.length ≤ 8796093022208) (hE : Stp.stepE p xa ⟨(a : Int), true, t⟩ = 0) :
    Calls Tryd.prog 22 #[.int .u64 p, .slice x xa.length cap, .bool inv, spV ⟨(a : Int), true, t⟩] w (LineRet w ((List.range (gL xa a)).map (Stp.twT p (gN xa a) inv (gL xa a))) 0) := by
  have hs := Stp.stepE_zero hE
  have hb0 := (Below.refl w.heap.size w).alloc (Nat.le_refl _) (.cells #[.int .i64 (a : Int), .bool true, .int .i64 t.r, .int .i64 t.l, .int .i64 t.m] 27)
  have HB0 := Lib.hid hb0
  have HC := Lib.hid (rcheck16_any p x xa.length cap xa ⟨(a : Int), true, t⟩ _ ((hx.below hb0).more hb0.size) rfl hl)
  rw [hE] at HC
  have CE : Hid (∀ W, Below (w.alloc (.cells #[.int .i64 (a : Int), .bool true, .int .i64 t.r, .int .i64 t.l, .int .i64 t.m] 27)).heap.size (w.alloc (.cells #[.int .i64 (a : Int), .bool true, .int .i64 t.r, .int .i64 t.l, .int .i64 t.m] 27)) W → SpAt W w.heap.size ⟨(a : Int), true, t⟩) :=
    Lib.hid (fun W hW => (SpAt.new w 27 ⟨(a : Int), true, t⟩).then hW)
  have hhi : a < xa.length := by have := hs.hi; simpa using this
  have hk := hs.ax.kn
  have hkb := Fp.kn_bd hk
  have l1 := hs.ax.L hhi
  have l2 := hs.ax.L_le hhi
  have hd := hs.ax.dvd' hhi
  obtain ⟨b, off, rfl, hb, hc⟩ := hx (by omega)
  obtain ⟨c0, c1⟩ := hc a hhi
  rw [hs.ax.int hhi] at c0
  obtain ⟨neg, hneg⟩ : ∃ neg, neg = (xa.getD a noAx).neg := ⟨_, rfl⟩
  have hneg' : gN xa a = neg := by rw [hneg]; rfl
  rw [← hneg] at c1
  have hT0 : ∀ k, Fp.red p (Stp.tw0 p neg (gL xa a) k) ≠ 0 := fun k => by rw [← hneg']; exact Stp.tw0_ne hs.ax hhi k
  have hLn := Stp.len_ne hs.ax hhi
  rw [hneg'] at hd ⊢
  obtain ⟨L, hL⟩ : ∃ L, L = gL xa a := ⟨_, rfl⟩
  rw [← hL] at c0 hT0 hLn l1 l2 hd ⊢
  have C0 := Lib.hid (fun W (hB : Below w.heap.size w W) => And.intro ((hB.cell (p := ⟨b, off + a * 2, none⟩) hb).trans c0) ((hB.cell (p := ⟨b, off + a * 2 + 1, none⟩) hb).trans c1))
  -- the numbers
  have hgb : ∀ k, 0 ≤ Stp.tw0 p neg L k ∧ Stp.tw0 p neg L k < p := fun k => Stp.tw0_bd hk neg L k
  have hmb : ∀ k, 0 ≤ Fp.mul p (Stp.tw0 p neg L k) (L : Int) ∧ Fp.mul p (Stp.tw0 p neg L k) (L : Int) < p := fun k => ⟨(Fp.mul_bd _ _ _).1, (Fp.mul_bd _ _ _).2.2 hk⟩
  have HM0 := Lib.hid (fun k W => rmul_any p (Stp.tw0 p neg L k) (L : Int) W (hgb k).1 (by have := (hgb k).2; omega) (by omega) (by omega))
  have HI0 := Lib.hid (fun k W => rinv_of p (Fp.mul p (Stp.tw0 p neg L k) (L : Int)) W hk (hmb k).1 (by have := (hmb k).2; omega) (Stp.mul_ne hk (hT0 k) hLn))
  obtain ⟨i0, hi, hz0, hz1, hz2⟩ := info_parts info_u64
  cases neg
  · have HG1 : Hid (∀ k, Stp.tw0 p false L k = 1) := Lib.hid (fun _ => rfl)
    cases inv
    · have HF1 : Hid (∀ k, Stp.twT p false false L k = 1) := Lib.hid (fun _ => rfl)
      generalize Stp.twT p false false L = f at HF1 ⊢
      clear hL hx hs hk hkb hd hc hneg hneg' hT0 hLn hgb hmb HM0 HI0 hE hb0 c0 c1 HG1
      unfold spV at HC ⊢
      dsimp only at HC HB0 CE ⊢
      go_enter Tryd.func22, Tryd.ntmps22
      go_wp2_with (go_at_call 20; refine HC.out.mono ?_; rintro e w1 ⟨rfl, b1⟩; obtain ⟨k0, k1, k2, k3, k4⟩ := CE.out w1 b1; dsimp only at k0 k1 k2 k3 k4; have B1 := Lib.hid (HB0.out.trans (b1.mono HB0.out.size)); obtain ⟨c0, c1⟩ := C0.out w1 B1.out; clear b1)
      have hA0 : Below (w1.heap.size + 1) (w1.alloc (.cells #[.int .i64 (L : Int), .bool false] 51)) (w1.alloc (.cells #[.int .i64 (L : Int), .bool false] 51)) := Below.refl _ _
      have A0 := Lib.hid hA0
      have HBa : Hid (Below w.heap.size w (w1.alloc (.cells #[.int .i64 (L : Int), .bool false] 51))) := Lib.hid (below_al B1.out _)
      have hzz : w.heap.size ≤ w1.heap.size := B1.out.size
      have HZZ := Lib.hid hzz
      clear k0 k1 k2 k3 k4 c0 c1 hA0 HC CE C0 hzz B1
      go_loopw [11, 38] (fun v i wr => ∃ (k : Nat) (o : Value), k ≤ L ∧ i = .int .i64 (k : Int) ∧ o = v ∧ Owns .u64 22 wr (w1.heap.size + 1) o ((List.range k).map f) ∧ Below (w1.heap.size + 1) (w1.alloc (.cells #[.int .i64 (L : Int), .bool false] 51)) wr) (fun _ i _ => L - (intOf i).toNat)
      case atStart => exact ⟨0, _, Nat.zero_le _, rfl, rfl, Owns.nil, A0.out⟩
      case round =>
        clear A0
        obtain ⟨k, o, hk, rfl, rfl, hO, hB⟩ := hrel
        obtain ⟨k0, k1⟩ := box_cells hB
        by_cases hlt : k < L
        · have hdk : decide (k < L) = true := decide_eq_true hlt
          have hS := range_snoc f k
          have hL : ((List.range k).map f).length = k := by simp
          have hfk := HF1.out k
          rw [hfk] at hS
          generalize hxs : (List.range k).map f = xs at hO hS hL
          have HO := Lib.hid hO
          have HB := Lib.hid hB
          have HSS := Lib.hid hS
          have HLn := Lib.hid hL
          have hza : w1.heap.size + 1 ≤ (w1.alloc (.cells #[.int .i64 (L : Int), .bool false] 51)).heap.size := Nat.le_of_eq (World.size_alloc _ _).symm
          have hz3 := Nat.le_trans hza hB.size
          clear hO hB hS hL hxs
          go_wp2_with (at_builtin; refine wpList_append_num rfl _ _ 28 rfl (w1.heap.size + 1) 22 i0 .u64 8 Tryd.underlying28 hi hz0 hz1 hz2 o _ rfl (HO.out.alloc _) ⟨wr.heap.size, 0, none⟩ 1 1 [1] rfl (src_one _ _ _ _) (by omega) (by rw [HLn.out]; unfold maxLen; omega) (by rw [HLn.out]; omega) (by simp; omega) ?_; intro v' w6 hown' hgrow hat)
          go_roundw
          case rel =>
            refine ⟨k + 1, _, hlt, by go_num, rfl, ?_, ?_⟩
            · rw [HSS.out]; exact hown'
            · exact (HB.out.alloc (Nat.le_trans hza HB.out.size) _).grown hgrow (by rw [World.size_alloc]; exact Nat.le_succ_of_le (Nat.le_trans hza HB.out.size)) (fun g e => (HO.out.inside e).1)
          case measure => simp [intOf]; omega
        · obtain rfl : k = L := by omega
          have hR : LineRet w ((List.range k).map f) 0 (.returned (.tuple #[o, .int .i64 0])) wr := ⟨_, rfl, hO.mono (Nat.le_succ_of_le HZZ.out), HBa.out.trans (hB.mono (Nat.le_succ_of_le HZZ.out))⟩
          clear hO hB
          go_wp2
          go_ret2
          exact hR
    · have HI1 : Hid (∀ k, Stp.twT p false true L k = Fp.inv p (Fp.mul p (Stp.tw0 p false L k) (L : Int))) := Lib.hid (fun _ => rfl)
      have HI2 : Hid (∀ k W, Calls Tryd.prog 53 #[.int .u64 p, .int .u64 (Fp.mul p (Stp.tw0 p false L k) (L : Int))] W (RetQ (.tuple #[.int .u64 (Stp.twT p false true L k), .int .i64 0]) W)) := Lib.hid (fun k W => by rw [HI1.out]; exact HI0.out k W)
      obtain ⟨m, hm⟩ : ∃ m : Nat → Int, m = fun k => Fp.mul p (Stp.tw0 p false L k) (L : Int) := ⟨_, rfl⟩
      have HM2 : Hid (∀ k W, Calls Tryd.prog 43 #[.int .u64 p, .int .u64 (Stp.tw0 p false L k), .int .u64 (L : Int)] W fun e w' => e = .returned (.int .u64 (m k)) ∧ W = w') := Lib.hid (by rw [hm]; exact HM0.out)
      have HI3 : Hid (∀ k W, Calls Tryd.prog 53 #[.int .u64 p, .int .u64 (m k)] W (RetQ (.tuple #[.int .u64 (Stp.twT p false true L k), .int .i64 0]) W)) := Lib.hid (by rw [hm]; exact HI2.out)
      clear HM0 HI0 HI1 HI2 hm
      have HM0 := HM2
      have HI0 := HI3
      clear HM2 HI3
      generalize Stp.twT p false true L = f at HI0 ⊢
      clear hL hx hs hk hkb hd hc hneg hneg' hT0 hLn hgb hmb hE hb0 c0 c1
      unfold spV at HC ⊢
      dsimp only at HC HB0 CE ⊢
      go_enter Tryd.func22, Tryd.ntmps22
      go_wp2_with (go_at_call 20; refine HC.out.mono ?_; rintro e w1 ⟨rfl, b1⟩; obtain ⟨k0, k1, k2, k3, k4⟩ := CE.out w1 b1; dsimp only at k0 k1 k2 k3 k4; have B1 := Lib.hid (HB0.out.trans (b1.mono HB0.out.size)); obtain ⟨c0, c1⟩ := C0.out w1 B1.out; clear b1)
      have hA0 : Below (w1.heap.size + 1) (w1.alloc (.cells #[.int .i64 (L : Int), .bool false] 51)) (w1.alloc (.cells #[.int .i64 (L : Int), .bool false] 51)) := Below.refl _ _
      have A0 := Lib.hid hA0
      have HBa : Hid (Below w.heap.size w (w1.alloc (.cells #[.int .i64 (L : Int), .bool false] 51))) := Lib.hid (below_al B1.out _)
      have hzz : w.heap.size ≤ w1.heap.size := B1.out.size
      have HZZ := Lib.hid hzz
      clear k0 k1 k2 k3 k4 c0 c1 hA0 HC CE C0 hzz B1
      go_loopw [11, 38] (fun v i wr => ∃ (k : Nat) (o : Value), k ≤ L ∧ i = .int .i64 (k : Int) ∧ o = v ∧ Owns .u64 22 wr (w1.heap.size + 1) o ((List.range k).map f) ∧ Below (w1.heap.size + 1) (w1.alloc (.cells #[.int .i64 (L : Int), .bool false] 51)) wr) (fun _ i _ => L - (intOf i).toNat)
      case atStart => exact ⟨0, _, Nat.zero_le _, rfl, rfl, Owns.nil, A0.out⟩
      case round =>
        clear A0
        obtain ⟨k, o, hk, rfl, rfl, hO, hB⟩ := hrel
        obtain ⟨k0, k1⟩ := box_cells hB
        by_cases hlt : k < L
        · have hdk : decide (k < L) = true := decide_eq_true hlt
          have hS := range_snoc f k
          have hL : ((List.range k).map f).length = k := by simp
          have HM := Lib.hid (fun W => HM0.out k W)
          have HI := Lib.hid (fun W => HI0.out k W)
          have hgk := HG1.out k
          rw [hgk] at HM
          obtain ⟨mm, hmm⟩ : ∃ mm, mm = m k := ⟨_, rfl⟩
          rw [← hmm] at HM HI
          obtain ⟨z, hz⟩ : ∃ z, z = f k := ⟨_, rfl⟩
          rw [← hz] at hS
          rw [← hz] at HI
          generalize hxs : (List.range k).map f = xs at hO hS hL
          have HO := Lib.hid hO
          have HB := Lib.hid hB
          have HSS := Lib.hid hS
          have HLn := Lib.hid hL
          have hza : w1.heap.size + 1 ≤ (w1.alloc (.cells #[.int .i64 (L : Int), .bool false] 51)).heap.size := Nat.le_of_eq (World.size_alloc _ _).symm
          have hz3 := Nat.le_trans hza hB.size
          clear hO hB hS hL hxs hz hgk hmm
          go_wp2_with (first
            | (go_at_call 43; refine (HM.out wr).mono ?_; rintro e w' ⟨rfl, rfl⟩)
            | (go_at_call 53; refine (HI.out wr).mono ?_; rintro e V2 ⟨rfl, n2, hV2⟩; have O2 : Hid (Owns .u64 22 V2 (w1.heap.size + 1) o xs) := Lib.hid (by rw [hV2]; exact HO.out.draws n2); have B2 : Hid (Below (w1.heap.size + 1) (w1.alloc (.cells #[.int .i64 (L : Int), .bool false] 51)) V2) := Lib.hid (by rw [hV2]; exact below_draws HB.out n2); have hzb2 := Nat.le_trans hza B2.out.size; clear hV2)
            | (at_builtin; refine wpList_append_num rfl _ _ 28 rfl (w1.heap.size + 1) 22 i0 .u64 8 Tryd.underlying28 hi hz0 hz1 hz2 o _ rfl (O2.out.alloc _) ⟨V2.heap.size, 0, none⟩ 1 1 [z] rfl (src_one _ _ _ _) (by omega) (by rw [HLn.out]; unfold maxLen; omega) (by rw [HLn.out]; omega) (by simp; omega) ?_; intro v' w6 hown' hgrow hat))
          go_roundw
          case rel =>
            refine ⟨k + 1, _, hlt, by go_num, rfl, ?_, ?_⟩
            · rw [HSS.out]; exact hown'
            · exact (B2.out.alloc (Nat.le_trans hza B2.out.size) _).grown hgrow (by rw [World.size_alloc]; exact Nat.le_succ_of_le (Nat.le_trans hza B2.out.size)) (fun g e => (O2.out.inside e).1)
          case measure => simp [intOf]; omega
        · obtain rfl : k = L := by omega
          have hR : LineRet w ((List.range k).map f) 0 (.returned (.tuple #[o, .int .i64 0])) wr := ⟨_, rfl, hO.mono (Nat.le_succ_of_le HZZ.out), HBa.out.trans (hB.mono (Nat.le_succ_of_le HZZ.out))⟩
          clear hO hB
          go_wp2
          go_ret2
          exact hR
  · have hod : Fp.od true L = 2 * L := by simp [Fp.od]
    rw [hod] at hd
    have hEr := rootE_of hk (show 1 ≤ 2 * L by omega) (by omega) hd
    have HR := Lib.hid (fun W => rroot_any p ((2 * L : Nat) : Int) W (by omega))
    unfold rootN at HR
    rw [hEr, if_pos rfl, Int.toNat_natCast] at HR
    obtain ⟨r0, r1, r2⟩ := Fp.rt_bd p (2 * L)
    have r2 := r2 hk
    have HP0 : Hid (∀ (k : Nat) W, k < L → Calls Tryd.prog 52 #[.int .u64 p, .int .u64 (Fp.rt p (2 * L)), .int .u64 (k : Int)] W fun e w' => e = .returned (.int .u64 (Stp.tw0 p true L k)) ∧ W = w') := Lib.hid (fun k W hk' => by
      have := rpow_any p (Fp.rt p (2 * L)) (k : Int) W r0 (by omega) (by omega) (by omega)
      rwa [Int.toNat_natCast] at this)
    have hz : (2 : Int) * (L : Int) = ((2 * L : Nat) : Int) := by simp
    generalize Fp.rt p (2 * L) = rt at HR HP0
    obtain ⟨u, hu⟩ : ∃ u : Nat, u = 2 * L := ⟨_, rfl⟩
    rw [← hu] at hz HR
    have hub : u ≤ 8192 := by omega
    cases inv
    · have HF1 : Hid (∀ k, Stp.tw0 p true L k = Stp.twT p true false L k) := Lib.hid (fun _ => rfl)
      generalize Stp.twT p true false L = f at HF1 ⊢
      clear hL hx hs hk hkb hd hc hneg hneg' hT0 hLn hgb hmb HM0 HI0 hE hb0 c0 c1 hu hod hEr r0 r1 r2
      unfold spV at HC ⊢
      dsimp only at HC HB0 CE ⊢
      go_enter Tryd.func22, Tryd.ntmps22
      go_wp2_with (go_at_call 20; refine HC.out.mono ?_; rintro e w1 ⟨rfl, b1⟩; obtain ⟨k0, k1, k2, k3, k4⟩ := CE.out w1 b1; dsimp only at k0 k1 k2 k3 k4; have B1 := Lib.hid (HB0.out.trans (b1.mono HB0.out.size)); obtain ⟨c0, c1⟩ := C0.out w1 B1.out; clear b1)
      have hA0 : Below (w1.heap.size + 1) (w1.alloc (.cells #[.int .i64 (L : Int), .bool true] 51)) (w1.alloc (.cells #[.int .i64 (L : Int), .bool true] 51)) := Below.refl _ _
      have A0 := Lib.hid hA0
      have HBa : Hid (Below w.heap.size w (w1.alloc (.cells #[.int .i64 (L : Int), .bool true] 51))) := Lib.hid (below_al B1.out _)
      have hzz : w.heap.size ≤ w1.heap.size := B1.out.size
      have HZZ := Lib.hid hzz
      clear k0 k1 k2 k3 k4 c0 c1 hA0 HC CE C0 hzz B1
      go_loopw [11, 38] (fun v i wr => ∃ (k : Nat) (o : Value), k ≤ L ∧ i = .int .i64 (k : Int) ∧ o = v ∧ Owns .u64 22 wr (w1.heap.size + 1) o ((List.range k).map f) ∧ Below (w1.heap.size + 1) (w1.alloc (.cells #[.int .i64 (L : Int), .bool true] 51)) wr) (fun _ i _ => L - (intOf i).toNat)
      case atStart => exact ⟨0, _, Nat.zero_le _, rfl, rfl, Owns.nil, A0.out⟩
      case round =>
        clear A0
        obtain ⟨k, o, hk, rfl, rfl, hO, hB⟩ := hrel
        obtain ⟨k0, k1⟩ := box_cells hB
        by_cases hlt : k < L
        · have hdk : decide (k < L) = true := decide_eq_true hlt
          have hS := range_snoc f k
          have hL : ((List.range k).map f).length = k := by simp
          have HP := Lib.hid (fun W => HP0.out k W hlt)
          have hfk := HF1.out k
          rw [hfk] at HP
          obtain ⟨z, hz⟩ : ∃ z, z = f k := ⟨_, rfl⟩
          rw [← hz] at hS
          rw [← hz] at HP
          generalize hxs : (List.range k).map f = xs at hO hS hL
          have HO := Lib.hid hO
          have HB := Lib.hid hB
          have HSS := Lib.hid hS
          have HLn := Lib.hid hL
          have hza : w1.heap.size + 1 ≤ (w1.alloc (.cells #[.int .i64 (L : Int), .bool true] 51)).heap.size := Nat.le_of_eq (World.size_alloc _ _).symm
          have hz3 := Nat.le_trans hza hB.size
          clear hO hB hS hL hxs hz hfk
          go_wp2_with (first
            | (go_at_call 51; refine (HR.out wr).mono ?_; rintro e V1 ⟨rfl, n1, hV1⟩; have O1 : Hid (Owns .u64 22 V1 (w1.heap.size + 1) o xs) := Lib.hid (by rw [hV1]; exact HO.out.draws n1); have B1 : Hid (Below (w1.heap.size + 1) (w1.alloc (.cells #[.int .i64 (L : Int), .bool true] 51)) V1) := Lib.hid (by rw [hV1]; exact below_draws HB.out n1); have k0' := (box_cells B1.out).1; have hzb1 := Nat.le_trans hza B1.out.size; clear hV1)
            | (go_at_call 52; refine (HP.out V1).mono ?_; rintro e w' ⟨rfl, rfl⟩)
            | (at_builtin; refine wpList_append_num rfl _ _ 28 rfl (w1.heap.size + 1) 22 i0 .u64 8 Tryd.underlying28 hi hz0 hz1 hz2 o _ rfl (O1.out.alloc _) ⟨V1.heap.size, 0, none⟩ 1 1 [z] rfl (src_one _ _ _ _) (by omega) (by rw [HLn.out]; unfold maxLen; omega) (by rw [HLn.out]; omega) (by simp; omega) ?_; intro v' w6 hown' hgrow hat))
          go_roundw
          case rel =>
            refine ⟨k + 1, _, hlt, by go_num, rfl, ?_, ?_⟩
            · rw [HSS.out]; exact hown'
            · exact (B1.out.alloc (Nat.le_trans hza B1.out.size) _).grown hgrow (by rw [World.size_alloc]; exact Nat.le_succ_of_le (Nat.le_trans hza B1.out.size)) (fun g e => (O1.out.inside e).1)
          case measure => simp [intOf]; omega
        · obtain rfl : k = L := by omega
          have hR : LineRet w ((List.range k).map f) 0 (.returned (.tuple #[o, .int .i64 0])) wr := ⟨_, rfl, hO.mono (Nat.le_succ_of_le HZZ.out), HBa.out.trans (hB.mono (Nat.le_succ_of_le HZZ.out))⟩
          clear hO hB
          go_wp2
          go_ret2
          exact hR
    · have HI2 : Hid (∀ k W, Calls Tryd.prog 53 #[.int .u64 p, .int .u64 (Fp.mul p (Stp.tw0 p true L k) (L : Int))] W (RetQ (.tuple #[.int .u64 (Stp.twT p true true L k), .int .i64 0]) W)) := Lib.hid (fun k W => HI0.out k W)
      obtain ⟨g, hg⟩ : ∃ g : Nat → Int, g = Stp.tw0 p true L := ⟨_, rfl⟩
      obtain ⟨m, hm⟩ : ∃ m : Nat → Int, m = fun k => Fp.mul p (Stp.tw0 p true L k) (L : Int) := ⟨_, rfl⟩
      have HM2 : Hid (∀ k W, Calls Tryd.prog 43 #[.int .u64 p, .int .u64 (g k), .int .u64 (L : Int)] W fun e w' => e = .returned (.int .u64 (m k)) ∧ W = w') := Lib.hid (by rw [hm, hg]; exact HM0.out)
      have HI3 : Hid (∀ k W, Calls Tryd.prog 53 #[.int .u64 p, .int .u64 (m k)] W (RetQ (.tuple #[.int .u64 (Stp.twT p true true L k), .int .i64 0]) W)) := Lib.hid (by rw [hm]; exact HI2.out)
      rw [← hg] at HP0
      clear HM0 HI0 HI2 hm hg
      have HM0 := HM2
      have HI0 := HI3
      clear HM2 HI3
      generalize Stp.twT p true true L = f at HI0 ⊢
      clear hL hx hs hk hkb hd hc hneg hneg' hT0 hLn hgb hmb hE hb0 c0 c1 hu hod hEr r0 r1 r2
      unfold spV at HC ⊢
      dsimp only at HC HB0 CE ⊢
      go_enter Tryd.func22, Tryd.ntmps22
      go_wp2_with (go_at_call 20; refine HC.out.mono ?_; rintro e w1 ⟨rfl, b1⟩; obtain ⟨k0, k1, k2, k3, k4⟩ := CE.out w1 b1; dsimp only at k0 k1 k2 k3 k4; have B1 := Lib.hid (HB0.out.trans (b1.mono HB0.out.size)); obtain ⟨c0, c1⟩ := C0.out w1 B1.out; clear b1)
      have hA0 : Below (w1.heap.size + 1) (w1.alloc (.cells #[.int .i64 (L : Int), .bool true] 51)) (w1.alloc (.cells #[.int .i64 (L : Int), .bool true] 51)) := Below.refl _ _
      have A0 := Lib.hid hA0
      have HBa : Hid (Below w.heap.size w (w1.alloc (.cells #[.int .i64 (L : Int), .bool true] 51))) := Lib.hid (below_al B1.out _)
      have hzz : w.heap.size ≤ w1.heap.size := B1.out.size
      have HZZ := Lib.hid hzz
      clear k0 k1 k2 k3 k4 c0 c1 hA0 HC CE C0 hzz B1
      go_loopw [11, 38] (fun v i wr => ∃ (k : Nat) (o : Value), k ≤ L ∧ i = .int .i64 (k : Int) ∧ o = v ∧ Owns .u64 22 wr (w1.heap.size + 1) o ((List.range k).map f) ∧ Below (w1.heap.size + 1) (w1.alloc (.cells #[.int .i64 (L : Int), .bool true] 51)) wr) (fun _ i _ => L - (intOf i).toNat)
      case atStart => exact ⟨0, _, Nat.zero_le _, rfl, rfl, Owns.nil, A0.out⟩
      case round =>
        clear A0
        obtain ⟨k, o, hk, rfl, rfl, hO, hB⟩ := hrel
        obtain ⟨k0, k1⟩ := box_cells hB
        by_cases hlt : k < L
        · have hdk : decide (k < L) = true := decide_eq_true hlt
          have hS := range_snoc f k
          have hL : ((List.range k).map f).length = k := by simp
          have HP := Lib.hid (fun W => HP0.out k W hlt)
          have HM := Lib.hid (fun W => HM0.out k W)
          have HI := Lib.hid (fun W => HI0.out k W)
          obtain ⟨mm, hmm⟩ : ∃ mm, mm = m k := ⟨_, rfl⟩
          rw [← hmm] at HM HI
          obtain ⟨gg, hgg⟩ : ∃ gg, gg = g k := ⟨_, rfl⟩
          rw [← hgg] at HM HP
          obtain ⟨z, hz⟩ : ∃ z, z = f k := ⟨_, rfl⟩
          rw [← hz] at hS
          rw [← hz] at HI
          generalize hxs : (List.range k).map f = xs at hO hS hL
          have HO := Lib.hid hO
          have HB := Lib.hid hB
          have HSS := Lib.hid hS
          have HLn := Lib.hid hL
          have hza : w1.heap.size + 1 ≤ (w1.alloc (.cells #[.int .i64 (L : Int), .bool true] 51)).heap.size := Nat.le_of_eq (World.size_alloc _ _).symm
          have hz3 := Nat.le_trans hza hB.size
          clear hO hB hS hL hxs hz hmm hgg
          go_wp2_with (first
            | (go_at_call 51; refine (HR.out wr).mono ?_; rintro e V1 ⟨rfl, n1, hV1⟩; have O1 : Hid (Owns .u64 22 V1 (w1.heap.size + 1) o xs) := Lib.hid (by rw [hV1]; exact HO.out.draws n1); have B1 : Hid (Below (w1.heap.size + 1) (w1.alloc (.cells #[.int .i64 (L : Int), .bool true] 51)) V1) := Lib.hid (by rw [hV1]; exact below_draws HB.out n1); have k0' := (box_cells B1.out).1; have hzb1 := Nat.le_trans hza B1.out.size; clear hV1)
            | (go_at_call 52; refine (HP.out V1).mono ?_; rintro e w' ⟨rfl, rfl⟩)
            | (go_at_call 43; refine (HM.out V1).mono ?_; rintro e w' ⟨rfl, rfl⟩)
            | (go_at_call 53; refine (HI.out V1).mono ?_; rintro e V2 ⟨rfl, n2, hV2⟩; have O2 : Hid (Owns .u64 22 V2 (w1.heap.size + 1) o xs) := Lib.hid (by rw [hV2]; exact O1.out.draws n2); have B2 : Hid (Below (w1.heap.size + 1) (w1.alloc (.cells #[.int .i64 (L : Int), .bool true] 51)) V2) := Lib.hid (by rw [hV2]; exact below_draws B1.out n2); have hzb2 := Nat.le_trans hza B2.out.size; clear hV2)
            | (at_builtin; refine wpList_append_num rfl _ _ 28 rfl (w1.heap.size + 1) 22 i0 .u64 8 Tryd.underlying28 hi hz0 hz1 hz2 o _ rfl (O2.out.alloc _) ⟨V2.heap.size, 0, none⟩ 1 1 [z] rfl (src_one _ _ _ _) (by omega) (by rw [HLn.out]; unfold maxLen; omega) (by rw [HLn.out]; omega) (by simp; omega) ?_; intro v' w6 hown' hgrow hat))
          go_roundw
          case rel =>
            refine ⟨k + 1, _, hlt, by go_num, rfl, ?_, ?_⟩
            · rw [HSS.out]; exact hown'
            · exact (B2.out.alloc (Nat.le_trans hza B2.out.size) _).grown hgrow (by rw [World.size_alloc]; exact Nat.le_succ_of_le (Nat.le_trans hza B2.out.size)) (fun g e => (O2.out.inside e).1)
          case measure => simp [intOf]; omega
        · obtain rfl : k = L := by omega
          have hR : LineRet w ((List.range k).map f) 0 (.returned (.tuple #[o, .int .i64 0])) wr := ⟨_, rfl, hO.mono (Nat.le_succ_of_le HZZ.out), HBa.out.trans (hB.mono (Nat.le_succ_of_le HZZ.out))⟩
          clear hO hB
          go_wp2
          go_ret2
          exact hR

end Go.Proofs.YtphghklhknadoaaDoor

/-!   What the document's Table of layer 16 comes to, of a stage; and over every input.
-/

namespace Go.Proofs.YtphghklhknadoaaDoor
open Go.RowKit Go.Shelf

set_option maxRecDepth 100000 in
set_option maxHeartbeats 8000000 in
theorem rstage16 (p : Int) (x : Option Addr) (cap : Nat) (xa : List Ax) (inv : Bool) (ax : Int) (R L M : Nat) (w : World) (hx : ReadsA w w.heap.size x xa) (hl : xa.length ≤ 8796093022208) (hE : Stp.stepE p xa ⟨ax, false, ⟨(R : Int), (L : Int), (M : Int)⟩⟩ = 0) (h3 : Stp.Three (gL xa ax.toNat) R L M) (hle : R * M ≤ 4096) (hd : R * M ∣ p.toNat - 1) :
    Calls Tryd.prog 22 #[.int .u64 p, .slice x xa.length cap, .bool inv, spV ⟨ax, false, ⟨(R : Int), (L : Int), (M : Int)⟩⟩] w (LineRet w ((List.range (M * R)).map (Stp.stT p inv R M)) 0) := by
  have hs := Stp.stepE_zero hE
  have hk := hs.ax.kn
  have hkb := Fp.kn_bd hk
  have hb0 := (Below.refl w.heap.size w).alloc (Nat.le_refl _) (.cells #[.int .i64 ax, .bool false, .int .i64 (R : Int), .int .i64 (L : Int), .int .i64 (M : Int)] 27)
  have HB0 := Lib.hid hb0
  have HC := Lib.hid (rcheck16_any p x xa.length cap xa ⟨ax, false, ⟨(R : Int), (L : Int), (M : Int)⟩⟩ _ ((hx.below hb0).more hb0.size) rfl hl)
  rw [hE] at HC
  have CE : Hid (∀ W, Below (w.alloc (.cells #[.int .i64 ax, .bool false, .int .i64 (R : Int), .int .i64 (L : Int), .int .i64 (M : Int)] 27)).heap.size (w.alloc (.cells #[.int .i64 ax, .bool false, .int .i64 (R : Int), .int .i64 (L : Int), .int .i64 (M : Int)] 27)) W → SpAt W w.heap.size ⟨ax, false, ⟨(R : Int), (L : Int), (M : Int)⟩⟩) :=
    Lib.hid (fun W hW => (SpAt.new w 27 ⟨ax, false, ⟨(R : Int), (L : Int), (M : Int)⟩⟩).then hW)
  have r2 := h3.r2
  have m1 := h3.m1
  have hN1 : 1 ≤ R * M := Nat.mul_pos (by omega) m1
  have hdm := emod_of_dvd hk hd
  have hEr := rootE_of hk hN1 (by omega) hdm
  have HR := Lib.hid (fun W => rroot_any p ((R * M : Nat) : Int) W (by omega))
  unfold rootN at HR
  rw [hEr, if_pos rfl, Int.toNat_natCast] at HR
  obtain ⟨r0, r1, r3⟩ := Fp.rt_bd p (R * M)
  have r3 := r3 hk
  have hrn := Fp.rt_ne hk hd hN1
  have HX : Hid (∀ a u, a < M → u < R → a * u < R * M) := Lib.hid (fun a u ha hu => by
    have h1 : a * u ≤ a * R := Nat.mul_le_mul_left a (by omega)
    have h2 : (a + 1) * R ≤ M * R := Nat.mul_le_mul_right R ha
    rw [Nat.succ_mul, Nat.mul_comm M R] at h2
    omega)
  have HQ : Hid (∀ a, a < M → a * R + R ≤ R * M) := Lib.hid (fun a ha => by
    have h2 : (a + 1) * R ≤ M * R := Nat.mul_le_mul_right R ha
    rw [Nat.succ_mul, Nat.mul_comm M R] at h2
    exact h2)
  have HP : Hid (∀ a u, a < M → u < R → ∀ W, Calls Tryd.prog 52 #[.int .u64 p, .int .u64 (Fp.rt p (R * M)), .int .u64 ((a * u : Nat) : Int)] W fun e w' => e = .returned (.int .u64 (Fp.pw p (Fp.rt p (R * M)) (a * u))) ∧ W = w') := Lib.hid (fun a u ha hu W => by
    have hb := HX.out a u ha hu
    have := rpow_any p (Fp.rt p (R * M)) ((a * u : Nat) : Int) W r0 (by omega) (by omega) (by omega)
    rwa [Int.toNat_natCast] at this)
  have HI0 : Hid (∀ a u, a < M → u < R → ∀ W, Calls Tryd.prog 53 #[.int .u64 p, .int .u64 (Fp.pw p (Fp.rt p (R * M)) (a * u))] W (RetQ (.tuple #[.int .u64 (Fp.inv p (Fp.pw p (Fp.rt p (R * M)) (a * u))), .int .i64 0]) W)) := Lib.hid (fun a u _ _ W => by
    have hb := Fp.pw_bd p (Fp.rt p (R * M)) (a * u)
    exact rinv_of p _ W hk hb.1 (by omega) (Stp.pw_ne hk hrn _))
  have hsT : ∀ a u, u < R → Stp.stT p inv R M (a * R + u) = if inv then Fp.inv p (Fp.pw p (Fp.rt p (R * M)) (a * u)) else Fp.pw p (Fp.rt p (R * M)) (a * u) := fun a u hu => by
    unfold Stp.stT
    rw [Nat.mul_comm a R, Nat.mul_add_div (by omega), Nat.mul_add_mod, Nat.div_eq_of_lt hu, Nat.mod_eq_of_lt hu, Nat.add_zero]
  obtain ⟨i0, hi, hz0, hz1, hz2⟩ := info_parts info_u64
  have hz : (R : Int) * (M : Int) = ((R * M : Nat) : Int) := by simp
  have rb : R ≤ R * M := Nat.le_mul_of_pos_right R m1
  have mb : M ≤ R * M := Nat.le_mul_of_pos_left M (by omega)
  obtain ⟨N, hN⟩ : ∃ N : Nat, N = R * M := ⟨_, rfl⟩
  cases inv
  · have HFF : Hid (∀ a u, u < R → Fp.pw p (Fp.rt p (R * M)) (a * u) = Stp.stT p false R M (a * R + u)) := Lib.hid (fun a u hu => by rw [hsT a u hu]; rfl)
    rw [← hN] at HR HP HX HQ HFF hz hle rb mb
    generalize Fp.rt p N = rt at HR HP HFF
    generalize Stp.stT p false R M = f at HFF ⊢
    generalize Fp.pw p rt = pf at HP HFF
    unfold spV at HC ⊢
    dsimp only at HC HB0 CE ⊢
    clear hx hE h3 hd hs hk hkb hb0 hdm hEr r0 r1 r3 hrn HI0 hsT hN m1 hN1
    go_enter Tryd.func22, Tryd.ntmps22
    go_wp2_with (first
      | (go_at_call 20; refine HC.out.mono ?_; rintro e w1 ⟨rfl, b1⟩; obtain ⟨k0, k1, k2, k3, k4⟩ := CE.out w1 b1; dsimp only at k0 k1 k2 k3 k4; have S1 := Lib.hid (CE.out w1 b1); have B1 := Lib.hid (HB0.out.trans (b1.mono HB0.out.size)); clear b1)
      | (go_at_call 51; refine (HR.out w1).mono ?_; rintro e w2 ⟨rfl, n1, hw2⟩; have b2 : Below w1.heap.size w1 w2 := (hw2 ▸ draws_below _ _ n1); have S2 := Lib.hid (S1.out.then b2); have B2' := Lib.hid (below_then B1.out b2); clear k0 k1 k2 k3 k4 hw2 b2; obtain ⟨k0, k1, k2, k3, k4⟩ := S2.out; dsimp only at k0 k1 k2 k3 k4))
    clear k0 k1 k2 k3 k4 HR HC CE S1 B1
    go_loopw [11, 89] (fun v i wr => ∃ (a : Nat) (o : Value), a ≤ M ∧ i = .int .i64 (a : Int) ∧ o = v ∧ Owns .u64 22 wr w2.heap.size o ((List.range (a * R)).map f) ∧ Below w2.heap.size w2 wr) (fun _ i _ => M - (intOf i).toNat)
    case atStart => exact ⟨0, _, Nat.zero_le _, rfl, rfl, by rw [Nat.zero_mul]; exact Owns.nil, Below.refl _ _⟩
    case round =>
      obtain ⟨a, o, ha, rfl, rfl, hO, hB⟩ := hrel
      obtain ⟨k0, k1, k2, k3, k4⟩ := S2.out.then hB
      dsimp only at k0 k1 k2 k3 k4
      by_cases hlt : a < M
      · have hda : decide (a < M) = true := decide_eq_true hlt
        have HO := Lib.hid hO
        have HB := Lib.hid hB
        have haR := HQ.out a hlt
        clear hO hB
        go_wp2
        clear k0 k1 k2 k3 k4
        go_loopw [11, 95] (fun v i wi => ∃ (u : Nat) (o' : Value), u ≤ R ∧ i = .int .i64 (u : Int) ∧ o' = v ∧ Owns .u64 22 wi w2.heap.size o' ((List.range (a * R + u)).map f) ∧ Below w2.heap.size w2 wi) (fun _ i _ => R - (intOf i).toNat)
        case atStart => exact ⟨0, _, Nat.zero_le _, rfl, rfl, HO.out, HB.out⟩
        case round =>
          clear HO HB
          obtain ⟨u, o', hu, rfl, rfl, hO, hB⟩ := hrel
          obtain ⟨k0, k1, k2, k3, k4⟩ := S2.out.then hB
          dsimp only at k0 k1 k2 k3 k4
          by_cases hlu : u < R
          · have hdu : decide (u < R) = true := decide_eq_true hlu
            have he := HX.out a u hlt hlu
            have hza : (a : Int) * (u : Int) = ((a * u : Nat) : Int) := by simp
            have hS := range_snoc f (a * R + u)
            have hL : ((List.range (a * R + u)).map f).length = a * R + u := by simp
            have HPk := Lib.hid (fun W => HP.out a u hlt hlu W)
            obtain ⟨z, hz'⟩ : ∃ z, z = f (a * R + u) := ⟨_, rfl⟩
            rw [HFF.out a u hlu, ← hz'] at HPk
            rw [← hz'] at hS
            obtain ⟨e, hee⟩ : ∃ e : Nat, e = a * u := ⟨_, rfl⟩
            rw [← hee] at he hza HPk
            obtain ⟨q, hq⟩ : ∃ q : Nat, q = a * R + u := ⟨_, rfl⟩
            have hqb : q < N := by omega
            have HQ1 : Hid (a * R + (u + 1) = q + 1) := Lib.hid (by omega)
            rw [← hq] at hS hL hO
            generalize hxs : (List.range q).map f = xs at hO hS hL
            have HO := Lib.hid hO
            have HB := Lib.hid hB
            have HSS := Lib.hid hS
            have HLn := Lib.hid hL
            have hsw : w2.heap.size ≤ wr.heap.size := hB.size
            clear hO hB hS hL hxs hee hq hz'
            go_wp2_with (first
            | (go_at_call 52; refine (HPk.out wr).mono ?_; rintro e' w' ⟨rfl, rfl⟩)
            | (at_builtin; refine wpList_append_num rfl _ _ 28 rfl w2.heap.size 22 i0 .u64 8 Tryd.underlying28 hi hz0 hz1 hz2 o' _ rfl (HO.out.alloc _) ⟨wr.heap.size, 0, none⟩ 1 1 [z] rfl (src_one _ _ _ _) (by omega) (by rw [HLn.out]; unfold maxLen; omega) (by rw [HLn.out]; omega) (by simp; omega) ?_; intro v' w6 hown' hgrow hat))
            go_roundw
            case rel =>
              refine ⟨u + 1, _, hlu, by go_num, rfl, ?_, ?_⟩
              · rw [HQ1.out, HSS.out]; exact hown'
              · exact (HB.out.alloc HB.out.size _).grown hgrow (by rw [World.size_alloc]; exact Nat.le_succ_of_le HB.out.size) (fun g e => (HO.out.inside e).1)
            case measure => simp [intOf]; omega
          · obtain rfl : u = R := by omega
            have hS : a * u + u = (a + 1) * u := by rw [Nat.succ_mul]
            have HO := Lib.hid hO
            have HB := Lib.hid hB
            have HSS := Lib.hid hS
            clear hO hB hS
            go_wp2
            go_roundw
            case rel => exact ⟨a + 1, _, hlt, by go_num, rfl, by rw [← HSS.out]; exact HO.out, HB.out⟩
            case measure => simp [intOf]; omega
      · obtain rfl : a = M := by omega
        have hR : LineRet w ((List.range (a * R)).map f) 0 (.returned (.tuple #[o, .int .i64 0])) wr := ⟨_, rfl, hO.mono B2'.out.size, below_then B2'.out hB⟩
        clear hO hB
        go_wp2
        go_ret2
        exact hR
  · have HI : Hid (∀ a u, a < M → u < R → ∀ W, Calls Tryd.prog 53 #[.int .u64 p, .int .u64 (Fp.pw p (Fp.rt p (R * M)) (a * u))] W (RetQ (.tuple #[.int .u64 (Stp.stT p true R M (a * R + u)), .int .i64 0]) W)) := Lib.hid (fun a u ha hu W => by rw [hsT a u hu, if_pos rfl]; exact HI0.out a u ha hu W)
    rw [← hN] at HR HP HX HQ HI hz hle rb mb
    generalize Fp.rt p N = rt at HR HP HI
    generalize Stp.stT p true R M = f at HI ⊢
    generalize Fp.pw p rt = pf at HP HI
    unfold spV at HC ⊢
    dsimp only at HC HB0 CE ⊢
    clear hx hE h3 hd hs hk hkb hb0 hdm hEr r0 r1 r3 hrn HI0 hsT hN m1 hN1
    go_enter Tryd.func22, Tryd.ntmps22
    go_wp2_with (first
      | (go_at_call 20; refine HC.out.mono ?_; rintro e w1 ⟨rfl, b1⟩; obtain ⟨k0, k1, k2, k3, k4⟩ := CE.out w1 b1; dsimp only at k0 k1 k2 k3 k4; have S1 := Lib.hid (CE.out w1 b1); have B1 := Lib.hid (HB0.out.trans (b1.mono HB0.out.size)); clear b1)
      | (go_at_call 51; refine (HR.out w1).mono ?_; rintro e w2 ⟨rfl, n1, hw2⟩; have b2 : Below w1.heap.size w1 w2 := (hw2 ▸ draws_below _ _ n1); have S2 := Lib.hid (S1.out.then b2); have B2' := Lib.hid (below_then B1.out b2); clear k0 k1 k2 k3 k4 hw2 b2; obtain ⟨k0, k1, k2, k3, k4⟩ := S2.out; dsimp only at k0 k1 k2 k3 k4))
    clear k0 k1 k2 k3 k4 HR HC CE S1 B1
    go_loopw [11, 89] (fun v i wr => ∃ (a : Nat) (o : Value), a ≤ M ∧ i = .int .i64 (a : Int) ∧ o = v ∧ Owns .u64 22 wr w2.heap.size o ((List.range (a * R)).map f) ∧ Below w2.heap.size w2 wr) (fun _ i _ => M - (intOf i).toNat)
    case atStart => exact ⟨0, _, Nat.zero_le _, rfl, rfl, by rw [Nat.zero_mul]; exact Owns.nil, Below.refl _ _⟩
    case round =>
      obtain ⟨a, o, ha, rfl, rfl, hO, hB⟩ := hrel
      obtain ⟨k0, k1, k2, k3, k4⟩ := S2.out.then hB
      dsimp only at k0 k1 k2 k3 k4
      by_cases hlt : a < M
      · have hda : decide (a < M) = true := decide_eq_true hlt
        have HO := Lib.hid hO
        have HB := Lib.hid hB
        have haR := HQ.out a hlt
        clear hO hB
        go_wp2
        clear k0 k1 k2 k3 k4
        go_loopw [11, 95] (fun v i wi => ∃ (u : Nat) (o' : Value), u ≤ R ∧ i = .int .i64 (u : Int) ∧ o' = v ∧ Owns .u64 22 wi w2.heap.size o' ((List.range (a * R + u)).map f) ∧ Below w2.heap.size w2 wi) (fun _ i _ => R - (intOf i).toNat)
        case atStart => exact ⟨0, _, Nat.zero_le _, rfl, rfl, HO.out, HB.out⟩
        case round =>
          clear HO HB
          obtain ⟨u, o', hu, rfl, rfl, hO, hB⟩ := hrel
          obtain ⟨k0, k1, k2, k3, k4⟩ := S2.out.then hB
          dsimp only at k0 k1 k2 k3 k4
          by_cases hlu : u < R
          · have hdu : decide (u < R) = true := decide_eq_true hlu
            have he := HX.out a u hlt hlu
            have hza : (a : Int) * (u : Int) = ((a * u : Nat) : Int) := by simp
            have hS := range_snoc f (a * R + u)
            have hL : ((List.range (a * R + u)).map f).length = a * R + u := by simp
            have HPk := Lib.hid (fun W => HP.out a u hlt hlu W)
            have HIk := Lib.hid (fun W => HI.out a u hlt hlu W)
            obtain ⟨pz, hpz⟩ : ∃ pz, pz = pf (a * u) := ⟨_, rfl⟩
            rw [← hpz] at HPk HIk
            obtain ⟨z, hz'⟩ : ∃ z, z = f (a * R + u) := ⟨_, rfl⟩
            rw [← hz'] at HIk hS
            obtain ⟨e, hee⟩ : ∃ e : Nat, e = a * u := ⟨_, rfl⟩
            rw [← hee] at he hza HPk
            obtain ⟨q, hq⟩ : ∃ q : Nat, q = a * R + u := ⟨_, rfl⟩
            have hqb : q < N := by omega
            have HQ1 : Hid (a * R + (u + 1) = q + 1) := Lib.hid (by omega)
            rw [← hq] at hS hL hO
            generalize hxs : (List.range q).map f = xs at hO hS hL
            have HO := Lib.hid hO
            have HB := Lib.hid hB
            have HSS := Lib.hid hS
            have HLn := Lib.hid hL
            have hsw : w2.heap.size ≤ wr.heap.size := hB.size
            clear hO hB hS hL hxs hee hq hpz hz'
            go_wp2_with (first
            | (go_at_call 52; refine (HPk.out wr).mono ?_; rintro e' w' ⟨rfl, rfl⟩)
            | (go_at_call 53; refine (HIk.out wr).mono ?_; rintro e' V2 ⟨rfl, n2, hV2⟩; have O2 : Hid (Owns .u64 22 V2 w2.heap.size o' xs) := Lib.hid (by rw [hV2]; exact HO.out.draws n2); have B2 : Hid (Below w2.heap.size w2 V2) := Lib.hid (by rw [hV2]; exact below_draws HB.out n2); have hzb2 := B2.out.size; clear hV2)
            | (at_builtin; refine wpList_append_num rfl _ _ 28 rfl w2.heap.size 22 i0 .u64 8 Tryd.underlying28 hi hz0 hz1 hz2 o' _ rfl (O2.out.alloc _) ⟨V2.heap.size, 0, none⟩ 1 1 [z] rfl (src_one _ _ _ _) (by omega) (by rw [HLn.out]; unfold maxLen; omega) (by rw [HLn.out]; omega) (by simp; omega) ?_; intro v' w6 hown' hgrow hat))
            go_roundw
            case rel =>
              refine ⟨u + 1, _, hlu, by go_num, rfl, ?_, ?_⟩
              · rw [HQ1.out, HSS.out]; exact hown'
              · exact (B2.out.alloc B2.out.size _).grown hgrow (by rw [World.size_alloc]; exact Nat.le_succ_of_le B2.out.size) (fun g e => (O2.out.inside e).1)
            case measure => simp [intOf]; omega
          · obtain rfl : u = R := by omega
            have hS : a * u + u = (a + 1) * u := by rw [Nat.succ_mul]
            have HO := Lib.hid hO
            have HB := Lib.hid hB
            have HSS := Lib.hid hS
            clear hO hB hS
            go_wp2
            go_roundw
            case rel => exact ⟨a + 1, _, hlt, by go_num, rfl, by rw [← HSS.out]; exact HO.out, HB.out⟩
            case measure => simp [intOf]; omega
      · obtain rfl : a = M := by omega
        have hR : LineRet w ((List.range (a * R)).map f) 0 (.returned (.tuple #[o, .int .i64 0])) wr := ⟨_, rfl, hO.mono B2'.out.size, below_then B2'.out hB⟩
        clear hO hB
        go_wp2
        go_ret2
        exact hR

end Go.Proofs.YtphghklhknadoaaDoor

/-!   A group that is being made, place by place, beside a row of groups of the call's own. No function of the program is named here.
-/

namespace Go.Proofs.YtphghklhknadoaaDoor
open Go.RowKit

/-- The blocks that are being written. -/
def gmF (gb : Nat) (vo v1 v2 v3 : Value) : Nat → Prop := fun k => k = gb ∨ vo.ownBlock = some k ∨ v1.ownBlock = some k ∨ v2.ownBlock = some k ∨ v3.ownBlock = some k

/-- A row of groups that have been made, and one that is being made in block gb. -/
structure Gm (W : World) (base gb : Nat) (pre : List Gp) (vo v1 v2 v3 : Value) (l1 l2 l3 : List Int) : Prop where
  out : ∃ hs, OwnsG W base vo hs ∧ GvsOk W (gmF gb vo v1 v2 v3) hs pre
  is : Trip W gb 60 v1 v2 v3
  o1 : Owns .i64 3 W base v1 l1
  o2 : Owns .i64 3 W base v2 l2
  o3 : Owns .i64 3 W base v3 l3
  nb : vo.ownBlock ≠ some gb ∧ v1.ownBlock ≠ some gb ∧ v2.ownBlock ≠ some gb ∧ v3.ownBlock ≠ some gb
  no : ∀ g, vo.ownBlock = some g → v1.ownBlock ≠ some g ∧ v2.ownBlock ≠ some g ∧ v3.ownBlock ≠ some g
  n1 : ∀ g, v1.ownBlock = some g → v2.ownBlock ≠ some g ∧ v3.ownBlock ≠ some g
  n2 : ∀ g, v2.ownBlock = some g → v3.ownBlock ≠ some g
  lo : base ≤ gb

/-- What has become of a world: only the blocks F, or new ones, are written, and only these are being written now. -/
def Since2 (F F' : Nat → Prop) (w w' : World) : Prop := But F w w' ∧ ∀ k, F' k → F k ∨ w.heap.size ≤ k
theorem Since2.refl (F : Nat → Prop) (w : World) : Since2 F F w w := ⟨But.refl _ _, fun _ h => .inl h⟩
theorem Since2.trans {F F' F'' : Nat → Prop} {w w' w'' : World} (h : Since2 F F' w w') (h' : Since2 F' F'' w' w'') : Since2 F F'' w w'' := by
  have hs := h.1.size
  refine ⟨h.1.trans h'.1 (fun k hk hf => (h.2 k hf).elim id (fun c => by omega)), fun k hk => ?_⟩
  rcases h'.2 k hk with c | c
  · exact h.2 k c
  · exact .inr (by omega)
theorem Since2.below {F : Nat → Prop} {w w' : World} (h : Below w.heap.size w w') : Since2 F F w w' := ⟨But.of_below h, fun _ c => .inl c⟩

section
variable {W W3 : World} {base gb : Nat} {pre : List Gp} {vo v1 v2 v3 : Value} {l1 l2 l3 : List Int}
theorem Gm.hi (h : Gm W base gb pre vo v1 v2 v3 l1 l2 l3) : ∀ k, gmF gb vo v1 v2 v3 k → base ≤ k ∧ k < W.heap.size := by
  obtain ⟨hs, ho, _⟩ := h.out
  rintro k (rfl | e | e | e | e)
  · exact ⟨h.lo, h.is.lt⟩
  · exact ho.inside e
  · exact h.o1.inside e
  · exact h.o2.inside e
  · exact h.o3.inside e
theorem OwnsG.far {v : Value} {hs : List Gv} (h : OwnsG W base v hs) {A : Nat} (hA : v.ownBlock ≠ some A) (o : Nat) (u : Value) : OwnsG (W.setCell ⟨A, o, none⟩ u) base v hs :=
  h.still fun g e => Below.heap_setCell _ _ _ _ (fun c => hA (by rw [e, c]))
theorem Owns.far {v : Value} {l : List Int} (h : Owns .i64 3 W base v l) {A : Nat} (hA : v.ownBlock ≠ some A) (o : Nat) (u : Value) : Owns .i64 3 (W.setCell ⟨A, o, none⟩ u) base v l :=
  h.still fun g e => Below.heap_setCell _ _ _ _ (fun c => hA (by rw [e, c]))
/-- A row that did not grow, behind an allocation and what makes another one grow. -/
theorem Owns.past {o : Obj} {r : Option Nat} {v : Value} {l : List Int} (h : Owns .i64 3 W base v l) (hg : (W.alloc o).grownBy W3 r) (hn : ∀ g, v.ownBlock = some g → r ≠ some g) : Owns .i64 3 W3 base v l :=
  h.still fun g e => (hg.block g (by have := (h.inside e).2; rw [World.size_alloc]; omega) (fun c => hn g e c.symm)).trans ((below_al (Below.refl W.heap.size W) o).block g (h.inside e).2)
theorem OwnsG.past {o : Obj} {r : Option Nat} {v : Value} {hs : List Gv} (h : OwnsG W base v hs) (hg : (W.alloc o).grownBy W3 r) (hn : ∀ g, v.ownBlock = some g → r ≠ some g) : OwnsG W3 base v hs :=
  h.still fun g e => (hg.block g (by have := (h.inside e).2; rw [World.size_alloc]; omega) (fun c => hn g e c.symm)).trans ((below_al (Below.refl W.heap.size W) o).block g (h.inside e).2)
theorem Trip.past {o : Obj} {r : Option Nat} {g : Nat} {t : TypeId} {a b c : Value} (h : Trip W g t a b c) (hg : (W.alloc o).grownBy W3 r) (hn : r ≠ some g) : Trip W3 g t a b c :=
  h.keep ((hg.block g (by have := h.lt; rw [World.size_alloc]; omega) (fun c => hn c.symm)).trans ((below_al (Below.refl W.heap.size W) o).block g h.lt))
theorem Trip.set0 {g : Nat} {t : TypeId} {a b c : Value} (h : Trip W g t a b c) (u : Value) : Trip (W.setCell ⟨g, 0, none⟩ u) g t u b c := ⟨heap_setCell_same _ g 0 _ t u h.is⟩
theorem Trip.set1 {g : Nat} {t : TypeId} {a b c : Value} (h : Trip W g t a b c) (u : Value) : Trip (W.setCell ⟨g, 1, none⟩ u) g t a u c := ⟨heap_setCell_same _ g 1 _ t u h.is⟩
theorem Trip.set2 {g : Nat} {t : TypeId} {a b c : Value} (h : Trip W g t a b c) (u : Value) : Trip (W.setCell ⟨g, 2, none⟩ u) g t a b u := ⟨heap_setCell_same _ g 2 _ t u h.is⟩
/-- Where a row lies that has grown. -/
theorem grown_ne {o : Obj} {v v' : Value} {g : Nat} (hat : ∀ k, v'.ownBlock = some k → v.ownBlock = some k ∨ (W.alloc o).heap.size ≤ k) (hn : v.ownBlock ≠ some g) (hlt : g < W.heap.size) : v'.ownBlock ≠ some g := fun e => by
  rcases hat g e with c | c
  · exact hn c
  · rw [World.size_alloc] at c; omega

/-- The first list grows by one. -/
theorem Gm.more1 {o : Obj} {v1' : Value} {u : Int} (h : Gm W base gb pre vo v1 v2 v3 l1 l2 l3) (hown : Owns .i64 3 W3 base v1' (l1 ++ [u])) (hg : (W.alloc o).grownBy W3 v1.ownBlock) (hat : ∀ k, v1'.ownBlock = some k → v1.ownBlock = some k ∨ (W.alloc o).heap.size ≤ k) :
    Gm (W3.setCell ⟨gb, 0, none⟩ v1') base gb pre vo v1' v2 v3 (l1 ++ [u]) l2 l3 ∧ Since2 (gmF gb vo v1 v2 v3) (gmF gb vo v1' v2 v3) W (W3.setCell ⟨gb, 0, none⟩ v1') := by
  have hgb := h.is.lt
  have n1' : v1'.ownBlock ≠ some gb := grown_ne hat h.nb.2.1 hgb
  have hsub : ∀ k, gmF gb vo v1' v2 v3 k → gmF gb vo v1 v2 v3 k ∨ W.heap.size ≤ k := by
    rintro k (c | c | c | c | c)
    · exact .inl (.inl c)
    · exact .inl (.inr (.inl c))
    · rcases hat k c with d | d
      · exact .inl (.inr (.inr (.inl d)))
      · exact .inr (by rw [World.size_alloc] at d; omega)
    · exact .inl (.inr (.inr (.inr (.inl c))))
    · exact .inl (.inr (.inr (.inr (.inr c))))
  have hbut : But (gmF gb vo v1 v2 v3) W (W3.setCell ⟨gb, 0, none⟩ v1') :=
    ((But.of_below (below_al (Below.refl W.heap.size W) o)).trans (But.of_grown hg) (fun k _ c => .inr (.inr (.inl c)))).trans (But.setCell W3 gb 0 v1') (fun k _ c => .inl c)
  obtain ⟨hs, ho, hv⟩ := h.out
  refine ⟨⟨⟨hs, (ho.past hg (fun g e c => (h.no g e).1 c)).far h.nb.1 _ _, hv.but hbut hsub⟩, (h.is.past hg h.nb.2.1).set0 _, hown.far n1' _ _, (h.o2.past hg (fun g e c => (h.n1 g c).1 e)).far h.nb.2.2.1 _ _, (h.o3.past hg (fun g e c => (h.n1 g c).2 e)).far h.nb.2.2.2 _ _, ⟨h.nb.1, n1', h.nb.2.2.1, h.nb.2.2.2⟩, fun g e => ⟨?_, (h.no g e).2⟩, fun g e => ?_, h.n2, h.lo⟩, hbut, hsub⟩
  · exact grown_ne hat (h.no g e).1 (ho.inside e).2
  · exact ⟨fun c => grown_ne hat (fun d => (h.n1 g d).1 c) (h.o2.inside c).2 e, fun c => grown_ne hat (fun d => (h.n1 g d).2 c) (h.o3.inside c).2 e⟩
/-- The second. -/
theorem Gm.more2 {o : Obj} {v2' : Value} {u : Int} (h : Gm W base gb pre vo v1 v2 v3 l1 l2 l3) (hown : Owns .i64 3 W3 base v2' (l2 ++ [u])) (hg : (W.alloc o).grownBy W3 v2.ownBlock) (hat : ∀ k, v2'.ownBlock = some k → v2.ownBlock = some k ∨ (W.alloc o).heap.size ≤ k) :
    Gm (W3.setCell ⟨gb, 1, none⟩ v2') base gb pre vo v1 v2' v3 l1 (l2 ++ [u]) l3 ∧ Since2 (gmF gb vo v1 v2 v3) (gmF gb vo v1 v2' v3) W (W3.setCell ⟨gb, 1, none⟩ v2') := by
  have hgb := h.is.lt
  have n2' : v2'.ownBlock ≠ some gb := grown_ne hat h.nb.2.2.1 hgb
  have hsub : ∀ k, gmF gb vo v1 v2' v3 k → gmF gb vo v1 v2 v3 k ∨ W.heap.size ≤ k := by
    rintro k (c | c | c | c | c)
    · exact .inl (.inl c)
    · exact .inl (.inr (.inl c))
    · exact .inl (.inr (.inr (.inl c)))
    · rcases hat k c with d | d
      · exact .inl (.inr (.inr (.inr (.inl d))))
      · exact .inr (by rw [World.size_alloc] at d; omega)
    · exact .inl (.inr (.inr (.inr (.inr c))))
  have hbut : But (gmF gb vo v1 v2 v3) W (W3.setCell ⟨gb, 1, none⟩ v2') :=
    ((But.of_below (below_al (Below.refl W.heap.size W) o)).trans (But.of_grown hg) (fun k _ c => .inr (.inr (.inr (.inl c))))).trans (But.setCell W3 gb 1 v2') (fun k _ c => .inl c)
  obtain ⟨hs, ho, hv⟩ := h.out
  refine ⟨⟨⟨hs, (ho.past hg (fun g e c => (h.no g e).2.1 c)).far h.nb.1 _ _, hv.but hbut hsub⟩, (h.is.past hg h.nb.2.2.1).set1 _, (h.o1.past hg (fun g e c => (h.n1 g e).1 c)).far h.nb.2.1 _ _, hown.far n2' _ _, (h.o3.past hg (fun g e c => h.n2 g c e)).far h.nb.2.2.2 _ _, ⟨h.nb.1, h.nb.2.1, n2', h.nb.2.2.2⟩, fun g e => ⟨(h.no g e).1, ?_, (h.no g e).2.2⟩, fun g e => ⟨?_, (h.n1 g e).2⟩, fun g e c => ?_, h.lo⟩, hbut, hsub⟩
  · exact grown_ne hat (h.no g e).2.1 (ho.inside e).2
  · exact grown_ne hat (h.n1 g e).1 (h.o1.inside e).2
  · exact grown_ne hat (fun d => h.n2 g d c) (h.o3.inside c).2 e
/-- The third. -/
theorem Gm.more3 {o : Obj} {v3' : Value} {u : Int} (h : Gm W base gb pre vo v1 v2 v3 l1 l2 l3) (hown : Owns .i64 3 W3 base v3' (l3 ++ [u])) (hg : (W.alloc o).grownBy W3 v3.ownBlock) (hat : ∀ k, v3'.ownBlock = some k → v3.ownBlock = some k ∨ (W.alloc o).heap.size ≤ k) :
    Gm (W3.setCell ⟨gb, 2, none⟩ v3') base gb pre vo v1 v2 v3' l1 l2 (l3 ++ [u]) ∧ Since2 (gmF gb vo v1 v2 v3) (gmF gb vo v1 v2 v3') W (W3.setCell ⟨gb, 2, none⟩ v3') := by
  have hgb := h.is.lt
  have n3' : v3'.ownBlock ≠ some gb := grown_ne hat h.nb.2.2.2 hgb
  have hsub : ∀ k, gmF gb vo v1 v2 v3' k → gmF gb vo v1 v2 v3 k ∨ W.heap.size ≤ k := by
    rintro k (c | c | c | c | c)
    · exact .inl (.inl c)
    · exact .inl (.inr (.inl c))
    · exact .inl (.inr (.inr (.inl c)))
    · exact .inl (.inr (.inr (.inr (.inl c))))
    · rcases hat k c with d | d
      · exact .inl (.inr (.inr (.inr (.inr d))))
      · exact .inr (by rw [World.size_alloc] at d; omega)
  have hbut : But (gmF gb vo v1 v2 v3) W (W3.setCell ⟨gb, 2, none⟩ v3') :=
    ((But.of_below (below_al (Below.refl W.heap.size W) o)).trans (But.of_grown hg) (fun k _ c => .inr (.inr (.inr (.inr c))))).trans (But.setCell W3 gb 2 v3') (fun k _ c => .inl c)
  obtain ⟨hs, ho, hv⟩ := h.out
  refine ⟨⟨⟨hs, (ho.past hg (fun g e c => (h.no g e).2.2 c)).far h.nb.1 _ _, hv.but hbut hsub⟩, (h.is.past hg h.nb.2.2.2).set2 _, (h.o1.past hg (fun g e c => (h.n1 g e).2 c)).far h.nb.2.1 _ _, (h.o2.past hg (fun g e c => h.n2 g e c)).far h.nb.2.2.1 _ _, hown.far n3' _ _, ⟨h.nb.1, h.nb.2.1, h.nb.2.2.1, n3'⟩, fun g e => ⟨(h.no g e).1, (h.no g e).2.1, ?_⟩, fun g e => ⟨(h.n1 g e).1, ?_⟩, fun g e c => ?_, h.lo⟩, hbut, hsub⟩
  · exact grown_ne hat (h.no g e).2.2 (ho.inside e).2
  · exact grown_ne hat (h.n1 g e).2 (h.o1.inside e).2
  · exact grown_ne hat (h.n2 g e) (h.o2.inside e).2 c

end
end Go.Proofs.YtphghklhknadoaaDoor

/-!   Rows of groups of the call's own: one group begun, one put behind. No function of the program is named here.
-/

namespace Go.Proofs.YtphghklhknadoaaDoor
open Go.RowKit

def Fo (vo : Value) : Nat → Prop := fun k => vo.ownBlock = some k
/-- A row of groups that have been made. -/
def Gx (W : World) (base : Nat) (pre : List Gp) (vo : Value) : Prop := ∃ hs, OwnsG W base vo hs ∧ GvsOk W (Fo vo) hs pre
section
variable {W W' W3 : World} {base gb : Nat} {pre : List Gp} {vo v1 v2 v3 : Value} {l1 l2 l3 : List Int}
theorem Gx.nil (W : World) (base : Nat) : Gx W base [] (.slice none 0 0) := ⟨[], OwnsG.nil, GvsOk.nil _ _⟩
theorem Gx.later (h : Gx W base pre vo) (hb : Below W.heap.size W W') : Gx W' base pre vo := by
  obtain ⟨hs, h1, h2⟩ := h
  exact ⟨hs, h1.below hb, h2.but (But.of_below hb) (fun _ c => .inl c)⟩
theorem Gx.hi (h : Gx W base pre vo) : ∀ k, Fo vo k → base ≤ k ∧ k < W.heap.size := by
  obtain ⟨hs, h1, _⟩ := h
  exact fun k e => h1.inside e
theorem Gx.len (h : Gx W base pre vo) : ∃ hs, OwnsG W base vo hs ∧ hs.length = pre.length := by
  obtain ⟨hs, h1, h2⟩ := h
  exact ⟨hs, h1, h2.1⟩
/-- A group is begun. -/
theorem Gx.begin (h : Gx W base pre vo) (hb : base ≤ W.heap.size) :
    Gm (W.alloc (.cells #[.slice none 0 0, .slice none 0 0, .slice none 0 0] 60)) base W.heap.size pre vo (.slice none 0 0) (.slice none 0 0) (.slice none 0 0) [] [] [] ∧
    Since2 (Fo vo) (gmF W.heap.size vo (.slice none 0 0) (.slice none 0 0) (.slice none 0 0)) W (W.alloc (.cells #[.slice none 0 0, .slice none 0 0, .slice none 0 0] 60)) := by
  have hlt := h.hi
  have hB := below_al (Below.refl W.heap.size W) (.cells #[.slice none 0 0, .slice none 0 0, .slice none 0 0] 60)
  have hsub : ∀ k, gmF W.heap.size vo (.slice none 0 0) (.slice none 0 0) (.slice none 0 0) k → Fo vo k ∨ W.heap.size ≤ k := by
    rintro k (c | c | c | c | c)
    · exact .inr (by omega)
    · exact .inl c
    · cases c
    · cases c
    · cases c
  obtain ⟨hs, h1, h2⟩ := h
  have hn : ∀ g : Nat, (Value.slice none 0 0).ownBlock ≠ some g := fun g e => by cases e
  have hv : vo.ownBlock ≠ some W.heap.size := fun e => by have := (hlt _ e).2; omega
  exact ⟨⟨⟨hs, h1.below hB, h2.but (But.of_below hB) hsub⟩, Trip.new _ _ _ _ _, Owns.nil, Owns.nil, Owns.nil, ⟨hv, hn _, hn _, hn _⟩, fun g _ => ⟨hn g, hn g, hn g⟩, fun g _ => ⟨hn g, hn g⟩, fun g _ => hn g, hb⟩, But.of_below hB, hsub⟩
/-- And ended. -/
theorem Gm.toX (h : Gm W base gb pre vo v1 v2 v3 l1 l2 l3) : Gx W base pre vo ∧ Since2 (gmF gb vo v1 v2 v3) (Fo vo) W W := by
  obtain ⟨hs, h1, h2⟩ := h.out
  exact ⟨⟨hs, h1, h2.but (But.refl _ _) (fun k c => .inl (.inr (.inl c)))⟩, But.refl _ _, fun k c => .inl (.inr (.inl c))⟩
theorem Owns.rdsF {x : Option Addr} {n c : Nat} {l : List Int} {F : Nat → Prop} (h : Owns .i64 3 W base (.slice x n c) l) (hn : ∀ g, (Value.slice x n c).ownBlock = some g → ¬ F g) : RdsF W F x l := fun h0 => by
  obtain ⟨x', c', e', _, _, hr, hg⟩ := h.form
  injection e' with e1
  subst e1
  obtain ⟨g, rfl, h1, h2⟩ := hg h0
  obtain ⟨b, off, e2, hb, hc⟩ := hr h0
  cases e2
  exact ⟨g, 0, rfl, h2, hn g rfl, hc⟩
theorem Gm.gv {g : Gp} (h : Gm W base gb pre vo v1 v2 v3 l1 l2 l3) (e1 : l1 = Sh.ints g.inn) (e2 : l2 = Sh.ints g.fac) (e3 : l3 = Sh.ints g.out) :
    ∃ x1 c1 x2 c2 x3 c3, v1 = .slice x1 g.inn.length c1 ∧ v2 = .slice x2 g.fac.length c2 ∧ v3 = .slice x3 g.out.length c3 ∧ GvOk W (Fo vo) ⟨.slice x1 g.inn.length c1, .slice x2 g.fac.length c2, .slice x3 g.out.length c3⟩ g := by
  subst e1
  subst e2
  subst e3
  obtain ⟨x1, c1, f1, -, -⟩ := h.o1.form
  obtain ⟨x2, c2, f2, -, -⟩ := h.o2.form
  obtain ⟨x3, c3, f3, -, -⟩ := h.o3.form
  have k1 := h.o1
  have k2 := h.o2
  have k3 := h.o3
  have hno := h.no
  rw [f1] at k1 hno
  rw [f2] at k2 hno
  rw [f3] at k3 hno
  simp only [Sh.ints_len] at f1 f2 f3 k1 k2 k3 hno
  exact ⟨x1, c1, x2, c2, x3, c3, f1, f2, f3, x1, c1, x2, c2, x3, c3, rfl, k1.rdsF (fun g e c => (hno g c).1 e), k2.rdsF (fun g e c => (hno g c).2.1 e), k3.rdsF (fun g e c => (hno g c).2.2 e)⟩
/-- One group is put behind. -/
theorem Gx.push {h : Gv} {g : Gp} {g' n cp : Nat} {hs : List Gv} (hx : OwnsG W base vo hs ∧ GvsOk W (Fo vo) hs pre) (hg : GvOk W (Fo vo) h g) (hown : OwnsG W3 base (.slice (some ⟨g', 0, none⟩) n cp) (hs ++ [h])) (hgr : W.grownBy W3 vo.ownBlock) (hat : vo.ownBlock = some g' ∨ W.heap.size ≤ g') :
    Gx W3 base (pre ++ [g]) (.slice (some ⟨g', 0, none⟩) n cp) ∧ Since2 (Fo vo) (Fo (.slice (some ⟨g', 0, none⟩) n cp)) W W3 := by
  have hbut : But (Fo vo) W W3 := But.of_grown hgr
  have hsub : ∀ k, Fo (.slice (some ⟨g', 0, none⟩) n cp) k → Fo vo k ∨ W.heap.size ≤ k := fun k e => by
    have e' : g' = k := by simpa [Fo, Value.ownBlock] using e
    subst e'
    exact hat
  exact ⟨⟨hs ++ [h], hown, (hx.2.but hbut hsub).more (hg.but hbut hsub)⟩, hbut, hsub⟩
theorem Gx.read (h : Gx W base pre vo) : ∃ x cap, vo = .slice x pre.length cap ∧ ReadsG W W.heap.size x pre := by
  obtain ⟨hs, h1, h2⟩ := h
  obtain ⟨x, cap, e, -, -, hr⟩ := h1.reads h2
  exact ⟨x, cap, e, hr⟩
end

/-- The worlds in which what a group's places are reckoned from stands as it does. -/
structure GrW (sb gb gl j : Nat) (s : Sp) (v1 v2 v3 : Value) (lv : Int) where
  out : World
  cs : SpAt out sb s
  ct : Trip out gb 60 v1 v2 v3
  cl : out.cell? ⟨gl, j, none⟩ = some (.int .i64 lv)

end Go.Proofs.YtphghklhknadoaaDoor

/-!   What the document's Groups of layer 16 come to (brackenref16): the same; of a twist.
-/

namespace Go.Proofs.YtphghklhknadoaaDoor
open Go.RowKit Go.Shelf

/-- A group of three lists of one place each, and a block that holds it. -/
def oneO (i : Nat) : Obj := .cells #[.int .i64 (i : Int)] 3
def gpO (n : Nat) : Obj := .cells #[.slice (some ⟨n, 0, none⟩) 1 1, .slice (some ⟨n + 1, 0, none⟩) 1 1, .slice (some ⟨n + 1 + 1, 0, none⟩) 1 1] 60
def onesW (w : World) (i c : Nat) : World := (((w.alloc (oneO i)).alloc (oneO c)).alloc (oneO i)).alloc (gpO w.heap.size)
theorem onesW_size (w : World) (i c : Nat) : (onesW w i c).heap.size = w.heap.size + 1 + 1 + 1 + 1 := by unfold onesW; simp only [World.size_alloc]
theorem onesW_below (w : World) (i c : Nat) : Below w.heap.size w (onesW w i c) := below_al (below_al (below_al (below_al (Below.refl _ _) _) _) _) _
theorem ones_ok (w : World) (i c : Nat) (F : Nat → Prop) (hF : ∀ k, F k → k < w.heap.size) : GvOk (onesW w i c) F ⟨.slice (some ⟨w.heap.size, 0, none⟩) 1 1, .slice (some ⟨w.heap.size + 1, 0, none⟩) 1 1, .slice (some ⟨w.heap.size + 1 + 1, 0, none⟩) 1 1⟩ ⟨[i], [c], [i]⟩ := by
  have q1 := owns_one w .i64 3 (i : Int) 0 (Nat.zero_le _)
  have q2 := owns_one (w.alloc (oneO i)) .i64 3 (c : Int) 0 (Nat.zero_le _)
  have q3 := owns_one ((w.alloc (oneO i)).alloc (oneO c)) .i64 3 (i : Int) 0 (Nat.zero_le _)
  rw [World.size_alloc] at q2
  rw [World.size_alloc, World.size_alloc] at q3
  have a1 := ((q1.alloc (oneO c)).alloc (oneO i)).alloc (gpO w.heap.size)
  have a2 := (q2.alloc (oneO i)).alloc (gpO w.heap.size)
  have a3 := q3.alloc (gpO w.heap.size)
  have far : ∀ {g k : Nat}, w.heap.size ≤ g → (Value.slice (some ⟨g, 0, none⟩) 1 1).ownBlock = some k → ¬ F k := by
    intro g k hg e hk
    have e' : g = k := by simpa [Value.ownBlock] using e
    have := hF k hk
    omega
  exact ⟨_, 1, _, 1, _, 1, rfl, a1.rdsF (fun k e => far (Nat.le_refl _) e), a2.rdsF (fun k e => far (by omega) e), a3.rdsF (fun k e => far (by omega) e)⟩
theorem ones_src (w : World) (i c : Nat) : ∀ j u, (gvc ⟨.slice (some ⟨w.heap.size, 0, none⟩) 1 1, .slice (some ⟨w.heap.size + 1, 0, none⟩) 1 1, .slice (some ⟨w.heap.size + 1 + 1, 0, none⟩) 1 1⟩)[j]? = some u → (onesW w i c).cell? ((⟨w.heap.size + 1 + 1 + 1, 0, none⟩ : Addr).add j) = some u := by
  have := cell_three_new (((w.alloc (oneO i)).alloc (oneO c)).alloc (oneO i)) (.slice (some ⟨w.heap.size, 0, none⟩) 1 1) (.slice (some ⟨w.heap.size + 1, 0, none⟩) 1 1) (.slice (some ⟨w.heap.size + 1 + 1, 0, none⟩) 1 1) 60
  rw [World.size_alloc, World.size_alloc, World.size_alloc] at this
  exact this

/-- What was there is there, where nothing old is written. -/
theorem Since2.block {F' : Nat → Prop} {w w' : World} (h : Since2 (fun _ => False) F' w w') {g : Nat} (hg : g < w.heap.size) : w'.heap[g]? = w.heap[g]? := h.1.block g hg (fun c => c)

set_option maxRecDepth 100000 in
set_option maxHeartbeats 4000000 in
theorem rgroups_tw (p : Int) (x : Option Addr) (cap : Nat) (xa : List Ax) (a : Nat) (t : Fac.Stg) (w : World) (hx : ReadsA w w.heap.size x xa) (hl : xa.length ≤ 8796093022208) (hE : Stp.stepE p xa ⟨(a : Int), true, t⟩ = 0) :
    Calls Tryd.prog 24 #[.int .u64 p, .slice x xa.length cap, spV ⟨(a : Int), true, t⟩] w (GrpRet w (Stp.gpT (gI xa a) (gL xa a) (Sh.prod (szs xa))) 0) := by
  have hs := Stp.stepE_zero hE
  have hb0 := (Below.refl w.heap.size w).alloc (Nat.le_refl _) (.cells #[.int .i64 (a : Int), .bool true, .int .i64 t.r, .int .i64 t.l, .int .i64 t.m] 27)
  have HB0 := Lib.hid hb0
  have HC := Lib.hid (rcheck16_any p x xa.length cap xa ⟨(a : Int), true, t⟩ _ ((hx.below hb0).more hb0.size) rfl hl)
  rw [hE] at HC
  have CE : Hid (∀ W, Below (w.alloc (.cells #[.int .i64 (a : Int), .bool true, .int .i64 t.r, .int .i64 t.l, .int .i64 t.m] 27)).heap.size (w.alloc (.cells #[.int .i64 (a : Int), .bool true, .int .i64 t.r, .int .i64 t.l, .int .i64 t.m] 27)) W → SpAt W w.heap.size ⟨(a : Int), true, t⟩) :=
    Lib.hid (fun W hW => (SpAt.new w 27 ⟨(a : Int), true, t⟩).then hW)
  have hax := hs.ax
  have hhi : a < xa.length := by have := hs.hi; simpa using this
  have HD := Lib.hid (fun W (hB : Below w.heap.size w W) => rdims_any x xa.length cap xa W ((hx.below hB).more hB.size) rfl hl)
  have HDL := Lib.hid (dims_len xa)
  have hn1 : 1 ≤ xa.length := by omega
  have HAll := Lib.hid (fun W y c hr => rall_ok (szs xa) hax.ok y xa.length c W W.heap.size hr (szs_len xa))
  have HIs : Hid (dims xa = Sh.ints (szs xa)) := Lib.hid hax.is
  have HCo := Lib.hid (fun (i : Nat) (hi : i < Sh.prod (szs xa)) W y c (hc : xa.length ≤ c) hr => rcoord_ok (szs xa) hax.ok i hi y xa.length c W hr (szs_len xa) hc)
  have HCl : Hid (∀ i, (Sh.ints (Sh.crd (szs xa) i)).length = xa.length) := Lib.hid (fun i => by rw [Sh.ints_len, Sh.crd_len, szs_len])
  have HCg : Hid (∀ i, (Sh.ints (Sh.crd (szs xa) i)).getD a 0 = ((i / gI xa a % gL xa a : Nat) : Int)) := Lib.hid (fun i => by rw [ints_getD, Sh.crd_get _ _ _ (by rw [szs_len]; exact hhi)]; rfl)
  have HGn : Hid (∀ i, Stp.gpT (gI xa a) (gL xa a) (i + 1) = Stp.gpT (gI xa a) (gL xa a) i ++ [⟨[i], [i / gI xa a % gL xa a], [i]⟩]) := Lib.hid (fun i => Stp.gpT_next _ _ i)
  have HG0 : Hid (Stp.gpT (gI xa a) (gL xa a) 0 = []) := Lib.hid rfl
  have HGl : Hid (∀ i, (Stp.gpT (gI xa a) (gL xa a) i).length = i) := Lib.hid (fun i => Stp.gpT_len _ _ i)
  have hP := hax.ok.le
  obtain ⟨P, hPd⟩ : ∃ P, P = Sh.prod (szs xa) := ⟨_, rfl⟩
  rw [← hPd] at HCo HAll hP ⊢
  generalize Stp.gpT (gI xa a) (gL xa a) = gk at HGn HG0 HGl ⊢
  obtain ⟨cf, hcf⟩ : ∃ cf : Nat → Nat, cf = fun i => i / gI xa a % gL xa a := ⟨_, rfl⟩
  have HGn' : Hid (∀ i, gk (i + 1) = gk i ++ [⟨[i], [cf i], [i]⟩]) := Lib.hid (by rw [hcf]; exact HGn.out)
  have HCg' : Hid (∀ i, (Sh.ints (Sh.crd (szs xa) i)).getD a 0 = ((cf i : Nat) : Int)) := Lib.hid (by rw [hcf]; exact HCg.out)
  have q4 : decide (a < xa.length) = true := decide_eq_true hhi
  unfold spV at HC ⊢
  dsimp only at HC HB0 CE ⊢
  clear hx hs hE hb0 hax hPd hcf HGn HCg
  go_enter Tryd.func24, Tryd.ntmps24
  go_wp2_with (first
    | (go_at_call 20; refine HC.out.mono ?_; rintro e w1 ⟨rfl, b1⟩; have S1 := Lib.hid (CE.out w1 b1); have B1 := Lib.hid (HB0.out.trans (b1.mono HB0.out.size)); clear b1)
    | (go_at_call 34; refine (HD.out _ B1.out).mono ?_; rintro e w3 ⟨v, rfl, hO, b3⟩; obtain ⟨xd, cd, rfl, hcd, -, -, hgd⟩ := hO.form; rw [HDL.out] at hcd hgd ⊢; obtain ⟨gd, rfl, hg1', hg2'⟩ := hgd hn1; have RD := Lib.hid hO.reads; rw [HIs.out] at RD; have B3 := Lib.hid (below_then B1.out b3); have S3 := Lib.hid (S1.out.then b3); obtain ⟨k0, k1, k2, k3, k4⟩ := S3.out; dsimp only at k0 k1 k2 k3 k4; clear hO b3 hgd)
    | (go_at_call 33; refine (HAll.out w3 _ cd RD.out).mono ?_; rintro e w' ⟨rfl, rfl⟩))
  clear k0 k1 k2 k3 k4 HAll HD HC CE S1 B1
  go_loopw [12, 40] (fun v i wr => ∃ (k : Nat) (vo : Value), k ≤ P ∧ i = .int .i64 (k : Int) ∧ vo = v ∧ Hid (Gx wr w3.heap.size (gk k) vo ∧ Since2 (fun _ => False) (Fo vo) w3 wr)) (fun _ i _ => P - (intOf i).toNat)
  case atStart => exact ⟨0, _, Nat.zero_le _, rfl, rfl, Lib.hid ⟨by rw [HG0.out]; exact Gx.nil _ _, But.refl _ _, fun k c => by cases c⟩⟩
  case round =>
    obtain ⟨k, vo, hk, rfl, rfl, HI⟩ := hrel
    by_cases hlt : k < P
    · have hdk : decide (k < P) = true := decide_eq_true hlt
      have hrd := RD.out.block (B' := wr.heap.size) (Nat.lt_of_lt_of_le hg2' HI.out.2.1.size) (HI.out.2.block hg2')
      have HCk := Lib.hid (HCo.out k hlt wr _ cd hcd hrd)
      have S4' := Lib.hid (S3.out.block (HI.out.2.block S3.out.lt))
      have HGk := Lib.hid (HGn'.out k)
      have HCkk := Lib.hid (HCg'.out k)
      obtain ⟨c, hc'⟩ : ∃ c, c = cf k := ⟨_, rfl⟩
      rw [← hc'] at HGk HCkk
      obtain ⟨hs, hh1, hh2⟩ := HI.out.1.len
      rw [HGl.out] at hh2
      clear hrd hc' hh1
      go_wp2_with (first
        | (go_at_call 55; refine HCk.out.mono ?_; intro e w4 hr; obtain ⟨g, cp, rfl, hg1, hg2, hcp, -, hOp, -, b4⟩ := hr.open (HCl.out k) (by omega); have S4 := Lib.hid (S4'.out.then b4); obtain ⟨k0, k1, k2, k3, k4⟩ := S4.out; dsimp only at k0 k1 k2 k3 k4; have hlw : w.heap.size < w4.heap.size := World.block_lt_of_cell? _ _ k0; have c0 := hOp.cell a (by rw [HCl.out]; exact hhi); rw [HCkk.out] at c0; have X4 := Lib.hid (HI.out.1.later b4); have B4 := Lib.hid b4; clear hr hOp b4)
        | (at_builtin; obtain ⟨hs4, y1, y2⟩ := X4.out; have y3 := (y1.below (onesW_below w4 k c)); have y4 := y2.but (But.of_below (F := Fo vo) (onesW_below w4 k c)) (F2 := Fo vo) (fun _ c => .inl c); have y5 := ones_ok w4 k c (Fo vo) (fun j hj => (X4.out.hi j hj).2); have y6 := y2.1; rw [HGl.out] at y6; refine wpList_append_gp rfl _ _ rfl w3.heap.size vo hs4 rfl y3 ⟨w4.heap.size + 1 + 1 + 1, 0, none⟩ 1 ⟨.slice (some ⟨w4.heap.size, 0, none⟩) 1 1, .slice (some ⟨w4.heap.size + 1, 0, none⟩) 1 1, .slice (some ⟨w4.heap.size + 1 + 1, 0, none⟩) 1 1⟩ rfl (ones_src w4 k c) y5.one (by omega) (by have h1 := (onesW_below w4 k c).size; have h2 := B4.out.size; have h3 := HI.out.2.1.size; exact Nat.le_trans h3 (Nat.le_trans h2 h1)) ?_; intro gb cpb w6 hown hgr hat hlt6; have Y := Lib.hid (Gx.push ⟨y3, y4⟩ y5 hown hgr hat); clear y1 y2 y3 y4 y5 hown hgr hat))
      go_roundw
      case rel =>
        have Y' := Y.out
        rw [y6] at Y'
        exact ⟨k + 1, _, hlt, by go_num, rfl, Lib.hid ⟨by rw [HGk.out]; exact Y'.1, HI.out.2.trans ((Since2.below B4.out).trans ((Since2.below (onesW_below w4 k c)).trans Y'.2))⟩⟩
      case measure => simp [intOf]; omega
    · obtain rfl : k = P := by omega
      obtain ⟨xo, co, rfl, hrg⟩ := HI.out.1.read
      have hR : GrpRet w (gk k) 0 (.returned (.tuple #[.slice xo (gk k).length co, .int .i64 0])) wr := ⟨xo, co, rfl, hrg, B3.out.trans (HI.out.2.1.below B3.out.size (fun _ c => c.elim))⟩
      clear hrg HI
      go_wp2
      go_ret2
      exact hR

end Go.Proofs.YtphghklhknadoaaDoor

/-!   What the document's Groups of layer 16 come to (brackenref16): the same; of a stage.
-/

namespace Go.Proofs.YtphghklhknadoaaDoor
open Go.RowKit Go.Shelf

section
variable {W W' W3 : World} {base gb : Nat} {pre : List Gp} {vo v1 v2 v3 : Value} {l1 l2 l3 : List Int}
theorem Gm.later (h : Gm W base gb pre vo v1 v2 v3 l1 l2 l3) (hb : Below W.heap.size W W') : Gm W' base gb pre vo v1 v2 v3 l1 l2 l3 := by
  obtain ⟨hs, h1, h2⟩ := h.out
  exact ⟨⟨hs, h1.below hb, h2.but (But.of_below hb) (fun _ c => .inl c)⟩, h.is.below hb h.is.lt, h.o1.below hb, h.o2.below hb, h.o3.below hb, h.nb, h.no, h.n1, h.n2, h.lo⟩
/-- What lies apart from what is written stays, when a row grows. -/
theorem heap_past {o : Obj} {r : Option Nat} {g : Nat} (hg : (W.alloc o).grownBy W3 r) (hlt : g < W.heap.size) (hn : r ≠ some g) : W3.heap[g]? = W.heap[g]? :=
  (hg.block g (by rw [World.size_alloc]; omega) (fun c => hn c.symm)).trans ((below_al (Below.refl W.heap.size W) o).block g hlt)
end
theorem Owns.slc {w : World} {base n : Nat} {v : Value} {l : List Int} (h : Owns .i64 3 w base v l) (hn : l.length = n) : ∃ x c, v = .slice x n c := by
  obtain ⟨x, c, e, _⟩ := h.form
  exact ⟨x, c, by rw [e, hn]⟩

set_option maxRecDepth 100000 in
set_option maxHeartbeats 16000000 in
theorem rgroups_st (p : Int) (x : Option Addr) (cap : Nat) (xa : List Ax) (a0 R L M : Nat) (w : World) (hx : ReadsA w w.heap.size x xa) (hl : xa.length ≤ 8796093022208) (hE : Stp.stepE p xa ⟨(a0 : Int), false, ⟨(R : Int), (L : Int), (M : Int)⟩⟩ = 0) (h3 : Stp.Three (gL xa a0) R L M) :
    Calls Tryd.prog 24 #[.int .u64 p, .slice x xa.length cap, spV ⟨(a0 : Int), false, ⟨(R : Int), (L : Int), (M : Int)⟩⟩] w (GrpRet w (Stp.gpK (gI xa a0) (gL xa a0) R L M (Sh.prod (szs xa) / gL xa a0)) 0) := by
  have hs := Stp.stepE_zero hE
  have hb0 := (Below.refl w.heap.size w).alloc (Nat.le_refl _) (.cells #[.int .i64 (a0 : Int), .bool false, .int .i64 (R : Int), .int .i64 (L : Int), .int .i64 (M : Int)] 27)
  have HB0 := Lib.hid hb0
  have HC := Lib.hid (rcheck16_any p x xa.length cap xa ⟨(a0 : Int), false, ⟨(R : Int), (L : Int), (M : Int)⟩⟩ _ ((hx.below hb0).more hb0.size) rfl hl)
  rw [hE] at HC
  have CE : Hid (∀ W, Below (w.alloc (.cells #[.int .i64 (a0 : Int), .bool false, .int .i64 (R : Int), .int .i64 (L : Int), .int .i64 (M : Int)] 27)).heap.size (w.alloc (.cells #[.int .i64 (a0 : Int), .bool false, .int .i64 (R : Int), .int .i64 (L : Int), .int .i64 (M : Int)] 27)) W → SpAt W w.heap.size ⟨(a0 : Int), false, ⟨(R : Int), (L : Int), (M : Int)⟩⟩) :=
    Lib.hid (fun W hW => (SpAt.new w 27 ⟨(a0 : Int), false, ⟨(R : Int), (L : Int), (M : Int)⟩⟩).then hW)
  have hax := hs.ax
  have hhi : a0 < xa.length := by have := hs.hi; simpa using this
  have hl4 := hax.L_le hhi
  have hl1 := hax.L hhi
  have HD := Lib.hid (fun W (hB : Below w.heap.size w W) => rdims_any x xa.length cap xa W ((hx.below hB).more hB.size) rfl hl)
  have HDL := Lib.hid (dims_len xa)
  have hn1 : 1 ≤ xa.length := by omega
  have HAll := Lib.hid (fun W y c hr => rall_ok (szs xa) hax.ok y xa.length c W W.heap.size hr (szs_len xa))
  have HIs : Hid (dims xa = Sh.ints (szs xa)) := Lib.hid hax.is
  have HLi := Lib.hid (fun (k : Nat) (hk : k < Sh.prod (szs xa) / gL xa a0) W y c (hc : xa.length ≤ c) hr => rline_ok (szs xa) hax.ok a0 k (by rw [szs_len]; exact hhi) hk y xa.length c W hr (szs_len xa) hc)
  have HLe : Hid (∀ k, lineOf (szs xa) a0 k = (List.range (gL xa a0)).map fun j => ((Stp.plc (gI xa a0) (gL xa a0) k j : Nat) : Int)) := Lib.hid (fun _ => rfl)
  have HLl : Hid (∀ k, (lineOf (szs xa) a0 k).length = gL xa a0) := Lib.hid (fun (k : Nat) => lineOf_len (szs xa) a0 k)
  have HDi : Hid (∀ W B g, Reads .i64 W B (some ⟨g, 0, none⟩) (Sh.ints (szs xa)) → W.cell? ⟨g, a0, none⟩ = some (.int .i64 ((gL xa a0 : Nat) : Int))) := Lib.hid (fun W B g hr => by
    obtain ⟨b', o', e, _, hcx⟩ := hr (by rw [Sh.ints_len, szs_len]; omega)
    cases e
    have := hcx a0 (by rw [Sh.ints_len, szs_len]; omega)
    rw [ints_getD, Nat.zero_add] at this
    exact this)
  have hP := hax.ok.le
  have hP1 := hax.ok.here
  have HCnt : Hid (∀ k a b, k < Sh.prod (szs xa) / gL xa a0 → a < M → b < L → (Stp.gpK (gI xa a0) (gL xa a0) R L M k ++ Stp.gpA (gI xa a0) (gL xa a0) R L M k a ++ Stp.gpB (gI xa a0) (gL xa a0) R L M k a b).length < 4096) := Lib.hid (fun k a b hk ha hb => by
    rw [List.length_append, List.length_append, Stp.gpK_len, Stp.gpA_len, Stp.gpB_len, Nat.add_assoc]
    have := Stp.gp_count h3 (Nat.div_mul_le_self (Sh.prod (szs xa)) (gL xa a0)) hk ha hb
    omega)
  have HGn : Hid (∀ k, Stp.gpK (gI xa a0) (gL xa a0) R L M (k + 1) = Stp.gpK (gI xa a0) (gL xa a0) R L M k ++ Stp.gpA (gI xa a0) (gL xa a0) R L M k M) := Lib.hid (fun k => Stp.gpK_next _ _ R L M k)
  have HG0 : Hid (Stp.gpK (gI xa a0) (gL xa a0) R L M 0 = []) := Lib.hid rfl
  have HA : Hid (∀ k a, Stp.gpA (gI xa a0) (gL xa a0) R L M k (a + 1) = Stp.gpA (gI xa a0) (gL xa a0) R L M k a ++ Stp.gpB (gI xa a0) (gL xa a0) R L M k a L) := Lib.hid (fun k a => Stp.gpA_next _ _ R L M k a)
  have HBn : Hid (∀ k a b, Stp.gpB (gI xa a0) (gL xa a0) R L M k a (b + 1) = Stp.gpB (gI xa a0) (gL xa a0) R L M k a b ++ [Stp.stG (gI xa a0) (gL xa a0) R L M k a b]) := Lib.hid (fun k a b => Stp.gpB_next _ _ R L M k a b)
  have HA0 : Hid (∀ k, Stp.gpA (gI xa a0) (gL xa a0) R L M k 0 = []) := Lib.hid (fun _ => rfl)
  have HBe : Hid (∀ k a, Stp.gpB (gI xa a0) (gL xa a0) R L M k a 0 = []) := Lib.hid (fun _ _ => rfl)
  have HN1 := Lib.hid (fun a b t ha hb ht => Stp.inn_lt h3 (a := a) (b := b) (t := t) ha hb ht)
  have HN3 := Lib.hid (fun a b t ha hb ht => Stp.oot_lt h3 (a := a) (b := b) (t := t) ha hb ht)
  have hR5 := h3.r5
  have hR2 := h3.r2
  have hMN : M ≤ gL xa a0 ∧ L ≤ gL xa a0 := by
    have e := h3.all
    have h1 := h3.l1
    have h2 := h3.m1
    have h3' : M ≤ R * M := Nat.le_mul_of_pos_left M (by omega)
    have h4 : R * M ≤ L * (R * M) := Nat.le_mul_of_pos_left _ h1
    have h5 : L ≤ L * (R * M) := Nat.le_mul_of_pos_right L (Nat.mul_pos (by omega) h2)
    omega
  have HaR : Hid (∀ a, a < M → a * R ≤ gL xa a0) := Lib.hid (fun a ha => by
    have e := h3.all
    have h1 := h3.l1
    have h3' : a * R ≤ M * R := Nat.mul_le_mul_right R (by omega)
    have h4 : R * M ≤ L * (R * M) := Nat.le_mul_of_pos_left _ h1
    rw [Nat.mul_comm M R] at h3'
    omega)
  have HE1 : Hid (∀ k a b, (List.range R).map (fun t => ((Stp.plc (gI xa a0) (gL xa a0) k (b + L * (a + M * t)) : Nat) : Int)) = Sh.ints (Stp.stG (gI xa a0) (gL xa a0) R L M k a b).inn) := Lib.hid (fun k a b => by simp [Stp.stG, Sh.ints])
  have HE2 : Hid (∀ k a b, (List.range R).map (fun t => ((a * R + t : Nat) : Int)) = Sh.ints (Stp.stG (gI xa a0) (gL xa a0) R L M k a b).fac) := Lib.hid (fun k a b => by simp [Stp.stG, Sh.ints])
  have HE3 : Hid (∀ k a b, (List.range R).map (fun t => ((Stp.plc (gI xa a0) (gL xa a0) k (b + L * (R * a + t)) : Nat) : Int)) = Sh.ints (Stp.stG (gI xa a0) (gL xa a0) R L M k a b).out) := Lib.hid (fun k a b => by simp [Stp.stG, Sh.ints])
  obtain ⟨i0, hti, hy0, hy1, hy2⟩ := info_parts info_int
  have hmx : Tryd.prog.follows .mixedOrders = true := by kernel_rfl
  obtain ⟨N, hN⟩ : ∃ N, N = gL xa a0 := ⟨_, rfl⟩
  obtain ⟨P, hPd⟩ : ∃ P, P = Sh.prod (szs xa) := ⟨_, rfl⟩
  obtain ⟨K, hK⟩ : ∃ K, K = P / N := ⟨_, rfl⟩
  have q1 : (P : Int) / (N : Int) = (K : Int) := by rw [hK]; exact cast_div P N
  rw [← hN] at hl1 hl4 HLi HLe HLl HDi HCnt HGn HG0 HA HBn HA0 HBe HN1 HN3 hMN HaR HE1 HE2 HE3 ⊢
  rw [← hPd] at HLi HAll hP hP1 HCnt ⊢
  rw [← hK] at HLi HCnt ⊢
  have q2 : (N : Int) ≠ 0 := by omega
  have q3 : K ≤ P := by rw [hK]; exact Nat.div_le_self _ _
  generalize gI xa a0 = I at HLe HCnt HGn HG0 HA HBn HA0 HBe HE1 HE2 HE3 ⊢
  generalize Stp.gpK I N R L M = gk at HCnt HGn HG0 ⊢
  have q4 : decide (a0 < xa.length) = true := decide_eq_true hhi
  unfold spV at HC ⊢
  dsimp only at HC HB0 CE ⊢
  clear hx hs hE hb0 hax hPd hK hN h3
  go_enter Tryd.func24, Tryd.ntmps24
  go_wp2_with (first
    | (go_at_call 20; refine HC.out.mono ?_; rintro e w1 ⟨rfl, b1⟩; have S1 := Lib.hid (CE.out w1 b1); have B1 := Lib.hid (HB0.out.trans (b1.mono HB0.out.size)); clear b1)
    | (go_at_call 34; refine (HD.out _ B1.out).mono ?_; rintro e w3 ⟨v, rfl, hO, b3⟩; obtain ⟨xd, cd, rfl, hcd, -, -, hgd⟩ := hO.form; rw [HDL.out] at hcd hgd ⊢; obtain ⟨gd, rfl, hg1', hg2'⟩ := hgd hn1; have RD := Lib.hid hO.reads; rw [HIs.out] at RD; have B3 := Lib.hid (below_then B1.out b3); have S3 := Lib.hid (S1.out.then b3); have d0 := HDi.out _ _ _ RD.out; obtain ⟨k0, k1, k2, k3, k4⟩ := S3.out; dsimp only at k0 k1 k2 k3 k4; clear hO b3 hgd)
    | (go_at_call 33; refine (HAll.out w3 _ cd RD.out).mono ?_; rintro e w' ⟨rfl, rfl⟩))
  have hsb : w.heap.size < w3.heap.size := S3.out.lt
  clear k0 k1 k2 k3 k4 HAll HD HC CE S1 B1 d0
  go_loopw [12, 72] (fun v i wr => ∃ (k : Nat) (vo : Value), k ≤ K ∧ i = .int .i64 (k : Int) ∧ vo = v ∧ Hid (Gx wr w3.heap.size (gk k) vo ∧ Since2 (fun _ => False) (Fo vo) w3 wr)) (fun _ i _ => K - (intOf i).toNat)
  case atStart => exact ⟨0, _, Nat.zero_le _, rfl, rfl, Lib.hid ⟨by rw [HG0.out]; exact Gx.nil _ _, But.refl _ _, fun k c => by cases c⟩⟩
  case round =>
    obtain ⟨k, vo, hk, rfl, rfl, HI⟩ := hrel
    by_cases hlt : k < K
    · have hdk : decide (k < K) = true := decide_eq_true hlt
      have hrd := RD.out.block (B' := wr.heap.size) (Nat.lt_of_lt_of_le hg2' HI.out.2.1.size) (HI.out.2.block hg2')
      have HLk := Lib.hid (HLi.out k hlt wr _ cd hcd hrd)
      have S4' := Lib.hid (S3.out.block (HI.out.2.block S3.out.lt))
      obtain ⟨k0, k1, k2, k3, k4⟩ := S4'.out
      dsimp only at k0 k1 k2 k3 k4
      obtain ⟨Wk, rfl⟩ : ∃ W, W = wr := ⟨_, rfl⟩
      clear hrd
      go_wp2_with (go_at_call 56; refine HLk.out.mono ?_; intro e w4 hr; obtain ⟨gl, cp, rfl, hg1, hg2, hcp, -, hOp, -, b4⟩ := hr.open (HLl.out k) (by omega); clear k0 k1 k2 k3 k4; have S4 := Lib.hid (S4'.out.then b4); obtain ⟨k0, k1, k2, k3, k4⟩ := S4.out; dsimp only at k0 k1 k2 k3 k4; have B4 := Lib.hid b4; have OL := Lib.hid hOp; clear hr hOp b4)
      have X4 := Lib.hid (HI.out.1.later B4.out)
      have Z4 : Hid (Since2 (fun _ => False) (Fo vo) w3 w4) := Lib.hid (HI.out.2.trans (Since2.below B4.out))
      have hnl : ¬ Fo vo gl := fun c => by have := (HI.out.1.hi gl c).2; omega
      have HBox : Hid (∀ {F' : Nat → Prop} {W : World}, Since2 (Fo vo) F' w4 W → SpAt W w.heap.size ⟨(a0 : Int), false, ⟨(R : Int), (L : Int), (M : Int)⟩⟩) := Lib.hid (fun h => S3.out.block ((Z4.out.trans h).block hsb))
      have HLine : Hid (∀ {F' : Nat → Prop} {W : World}, Since2 (Fo vo) F' w4 W → ∀ j, j < N → W.cell? ⟨gl, j, none⟩ = some (.int .i64 ((Stp.plc I N k j : Nat) : Int))) := Lib.hid (fun h j hj => by
        have c := OL.out.cell j (by rw [HLl.out]; exact hj)
        rw [HLe.out, getD_range _ hj] at c
        exact (cell_block (h.1.block gl hg2 hnl)).trans c)
      have HNF : Hid (∀ {F' : Nat → Prop} {W : World}, Since2 (Fo vo) F' w4 W → ¬ F' w.heap.size ∧ ¬ F' gl) := Lib.hid (fun h => ⟨fun c => by
          rcases (Z4.out.trans h).2 _ c with d | d
          · exact d
          · omega, fun c => by
          rcases h.2 _ c with d | d
          · exact hnl d
          · omega⟩)
      have hbs : w3.heap.size ≤ w4.heap.size := Z4.out.1.size
      have HLS : Hid (∀ {F' : Nat → Prop} {W : World}, Since2 (Fo vo) F' w4 W → w.heap.size < W.heap.size ∧ gl < W.heap.size ∧ w3.heap.size ≤ W.heap.size) := Lib.hid (fun h => by have := h.1.size; omega)
      have HIk := Lib.hid HI.out.2
      clear k0 k1 k2 k3 k4 HI HLk S4' OL S4
      obtain ⟨ga, hga⟩ : ∃ ga : Nat → List Gp, ga = Stp.gpA I N R L M k := ⟨_, rfl⟩
      obtain ⟨gbb, hgbb⟩ : ∃ gb : Nat → Nat → List Gp, gb = Stp.gpB I N R L M k := ⟨_, rfl⟩
      obtain ⟨sg, hsg⟩ : ∃ sg : Nat → Nat → Gp, sg = Stp.stG I N R L M k := ⟨_, rfl⟩
      have HCnt' : Hid (∀ a b, a < M → b < L → (gk k ++ ga a ++ gbb a b).length < 4096) := Lib.hid (by rw [hga, hgbb]; exact fun a b ha hb => HCnt.out k a b hlt ha hb)
      have HGk : Hid (gk (k + 1) = gk k ++ ga M) := Lib.hid (by rw [hga]; exact HGn.out k)
      have HA' : Hid (∀ a, ga (a + 1) = ga a ++ gbb a L) := Lib.hid (by rw [hga, hgbb]; exact HA.out k)
      have HB' : Hid (∀ a b, gbb a (b + 1) = gbb a b ++ [sg a b]) := Lib.hid (by rw [hgbb, hsg]; exact HBn.out k)
      have HA0' : Hid (ga 0 = []) := Lib.hid (by rw [hga]; exact HA0.out k)
      have HB0' : Hid (∀ a, gbb a 0 = []) := Lib.hid (by rw [hgbb]; exact HBe.out k)
      have HE1' : Hid (∀ a b, (List.range R).map (fun t => ((Stp.plc I N k (b + L * (a + M * t)) : Nat) : Int)) = Sh.ints (sg a b).inn) := Lib.hid (by rw [hsg]; exact HE1.out k)
      have HE2' : Hid (∀ a b, (List.range R).map (fun t => ((a * R + t : Nat) : Int)) = Sh.ints (sg a b).fac) := Lib.hid (by rw [hsg]; exact HE2.out k)
      have HE3' : Hid (∀ a b, (List.range R).map (fun t => ((Stp.plc I N k (b + L * (R * a + t)) : Nat) : Int)) = Sh.ints (sg a b).out) := Lib.hid (by rw [hsg]; exact HE3.out k)
      clear hga hgbb hsg
      obtain ⟨k0, k1, k2, k3, k4⟩ := HBox.out (Since2.refl (Fo vo) w4)
      dsimp only at k0 k1 k2 k3 k4
      go_wp2
      clear k0 k1 k2 k3 k4
      go_loopw [12, 86] (fun v i wi => ∃ (a : Nat) (vo1 : Value), a ≤ M ∧ i = .int .i64 (a : Int) ∧ vo1 = v ∧ Hid (Gx wi w3.heap.size (gk k ++ ga a) vo1 ∧ Since2 (Fo vo) (Fo vo1) w4 wi)) (fun _ i _ => M - (intOf i).toNat)
      case atStart => exact ⟨0, _, Nat.zero_le _, rfl, rfl, Lib.hid ⟨by rw [HA0'.out, List.append_nil]; exact X4.out, Since2.refl _ _⟩⟩
      case round =>
        clear X4
        obtain ⟨a, vo1, ha, rfl, rfl, HI⟩ := hrel
        by_cases hla : a < M
        · have hda : decide (a < M) = true := decide_eq_true hla
          obtain ⟨k0, k1, k2, k3, k4⟩ := HBox.out HI.out.2
          dsimp only at k0 k1 k2 k3 k4
          have haR := HaR.out a hla
          go_wp2
          clear k0 k1 k2 k3 k4
          go_loopw [12, 92] (fun v i wi => ∃ (b : Nat) (vo2 : Value), b ≤ L ∧ i = .int .i64 (b : Int) ∧ vo2 = v ∧ Hid (Gx wi w3.heap.size (gk k ++ ga a ++ gbb a b) vo2 ∧ Since2 (Fo vo) (Fo vo2) w4 wi)) (fun _ i _ => L - (intOf i).toNat)
          case atStart => exact ⟨0, _, Nat.zero_le _, rfl, rfl, Lib.hid ⟨by rw [HB0'.out, List.append_nil]; exact HI.out.1, HI.out.2⟩⟩
          case round =>
            clear HI
            obtain ⟨b, vo2, hb, rfl, rfl, HI⟩ := hrel
            by_cases hlb : b < L
            · have hdb : decide (b < L) = true := decide_eq_true hlb
              obtain ⟨Wb, rfl⟩ : ∃ W, W = wr := ⟨_, rfl⟩
              obtain ⟨k0, k1, k2, k3, k4⟩ := HBox.out HI.out.2
              dsimp only at k0 k1 k2 k3 k4
              obtain ⟨hsz1, hsz2, hsz3⟩ := HLS.out HI.out.2
              have hbg := HI.out.1.begin hsz3
              obtain ⟨pre, hpre⟩ : ∃ pre, pre = gk k ++ ga a ++ gbb a b := ⟨_, rfl⟩
              have hcnt := HCnt'.out a b hla hlb
              have HBk := HB'.out a b
              rw [← hpre] at hbg hcnt
              have HPre := Lib.hid hpre
              obtain ⟨gb, hgb⟩ : ∃ g, g = Wb.heap.size := ⟨_, rfl⟩
              have HG1 : Hid (Gm (Wb.alloc (.cells #[.slice none 0 0, .slice none 0 0, .slice none 0 0] 60)) w3.heap.size gb pre vo2 (.slice none 0 0) (.slice none 0 0) (.slice none 0 0) [] [] [] ∧ Since2 (Fo vo) (gmF gb vo2 (.slice none 0 0) (.slice none 0 0) (.slice none 0 0)) w4 (Wb.alloc (.cells #[.slice none 0 0, .slice none 0 0, .slice none 0 0] 60))) := Lib.hid (by rw [hgb]; exact ⟨hbg.1, HI.out.2.trans hbg.2⟩)
              clear hbg hpre HI
              go_wp2
              rw [← hgb]
              clear k0 k1 k2 k3 k4 hgb
              obtain ⟨f1, hf1⟩ : ∃ f : Nat → Int, f = fun t => ((Stp.plc I N k (b + L * (a + M * t)) : Nat) : Int) := ⟨_, rfl⟩
              obtain ⟨f2, hf2⟩ : ∃ f : Nat → Int, f = fun t => ((a * R + t : Nat) : Int) := ⟨_, rfl⟩
              obtain ⟨f3, hf3⟩ : ∃ f : Nat → Int, f = fun t => ((Stp.plc I N k (b + L * (R * a + t)) : Nat) : Int) := ⟨_, rfl⟩
              have F1 := Lib.hid hf1
              have F2 := Lib.hid hf2
              have F3 := Lib.hid hf3
              clear hf1 hf2 hf3
              go_loopw [98] (fun i wq => ∃ (t : Nat) (v1 v2 v3 : Value), t ≤ R ∧ i = .int .i64 (t : Int) ∧ Hid (Gm wq w3.heap.size gb pre vo2 v1 v2 v3 ((List.range t).map f1) ((List.range t).map f2) ((List.range t).map f3) ∧ Since2 (Fo vo) (gmF gb vo2 v1 v2 v3) w4 wq)) (fun i _ => R - (intOf i).toNat)
              case atStart => exact ⟨0, _, _, _, Nat.zero_le _, rfl, HG1⟩
              case round =>
                clear HG1
                obtain ⟨t, v1, v2, v3, ht, rfl, HI⟩ := hrel
                by_cases hlt' : t < R
                · have hdt : decide (t < R) = true := decide_eq_true hlt'
                  obtain ⟨Wq, rfl⟩ : ∃ W, W = wr := ⟨_, rfl⟩
                  obtain ⟨hgm, hsn⟩ := HI.out
                  obtain ⟨k0, k1, k2, k3, k4⟩ := HBox.out hsn
                  dsimp only at k0 k1 k2 k3 k4
                  obtain ⟨hsz1, hsz2, hsz3⟩ := HLS.out hsn
                  have hj1 := HN1.out a b t hla hlb hlt'
                  have hj3 := HN3.out a b t hla hlb hlt'
                  have c1 := HLine.out hsn _ hj1
                  obtain ⟨x1, y1, rfl⟩ := hgm.o1.slc (n := t) (by simp)
                  obtain ⟨x2, y2, rfl⟩ := hgm.o2.slc (n := t) (by simp)
                  obtain ⟨x3, y3, rfl⟩ := hgm.o3.slc (n := t) (by simp)
                  have e1 : f1 t = ((Stp.plc I N k (b + L * (a + M * t)) : Nat) : Int) := by rw [F1.out]
                  have e2 : f2 t = ((a * R + t : Nat) : Int) := by rw [F2.out]
                  have e3 : f3 t = ((Stp.plc I N k (b + L * (R * a + t)) : Nat) : Int) := by rw [F3.out]
                  rw [← e1] at c1
                  obtain ⟨u1, hu1⟩ : ∃ u, u = f1 t := ⟨_, rfl⟩
                  obtain ⟨u3, hu3⟩ : ∃ u, u = f3 t := ⟨_, rfl⟩
                  rw [← hu1] at c1
                  have HLn1 : Hid (((List.range t).map f1).length = t) := Lib.hid (by simp)
                  have HLn2 : Hid (((List.range t).map f2).length = t) := Lib.hid (by simp)
                  have HLn3 : Hid (((List.range t).map f3).length = t) := Lib.hid (by simp)
                  have HS1 : Hid ((List.range (t + 1)).map f1 = (List.range t).map f1 ++ [u1]) := Lib.hid (by rw [hu1]; exact range_snoc f1 t)
                  have HS2 : Hid ((List.range (t + 1)).map f2 = (List.range t).map f2 ++ [((a * R + t : Nat) : Int)]) := Lib.hid (by rw [← e2]; exact range_snoc f2 t)
                  have HS3 : Hid ((List.range (t + 1)).map f3 = (List.range t).map f3 ++ [u3]) := Lib.hid (by rw [hu3]; exact range_snoc f3 t)
                  have HC3 : Hid (∀ {F' : Nat → Prop} {W : World}, Since2 (Fo vo) F' w4 W → W.cell? ⟨gl, b + L * (R * a + t), none⟩ = some (.int .i64 u3)) := Lib.hid (fun h => by rw [hu3, e3]; exact HLine.out h _ hj3)
                  generalize (List.range t).map f1 = l1 at hgm HLn1 HS1
                  generalize (List.range t).map f2 = l2 at hgm HLn2 HS2
                  generalize (List.range t).map f3 = l3 at hgm HLn3 HS3
                  obtain ⟨p1, hp1⟩ : ∃ q : Nat, q = M * t := ⟨_, rfl⟩
                  obtain ⟨s1, hs1⟩ : ∃ s : Nat, s = a + p1 := ⟨_, rfl⟩
                  obtain ⟨p2, hp2⟩ : ∃ q : Nat, q = L * s1 := ⟨_, rfl⟩
                  obtain ⟨j1, hj1'⟩ : ∃ j : Nat, j = b + p2 := ⟨_, rfl⟩
                  rw [← hp1, ← hs1, ← hp2, ← hj1'] at hj1 c1
                  have z1 : (M : Int) * (t : Int) = (p1 : Int) := by rw [hp1]; simp
                  have z2 : (a : Int) + (p1 : Int) = (s1 : Int) := by rw [hs1]; simp
                  have z3 : (L : Int) * (s1 : Int) = (p2 : Int) := by rw [hp2]; simp
                  have z4 : (b : Int) + (p2 : Int) = (j1 : Int) := by rw [hj1']; simp
                  have hLpos : 1 ≤ L := by omega
                  have bp2 : p2 ≤ 4096 := by omega
                  have bs1 : s1 ≤ 4096 := by
                    have : s1 ≤ L * s1 := Nat.le_mul_of_pos_left _ hLpos
                    omega
                  have bp1 : p1 ≤ 4096 := by omega
                  have dj1 : decide (j1 < N) = true := decide_eq_true hj1
                  have hct := hgm.is
                  have HGM := Lib.hid hgm
                  have HSN := Lib.hid hsn
                  have HK : Hid (SpAt Wq w.heap.size ⟨(a0 : Int), false, ⟨(R : Int), (L : Int), (M : Int)⟩⟩) := Lib.hid (HBox.out hsn)
                  have HC1 := Lib.hid c1
                  have HCT := Lib.hid hct
                  have uu0 := fun s : GrW w.heap.size gb gl j1 ⟨(a0 : Int), false, ⟨(R : Int), (L : Int), (M : Int)⟩⟩ (.slice x1 t y1) (.slice x2 t y2) (.slice x3 t y3) u1 => s.cs.c0
                  have uu1 := fun s : GrW w.heap.size gb gl j1 ⟨(a0 : Int), false, ⟨(R : Int), (L : Int), (M : Int)⟩⟩ (.slice x1 t y1) (.slice x2 t y2) (.slice x3 t y3) u1 => s.cs.c1
                  have uu2 := fun s : GrW w.heap.size gb gl j1 ⟨(a0 : Int), false, ⟨(R : Int), (L : Int), (M : Int)⟩⟩ (.slice x1 t y1) (.slice x2 t y2) (.slice x3 t y3) u1 => s.cs.c2
                  have uu3 := fun s : GrW w.heap.size gb gl j1 ⟨(a0 : Int), false, ⟨(R : Int), (L : Int), (M : Int)⟩⟩ (.slice x1 t y1) (.slice x2 t y2) (.slice x3 t y3) u1 => s.cs.c3
                  have uu4 := fun s : GrW w.heap.size gb gl j1 ⟨(a0 : Int), false, ⟨(R : Int), (L : Int), (M : Int)⟩⟩ (.slice x1 t y1) (.slice x2 t y2) (.slice x3 t y3) u1 => s.cs.c4
                  have uu5 := fun s : GrW w.heap.size gb gl j1 ⟨(a0 : Int), false, ⟨(R : Int), (L : Int), (M : Int)⟩⟩ (.slice x1 t y1) (.slice x2 t y2) (.slice x3 t y3) u1 => s.ct.c0
                  have uu6 := fun s : GrW w.heap.size gb gl j1 ⟨(a0 : Int), false, ⟨(R : Int), (L : Int), (M : Int)⟩⟩ (.slice x1 t y1) (.slice x2 t y2) (.slice x3 t y3) u1 => s.cl
                  dsimp only at uu0 uu1 uu2 uu3 uu4
                  have hne : Nonempty (GrW w.heap.size gb gl j1 ⟨(a0 : Int), false, ⟨(R : Int), (L : Int), (M : Int)⟩⟩ (.slice x1 t y1) (.slice x2 t y2) (.slice x3 t y3) u1) := ⟨⟨Wq, HK.out, hct, c1⟩⟩
                  have hS0 : Below Wq.heap.size Wq Wq.drew := draws_below _ Wq 1
                  clear hp1 hs1 hp2 hj1' hu1 hu3 e1 e2 e3 hgm hct c1 HI
                  go_wp2
                  clear k0 k1 k2 k3 k4
                  refine region_readsL (C := fun w' => ∃ s : GrW w.heap.size gb gl j1 ⟨(a0 : Int), false, ⟨(R : Int), (L : Int), (M : Int)⟩⟩ (.slice x1 t y1) (.slice x2 t y2) (.slice x3 t y3) u1, w' = s.out) [0, 1, 2, 3, 4, 5, 6, 7, 8, 9, 10, 11, 12, 13, 14, 15, 16, 17] hmx (by kernel_rfl) rfl (by kernel_rfl) ⟨⟨_, HK.out.then hS0, HCT.out.below hS0 HCT.out.lt, (hS0.cell (p := ⟨gl, j1, none⟩) hsz2).trans HC1.out⟩, rfl⟩ ?_
                  simp only [List.map_cons, List.map_nil, List.getD_cons_zero, List.getD_cons_succ]
                  repeat (go_big_quiet_step (skip))
                  refine wpQuiet_nil ?_
                  clear uu0 uu1 uu2 uu3 uu4 uu5 uu6
                  show anyC _ _ _ _ _ 21 4 _ _ _
                  obtain ⟨V0, hV0⟩ : ∃ V, V = Wq.drew := ⟨_, rfl⟩
                  rw [← hV0] at hS0 ⊢
                  clear hV0
                  have HGz := Lib.hid (HGM.out.later hS0)
                  have HNz := Lib.hid (HSN.out.trans (Since2.below hS0))
                  have HKz := Lib.hid (HBox.out HNz.out)
                  have HTz := Lib.hid HGz.out.is
                  have HLz := Lib.hid (And.intro ((hS0.cell (p := ⟨gl, j1, none⟩) hsz2).trans HC1.out) (Nat.lt_of_lt_of_le hsz2 hS0.size))
                  clear HGM HSN HK HCT HC1 hS0 hsz1 hsz2 hsz3
                  refine anyC_one (i := 18) (by kernel_rfl) (wpOp_of_list rfl ?_)
                  go_wp2
                  have hB1 := below_al (Below.refl V0.heap.size V0) (.cells #[.int .i64 u1] 3)
                  refine ⟨rfl, fun _ => ⟨⟨_, HKz.out.then hB1, HTz.out.alloc _, (hB1.cell (p := ⟨gl, j1, none⟩) HLz.out.2).trans HLz.out.1⟩, rfl⟩, ?_⟩
                  clear hB1
                  refine anyC_one (i := 19) (by kernel_rfl) (wpOp_of_list rfl ?_)
                  refine wpList_append_num rfl _ _ 58 rfl w3.heap.size 3 i0 .i64 8 Tryd.underlying58 hti hy0 hy1 hy2 (.slice x1 t y1) l1 rfl (HGz.out.o1.alloc _) ⟨V0.heap.size, 0, none⟩ 1 1 [u1] rfl (src_one _ _ _ _) (by omega) (by rw [HLn1.out]; unfold maxLen; omega) (by rw [HLn1.out]; omega) (by rw [World.size_alloc]; exact Nat.le_succ_of_le (HLS.out HNz.out).2.2) ?_
                  intro vn w6 hown hgr hat
                  obtain ⟨x1', y1', rfl⟩ := hown.slc (n := t + 1) (by rw [List.length_append, HLn1.out]; rfl)
                  go_wp2
                  have hT6 := HGz.out.is.past hgr HGz.out.nb.2.1
                  have hK6 : SpAt w6 w.heap.size ⟨(a0 : Int), false, ⟨(R : Int), (L : Int), (M : Int)⟩⟩ := HKz.out.block (heap_past hgr (HLS.out HNz.out).1 (fun c => (HNF.out HNz.out).1 (.inr (.inr (.inl c)) : gmF gb vo2 (.slice x1 t y1) (.slice x2 t y2) (.slice x3 t y3) _)))
                  have hL6 : w6.cell? ⟨gl, j1, none⟩ = some (.int .i64 u1) := (cell_block (heap_past hgr (HLS.out HNz.out).2.1 (fun c => (HNF.out HNz.out).2 (.inr (.inr (.inl c)) : gmF gb vo2 (.slice x1 t y1) (.slice x2 t y2) (.slice x3 t y3) _)))).trans HLz.out.1
                  refine ⟨rfl, fun _ => ⟨⟨w6, hK6, hT6, hL6⟩, rfl⟩, ?_⟩
                  refine anyC_one (i := 20) (by kernel_rfl) (wpOp_of_list rfl ?_)
                  go_wp2
                  refine ⟨rfl, fun _ => ⟨⟨w6, hK6, hT6, hL6⟩, rfl⟩, ?_⟩
                  refine anyC_one (i := 21) (by kernel_rfl) (wpOp_of_list rfl ?_)
                  have hm := HGz.out.more1 hown hgr hat
                  have HM1 := Lib.hid hm
                  have ct0 := hT6.c0
                  have cf0 := hT6.fr 0
                  have ctl := hT6.lt
                  clear hm hown hgr hat hK6 hL6 hT6
                  go_wp2
                  refine ⟨rfl, fun h => absurd rfl h, anyC_end (by kernel_rfl) ⟨rfl, ?_⟩⟩
                  clear ct0 cf0 ctl
                  go_upto_region 30 with fail
                  obtain ⟨Wa, hWa⟩ : ∃ W, W = w6.setCell ⟨gb, 0, none⟩ (.slice x1' (t + 1) y1') := ⟨_, rfl⟩
                  rw [← hWa] at HM1 ⊢
                  have HGa := Lib.hid HM1.out.1
                  have HNa := Lib.hid (HNz.out.trans HM1.out.2)
                  clear hWa HM1 HGz HNz HKz HTz HLz z1 z2 z3 z4 bp1 bp2 bs1 dj1 hj1 hne
                  obtain ⟨k0, k1, k2, k3, k4⟩ := HBox.out HNa.out
                  dsimp only at k0 k1 k2 k3 k4
                  have ct1 := HGa.out.is.c1
                  have hta := HGa.out.is.lt
                  obtain ⟨hsa1, hsa2, hsa3⟩ := HLS.out HNa.out
                  obtain ⟨p1, hp1⟩ : ∃ q : Nat, q = a * R := ⟨_, rfl⟩
                  obtain ⟨s1, hs1⟩ : ∃ s : Nat, s = p1 + t := ⟨_, rfl⟩
                  rw [← hp1, ← hs1] at HS2
                  rw [← hp1] at haR
                  have z1 : (a : Int) * (R : Int) = (p1 : Int) := by rw [hp1]; simp
                  have z2 : (p1 : Int) + (t : Int) = (s1 : Int) := by rw [hs1]; simp
                  clear hp1 hs1
                  go_upto_region 31 with (at_builtin; refine wpList_append_num rfl _ _ 58 rfl w3.heap.size 3 i0 .i64 8 Tryd.underlying58 hti hy0 hy1 hy2 (.slice x2 t y2) l2 rfl (HGa.out.o2.alloc _) ⟨Wa.heap.size, 0, none⟩ 1 1 [(s1 : Int)] rfl (src_one _ _ _ _) (by omega) (by rw [HLn2.out]; unfold maxLen; omega) (by rw [HLn2.out]; omega) (by rw [World.size_alloc]; exact Nat.le_succ_of_le hsa3) ?_; intro vn w7 hown hgr hat; obtain ⟨x2', y2', rfl⟩ := hown.slc (n := t + 1) (by rw [List.length_append, HLn2.out]; rfl); have hT7 := HGa.out.is.past hgr HGa.out.nb.2.2.1; have cg1 := hT7.c1; have cf1 := hT7.fr 1; have cgl := hT7.lt; have HM2 := Lib.hid (HGa.out.more2 hown hgr hat); clear hown hgr hat hT7)
                  obtain ⟨Wb', hWb⟩ : ∃ W, W = w7.setCell ⟨gb, 1, none⟩ (.slice x2' (t + 1) y2') := ⟨_, rfl⟩
                  rw [← hWb] at HM2 ⊢
                  have HGb := Lib.hid HM2.out.1
                  have HNb := Lib.hid (HNa.out.trans HM2.out.2)
                  clear hWb HM2 HGa HNa k0 k1 k2 k3 k4 ct1 hta cg1 cf1 cgl hsa1 hsa2 hsa3 z1 z2
                  obtain ⟨hsb1, hsb2, hsb3⟩ := HLS.out HNb.out
                  have HKb := Lib.hid (HBox.out HNb.out)
                  have c3 := HC3.out HNb.out
                  obtain ⟨p1, hp1⟩ : ∃ q : Nat, q = R * a := ⟨_, rfl⟩
                  obtain ⟨s2, hs2⟩ : ∃ s : Nat, s = p1 + t := ⟨_, rfl⟩
                  obtain ⟨p2, hp2⟩ : ∃ q : Nat, q = L * s2 := ⟨_, rfl⟩
                  obtain ⟨j3, hj3'⟩ : ∃ j : Nat, j = b + p2 := ⟨_, rfl⟩
                  rw [← hp1, ← hs2, ← hp2, ← hj3'] at hj3 c3
                  have z1 : (R : Int) * (a : Int) = (p1 : Int) := by rw [hp1]; simp
                  have z2 : (p1 : Int) + (t : Int) = (s2 : Int) := by rw [hs2]; simp
                  have z3 : (L : Int) * (s2 : Int) = (p2 : Int) := by rw [hp2]; simp
                  have z4 : (b : Int) + (p2 : Int) = (j3 : Int) := by rw [hj3']; simp
                  have bp2 : p2 ≤ 4096 := by omega
                  have bs1 : s2 ≤ 4096 := by
                    have : s2 ≤ L * s2 := Nat.le_mul_of_pos_left _ hLpos
                    omega
                  have bp1 : p1 ≤ 4096 := by omega
                  have dj3 : decide (j3 < N) = true := decide_eq_true hj3
                  have HC3b := Lib.hid c3
                  have HCT := Lib.hid HGb.out.is
                  clear hp1 hs2 hp2 hj3'
                  have uu0 := fun s : GrW w.heap.size gb gl j3 ⟨(a0 : Int), false, ⟨(R : Int), (L : Int), (M : Int)⟩⟩ (.slice x1' (t + 1) y1') (.slice x2' (t + 1) y2') (.slice x3 t y3) u3 => s.cs.c0
                  have uu1 := fun s : GrW w.heap.size gb gl j3 ⟨(a0 : Int), false, ⟨(R : Int), (L : Int), (M : Int)⟩⟩ (.slice x1' (t + 1) y1') (.slice x2' (t + 1) y2') (.slice x3 t y3) u3 => s.cs.c1
                  have uu2 := fun s : GrW w.heap.size gb gl j3 ⟨(a0 : Int), false, ⟨(R : Int), (L : Int), (M : Int)⟩⟩ (.slice x1' (t + 1) y1') (.slice x2' (t + 1) y2') (.slice x3 t y3) u3 => s.cs.c2
                  have uu3 := fun s : GrW w.heap.size gb gl j3 ⟨(a0 : Int), false, ⟨(R : Int), (L : Int), (M : Int)⟩⟩ (.slice x1' (t + 1) y1') (.slice x2' (t + 1) y2') (.slice x3 t y3) u3 => s.cs.c3
                  have uu4 := fun s : GrW w.heap.size gb gl j3 ⟨(a0 : Int), false, ⟨(R : Int), (L : Int), (M : Int)⟩⟩ (.slice x1' (t + 1) y1') (.slice x2' (t + 1) y2') (.slice x3 t y3) u3 => s.cs.c4
                  have uu5 := fun s : GrW w.heap.size gb gl j3 ⟨(a0 : Int), false, ⟨(R : Int), (L : Int), (M : Int)⟩⟩ (.slice x1' (t + 1) y1') (.slice x2' (t + 1) y2') (.slice x3 t y3) u3 => s.ct.c2
                  have uu6 := fun s : GrW w.heap.size gb gl j3 ⟨(a0 : Int), false, ⟨(R : Int), (L : Int), (M : Int)⟩⟩ (.slice x1' (t + 1) y1') (.slice x2' (t + 1) y2') (.slice x3 t y3) u3 => s.cl
                  dsimp only at uu0 uu1 uu2 uu3 uu4
                  have hne : Nonempty (GrW w.heap.size gb gl j3 ⟨(a0 : Int), false, ⟨(R : Int), (L : Int), (M : Int)⟩⟩ (.slice x1' (t + 1) y1') (.slice x2' (t + 1) y2') (.slice x3 t y3) u3) := ⟨⟨Wb', HKb.out, HCT.out, c3⟩⟩
                  have hS0 : Below Wb'.heap.size Wb' Wb'.drew := draws_below _ Wb' 1
                  clear c3
                  refine region_readsL (C := fun w' => ∃ s : GrW w.heap.size gb gl j3 ⟨(a0 : Int), false, ⟨(R : Int), (L : Int), (M : Int)⟩⟩ (.slice x1' (t + 1) y1') (.slice x2' (t + 1) y2') (.slice x3 t y3) u3, w' = s.out) [0, 1, 2, 3, 4, 5, 6, 7, 8, 9, 10, 11, 12, 13, 14, 15, 16, 17] hmx (by kernel_rfl) rfl (by kernel_rfl) ⟨⟨_, HKb.out.then hS0, HCT.out.below hS0 HCT.out.lt, (hS0.cell (p := ⟨gl, j3, none⟩) hsb2).trans HC3b.out⟩, rfl⟩ ?_
                  simp only [List.map_cons, List.map_nil, List.getD_cons_zero, List.getD_cons_succ]
                  repeat (go_big_quiet_step (skip))
                  refine wpQuiet_nil ?_
                  clear uu0 uu1 uu2 uu3 uu4 uu5 uu6
                  show anyC _ _ _ _ _ 21 4 _ _ _
                  obtain ⟨V1, hV1⟩ : ∃ V, V = Wb'.drew := ⟨_, rfl⟩
                  rw [← hV1] at hS0 ⊢
                  clear hV1
                  have HGz := Lib.hid (HGb.out.later hS0)
                  have HNz := Lib.hid (HNb.out.trans (Since2.below hS0))
                  have HKz := Lib.hid (HBox.out HNz.out)
                  have HTz := Lib.hid HGz.out.is
                  have HLz := Lib.hid (And.intro ((hS0.cell (p := ⟨gl, j3, none⟩) hsb2).trans HC3b.out) (Nat.lt_of_lt_of_le hsb2 hS0.size))
                  clear HGb HNb HKb HCT HC3b hS0 hsb1 hsb2 hsb3
                  refine anyC_one (i := 18) (by kernel_rfl) (wpOp_of_list rfl ?_)
                  go_wp2
                  have hB1 := below_al (Below.refl V1.heap.size V1) (.cells #[.int .i64 u3] 3)
                  refine ⟨rfl, fun _ => ⟨⟨_, HKz.out.then hB1, HTz.out.alloc _, (hB1.cell (p := ⟨gl, j3, none⟩) HLz.out.2).trans HLz.out.1⟩, rfl⟩, ?_⟩
                  clear hB1
                  refine anyC_one (i := 19) (by kernel_rfl) (wpOp_of_list rfl ?_)
                  refine wpList_append_num rfl _ _ 58 rfl w3.heap.size 3 i0 .i64 8 Tryd.underlying58 hti hy0 hy1 hy2 (.slice x3 t y3) l3 rfl (HGz.out.o3.alloc _) ⟨V1.heap.size, 0, none⟩ 1 1 [u3] rfl (src_one _ _ _ _) (by omega) (by rw [HLn3.out]; unfold maxLen; omega) (by rw [HLn3.out]; omega) (by rw [World.size_alloc]; exact Nat.le_succ_of_le (HLS.out HNz.out).2.2) ?_
                  intro vn w8 hown hgr hat
                  obtain ⟨x3', y3', rfl⟩ := hown.slc (n := t + 1) (by rw [List.length_append, HLn3.out]; rfl)
                  go_wp2
                  have hT6 := HGz.out.is.past hgr HGz.out.nb.2.2.2
                  have hK6 : SpAt w8 w.heap.size ⟨(a0 : Int), false, ⟨(R : Int), (L : Int), (M : Int)⟩⟩ := HKz.out.block (heap_past hgr (HLS.out HNz.out).1 (fun c => (HNF.out HNz.out).1 (.inr (.inr (.inr (.inr c))) : gmF gb vo2 (.slice x1' (t + 1) y1') (.slice x2' (t + 1) y2') (.slice x3 t y3) _)))
                  have hL6 : w8.cell? ⟨gl, j3, none⟩ = some (.int .i64 u3) := (cell_block (heap_past hgr (HLS.out HNz.out).2.1 (fun c => (HNF.out HNz.out).2 (.inr (.inr (.inr (.inr c))) : gmF gb vo2 (.slice x1' (t + 1) y1') (.slice x2' (t + 1) y2') (.slice x3 t y3) _)))).trans HLz.out.1
                  refine ⟨rfl, fun _ => ⟨⟨w8, hK6, hT6, hL6⟩, rfl⟩, ?_⟩
                  refine anyC_one (i := 20) (by kernel_rfl) (wpOp_of_list rfl ?_)
                  go_wp2
                  refine ⟨rfl, fun _ => ⟨⟨w8, hK6, hT6, hL6⟩, rfl⟩, ?_⟩
                  refine anyC_one (i := 21) (by kernel_rfl) (wpOp_of_list rfl ?_)
                  have hm := HGz.out.more3 hown hgr hat
                  have HM3 := Lib.hid hm
                  have ct0 := hT6.c2
                  have cf0 := hT6.fr 2
                  have ctl := hT6.lt
                  clear hm hown hgr hat hK6 hL6 hT6
                  go_wp2
                  refine ⟨rfl, fun h => absurd rfl h, anyC_end (by kernel_rfl) ⟨rfl, ?_⟩⟩
                  clear ct0 cf0 ctl
                  go_wp2
                  go_roundw
                  case rel => exact ⟨t + 1, _, _, _, hlt', by go_num, Lib.hid ⟨by rw [HS1.out, HS2.out, HS3.out]; exact HM3.out.1, HNz.out.trans HM3.out.2⟩⟩
                  case measure => simp [intOf]; omega
                · obtain rfl : t = R := by omega
                  obtain ⟨Wq, rfl⟩ : ∃ W, W = wr := ⟨_, rfl⟩
                  obtain ⟨hgm, hsn⟩ := HI.out
                  obtain ⟨x1, y1, x2, y2, x3, y3, rfl, rfl, rfl, hgv⟩ := hgm.gv (g := sg a b) (by rw [F1.out]; exact HE1'.out a b) (by rw [F2.out]; exact HE2'.out a b) (by rw [F3.out]; exact HE3'.out a b)
                  obtain ⟨hgx, hso⟩ := hgm.toX
                  have hB1 := below_al (Below.refl Wq.heap.size Wq) (.cells #[.slice x1 (sg a b).inn.length y1, .slice x2 (sg a b).fac.length y2, .slice x3 (sg a b).out.length y3] 60)
                  have hsz : w3.heap.size ≤ Wq.heap.size := (HLS.out hsn).2.2
                  obtain ⟨hs, hh1, hh2⟩ := hgx
                  have hh3 := hh1.below hB1
                  have hh4 := hh2.but (But.of_below (F := Fo vo2) hB1) (F2 := Fo vo2) (fun _ c => .inl c)
                  have hgv1 := hgv.but (But.of_below (F := Fo vo2) hB1) (F2 := Fo vo2) (fun _ c => .inl c)
                  have hcn : hs.length < 4096 := by rw [hh2.1]; exact hcnt
                  have hsn2 := (hsn.trans hso).trans (Since2.below hB1)
                  have HPu : Hid (∀ g' cp w8, OwnsG w8 w3.heap.size (.slice (some ⟨g', 0, none⟩) (hs.length + 1) cp) (hs ++ [⟨.slice x1 (sg a b).inn.length y1, .slice x2 (sg a b).fac.length y2, .slice x3 (sg a b).out.length y3⟩]) → (Wq.alloc (.cells #[.slice x1 (sg a b).inn.length y1, .slice x2 (sg a b).fac.length y2, .slice x3 (sg a b).out.length y3] 60)).grownBy w8 vo2.ownBlock → (vo2.ownBlock = some g' ∨ (Wq.alloc (.cells #[.slice x1 (sg a b).inn.length y1, .slice x2 (sg a b).fac.length y2, .slice x3 (sg a b).out.length y3] 60)).heap.size ≤ g') →
                      Gx w8 w3.heap.size (gk k ++ ga a ++ gbb a (b + 1)) (.slice (some ⟨g', 0, none⟩) (hs.length + 1) cp) ∧ Since2 (Fo vo) (Fo (.slice (some ⟨g', 0, none⟩) (hs.length + 1) cp)) w4 w8) := Lib.hid (fun g' cp w8 hown hgr hat => by
                    have := Gx.push ⟨hh3, hh4⟩ hgv1 hown hgr hat
                    refine ⟨?_, hsn2.trans this.2⟩
                    rw [HBk, ← List.append_assoc, ← HPre.out]
                    exact this.1)
                  have HO3 := Lib.hid hh3
                  have Hone := Lib.hid hgv1.one
                  have HSr := Lib.hid (cell_three_new Wq (.slice x1 (sg a b).inn.length y1) (.slice x2 (sg a b).fac.length y2) (.slice x3 (sg a b).out.length y3) 60)
                  have k0 := hgm.is.c0
                  have k1 := hgm.is.c1
                  have k2 := hgm.is.c2
                  generalize (sg a b).inn.length = n1 at HPu HO3 Hone HSr k0 k1 k2
                  generalize (sg a b).fac.length = n2 at HPu HO3 Hone HSr k0 k1 k2
                  generalize (sg a b).out.length = n3 at HPu HO3 Hone HSr k0 k1 k2
                  clear hgm hsn hgv hso hB1 hh1 hh2 hh3 hh4 hgv1 hsn2 HI
                  go_wp2_with (at_builtin; refine wpList_append_gp rfl _ _ rfl w3.heap.size vo2 hs rfl HO3.out ⟨Wq.heap.size, 0, none⟩ 1 ⟨.slice x1 n1 y1, .slice x2 n2 y2, .slice x3 n3 y3⟩ rfl HSr.out Hone.out (by omega) (by rw [World.size_alloc]; exact Nat.le_succ_of_le hsz) ?_; intro g' cp' w8 hown hgr hat hlt8; have HPP := Lib.hid (HPu.out g' cp' w8 hown hgr hat); clear hown hgr hat)
                  go_roundw
                  case rel => exact ⟨b + 1, _, hlb, by go_num, rfl, HPP⟩
                  case measure => simp [intOf]; omega
            · obtain rfl : b = L := by omega
              go_wp2
              go_roundw
              case rel => exact ⟨a + 1, _, hla, by go_num, rfl, Lib.hid ⟨by rw [HA'.out, ← List.append_assoc]; exact HI.out.1, HI.out.2⟩⟩
              case measure => simp [intOf]; omega
        · obtain rfl : a = M := by omega
          go_wp2
          go_roundw
          case rel => exact ⟨k + 1, _, hlt, by go_num, rfl, Lib.hid ⟨by rw [HGk.out]; exact HI.out.1, HIk.out.trans ((Since2.below B4.out).trans HI.out.2)⟩⟩
          case measure => simp [intOf]; omega
    · obtain rfl : k = K := by omega
      obtain ⟨xo, co, rfl, hrg⟩ := HI.out.1.read
      have hR : GrpRet w (gk k) 0 (.returned (.tuple #[.slice xo (gk k).length co, .int .i64 0])) wr := ⟨xo, co, rfl, hrg, B3.out.trans (HI.out.2.1.below B3.out.size (fun _ c => c.elim))⟩
      clear hrg HI
      go_wp2
      go_ret2
      exact hR

end Go.Proofs.YtphghklhknadoaaDoor

/-!   What the document's Table and Groups of layer 16 come to (brackenref16), over every input: the same.
-/

namespace Go.Proofs.YtphghklhknadoaaDoor
open Go.RowKit Go.Shelf

set_option maxHeartbeats 2000000 in
theorem rtable16_any (p : Int) (x : Option Addr) (n cap : Nat) (xa : List Ax) (inv : Bool) (s : Sp) (w : World) (hx : ReadsA w w.heap.size x xa) (hn : xa.length = n) (hl : n ≤ 8796093022208) :
    Calls Tryd.prog 22 #[.int .u64 p, .slice x n cap, .bool inv, spV s] w (LineRet w (Stp.tabL p xa inv s) (Stp.stepE p xa s)) := by
  subst hn
  obtain ⟨ax, tw, t⟩ := s
  by_cases hE : Stp.stepE p xa ⟨ax, tw, t⟩ = 0
  · have hs := Stp.stepE_zero hE
    rw [hs.tab, hE]
    have hlo := hs.lo
    dsimp only at hlo
    obtain ⟨a, rfl⟩ : ∃ a : Nat, ax = (a : Int) := ⟨ax.toNat, by omega⟩
    cases tw
    · obtain ⟨R, L, M, rfl, h3, hle, hd⟩ := sok_st hs rfl
      have e1 : (List.range (Stp.tabn xa ⟨(a : Int), false, ⟨(R : Int), (L : Int), (M : Int)⟩⟩)).map (Stp.tabN p xa inv ⟨(a : Int), false, ⟨(R : Int), (L : Int), (M : Int)⟩⟩) = (List.range (M * R)).map (Stp.stT p inv R M) := by
        unfold Stp.tabn
        rw [if_neg (by simp)]
        dsimp only
        rw [Int.toNat_natCast, Int.toNat_natCast]
        refine List.map_congr_left fun k _ => ?_
        unfold Stp.tabN
        rw [if_neg (by simp)]
        dsimp only
        rw [Int.toNat_natCast, Int.toNat_natCast]
      rw [e1]
      exact rstage16 p x cap xa inv (a : Int) R L M w hx hl hE h3 hle hd
    · have e1 : (List.range (Stp.tabn xa ⟨(a : Int), true, t⟩)).map (Stp.tabN p xa inv ⟨(a : Int), true, t⟩) = (List.range (gL xa a)).map (Stp.twT p (gN xa a) inv (gL xa a)) := by
        unfold Stp.tabn
        rw [if_pos rfl]
        dsimp only
        rw [Int.toNat_natCast]
        refine List.map_congr_left fun k _ => ?_
        unfold Stp.tabN
        rw [if_pos rfl]
        dsimp only
        rw [Int.toNat_natCast]
      rw [e1]
      exact rtwist16 p x cap xa inv a t w hx hl hE
  · have e : Stp.tabL p xa inv ⟨ax, tw, t⟩ = [] := by unfold Stp.tabL; rw [if_neg hE]
    have hb0 := (Below.refl w.heap.size w).alloc (Nat.le_refl _) (.cells #[.int .i64 ax, .bool tw, .int .i64 t.r, .int .i64 t.l, .int .i64 t.m] 27)
    have HB := Lib.hid hb0
    have HC := Lib.hid (rcheck16_any p x xa.length cap xa ⟨ax, tw, t⟩ _ ((hx.below hb0).more hb0.size) rfl hl)
    rw [e]
    have tt := ne_of_bne hE
    generalize Stp.stepE p xa ⟨ax, tw, t⟩ = er at HC tt ⊢
    unfold spV at HC ⊢
    dsimp only at HC HB ⊢
    clear hx hb0 hE e
    go_enter Tryd.func22, Tryd.ntmps22
    go_wp2_with (go_at_call 20; refine HC.out.mono ?_; rintro e w1 ⟨rfl, b1⟩)
    go_ret2
    exact ⟨_, rfl, Owns.nil, HB.out.trans (b1.mono HB.out.size)⟩

set_option maxHeartbeats 2000000 in
theorem rgroups16_any (p : Int) (x : Option Addr) (n cap : Nat) (xa : List Ax) (s : Sp) (w : World) (hx : ReadsA w w.heap.size x xa) (hn : xa.length = n) (hl : n ≤ 8796093022208) :
    Calls Tryd.prog 24 #[.int .u64 p, .slice x n cap, spV s] w (GrpRet w (grpL p xa s) (Stp.stepE p xa s)) := by
  subst hn
  obtain ⟨ax, tw, t⟩ := s
  by_cases hE : Stp.stepE p xa ⟨ax, tw, t⟩ = 0
  · have hs := Stp.stepE_zero hE
    have e : grpL p xa ⟨ax, tw, t⟩ = Stp.grp xa ⟨ax, tw, t⟩ := by unfold grpL; rw [if_pos hE]
    rw [e, hE]
    have hlo := hs.lo
    dsimp only at hlo
    obtain ⟨a, rfl⟩ : ∃ a : Nat, ax = (a : Int) := ⟨ax.toNat, by omega⟩
    cases tw
    · obtain ⟨R, L, M, rfl, h3, hle, hd⟩ := sok_st hs rfl
      rw [Int.toNat_natCast] at h3
      have hgr : Stp.grp xa ⟨(a : Int), false, ⟨(R : Int), (L : Int), (M : Int)⟩⟩ = Stp.gpK (gI xa a) (gL xa a) R L M (Sh.prod (szs xa) / gL xa a) := by
        rw [Stp.grp_all rfl]
        dsimp only
        rw [Int.toNat_natCast, Int.toNat_natCast, Int.toNat_natCast, Int.toNat_natCast]
      rw [hgr]
      exact rgroups_st p x cap xa a R L M w hx hl hE h3
    · have hgr : Stp.grp xa ⟨(a : Int), true, t⟩ = Stp.gpT (gI xa a) (gL xa a) (Sh.prod (szs xa)) := by
        rw [Stp.grp_tws rfl]
        dsimp only
        rw [Int.toNat_natCast]
      rw [hgr]
      exact rgroups_tw p x cap xa a t w hx hl hE
  · have e : grpL p xa ⟨ax, tw, t⟩ = [] := by unfold grpL; rw [if_neg hE]
    have hb0 := (Below.refl w.heap.size w).alloc (Nat.le_refl _) (.cells #[.int .i64 ax, .bool tw, .int .i64 t.r, .int .i64 t.l, .int .i64 t.m] 27)
    have HB := Lib.hid hb0
    have HC := Lib.hid (rcheck16_any p x xa.length cap xa ⟨ax, tw, t⟩ _ ((hx.below hb0).more hb0.size) rfl hl)
    rw [e]
    have tt := ne_of_bne hE
    generalize Stp.stepE p xa ⟨ax, tw, t⟩ = er at HC tt ⊢
    unfold spV at HC ⊢
    dsimp only at HC HB ⊢
    clear hx hb0 hE e
    go_enter Tryd.func24, Tryd.ntmps24
    go_wp2_with (go_at_call 20; refine HC.out.mono ?_; rintro e w1 ⟨rfl, b1⟩)
    go_ret2
    exact ⟨none, 0, rfl, ReadsG.nil, HB.out.trans (b1.mono HB.out.size)⟩

end Go.Proofs.YtphghklhknadoaaDoor

/-!   The document's Same for groups, on two lists that are one.
-/

namespace Go.Proofs.YtphghklhknadoaaDoor
open Go.RowKit

theorem same_ints (x y : Option Addr) (n cap cap' : Nat) (xs : List Int) (w : World) (B : Nat) (hx : Reads .i64 w B x xs) (hy : Reads .i64 w B y xs) (hn : xs.length = n) (hl : n ≤ 140737488355328) :
    Calls Tryd.prog 57 #[.slice x n cap, .slice y n cap'] w (RetQ (.bool true) w) := by
  have := sameInts_any x y n n cap cap' xs xs w B hx hy hn hn hl hl
  rwa [decide_eq_true rfl] at this

set_option maxRecDepth 100000 in
set_option maxHeartbeats 4000000 in
theorem sameG_self (x y : Option Addr) (n cap cap' : Nat) (gs : List Gp) (w : World) (B : Nat) (hx : ReadsG w B x gs) (hy : ReadsG w B y gs) (hn : gs.length = n) (hl : n ≤ 4096) (h5 : ∀ g ∈ gs, g.inn.length = g.out.length ∧ g.fac.length = g.out.length ∧ g.inn.length ≤ 5) :
    Calls Tryd.prog 25 #[.slice x n cap, .slice y n cap'] w (RetQ (.bool true) w) := by
  subst hn
  have HX := Lib.hid hx
  have HY := Lib.hid hy
  have H5 := Lib.hid h5
  have nn : ((gs.length : Int) != (gs.length : Int)) = false := by simp
  clear hx hy h5
  go_enter Tryd.func25, Tryd.ntmps25
  go_wp2
  go_loopw [13] (fun i wr => ∃ k q : Nat, k ≤ gs.length ∧ i = .int .i64 (k : Int) ∧ wr = w.drewN q) (fun i _ => gs.length - (intOf i).toNat)
  case atStart => exact ⟨0, 0, Nat.zero_le _, rfl, rfl⟩
  case round =>
    obtain ⟨k, q, hk, rfl, rfl⟩ := hrel
    by_cases hlt : k < gs.length
    · have hdk : decide (k < gs.length) = true := by simpa using hlt
      obtain ⟨b, off, rfl, hb, hc⟩ := HX.out (by omega)
      obtain ⟨b', off', rfl, hb', hc'⟩ := HY.out (by omega)
      obtain ⟨⟨x1, c1, e1, r1⟩, ⟨x2, c2, e2, r2⟩, ⟨x3, c3, e3, r3⟩⟩ := hc k hlt
      obtain ⟨⟨y1, d1, f1, s1⟩, ⟨y2, d2, f2, s2⟩, ⟨y3, d3, f3, s3⟩⟩ := hc' k hlt
      obtain ⟨l1, l2, l3⟩ := H5.out _ (Stp.get_memG (d := noGp) hlt)
      generalize gs.getD k noGp = g at e1 e2 e3 r1 r2 r3 f1 f2 f3 s1 s2 s3 l1 l2 l3
      have H1 := Lib.hid (fun a => same_ints x1 y1 g.inn.length c1 d1 _ (w.drewN a) B (r1.draws a) (s1.draws a) (Sh.ints_len _) (by omega))
      have H2 := Lib.hid (fun a => same_ints x2 y2 g.fac.length c2 d2 _ (w.drewN a) B (r2.draws a) (s2.draws a) (Sh.ints_len _) (by omega))
      have H3 := Lib.hid (fun a => same_ints x3 y3 g.out.length c3 d3 _ (w.drewN a) B (r3.draws a) (s3.draws a) (Sh.ints_len _) (by omega))
      clear r1 r2 r3 s1 s2 s3 hc hc' HX HY l1 l2 l3
      generalize g.inn.length = m1 at e1 f1 H1
      generalize g.fac.length = m2 at e2 f2 H2
      generalize g.out.length = m3 at e3 f3 H3
      go_wp2
      go_quiet (first
        | (go_at_call_of 57 (Value.slice x1 m1 c1); exact quiet_more (H1.out _))
        | (go_at_call_of 57 (Value.slice x2 m2 c2); exact quiet_more (H2.out _))
        | (go_at_call_of 57 (Value.slice x3 m3 c3); exact quiet_more (H3.out _)))
      go_wp2
      go_roundw
      case rel => exact ⟨k + 1, _, by omega, by go_num, rfl⟩
      case measure => simp [intOf]; omega
    · obtain rfl : k = gs.length := by omega
      have hdk : decide (gs.length < gs.length) = false := by simp
      go_wp2
      go_ret
      exact ⟨rfl, q, rfl⟩

end Go.Proofs.YtphghklhknadoaaDoor
