/-
  The walk of ScriptQuiet: quiet events strike nothing; events are quiet just if each of them is, by itself.
-/
import Derived.Test.YtbdcpjpdonednaaLawScriptBack
namespace Go.Proofs.Ytbdcpjpdonednaa
open Go.RowKit

theorem quiet_take {es : List Ev} {k : Nat} {u : Ev} {n : Int} (h : es.take (k + 1) = es.take k ++ [u]) : quiet (es.take (k + 1)) n = (quiet (es.take k) n && nul u n) := by rw [h, quiet_snoc]

set_option maxRecDepth 100000 in
set_option maxHeartbeats 4000000 in
theorem walk_ScriptQuiet (x : Option Addr) (len cap : Nat) (es : List Ev) (y : Option Addr) (m cap' : Nat) (zs : List Int) (w : World) (hE : EventIn w x len cap es) (hlb : len ≤ 2932031007403) (hr : RowIn .u64 w y m cap' zs) :
    Calls Try.prog 8 #[.slice x len cap, .slice y m cap'] w fun e w' => e = .returned (.bool true) ∧ Below w.heap.size w w' := by
  obtain ⟨hn, hc1, hc2, hx, ho⟩ := hE
  obtain ⟨ws, hws, hm, hcp, hml, hy, hw⟩ := hr.reads
  have hsy := hr.src
  rw [← hws] at hsy
  have HV := Lib.hid (live10_any w)
  by_cases h1 : 60 < len
  · have hd : decide (60 < (len : Int)) = true := by simp; omega
    clear hx ho hy hw hsy hr hws
    go_enter Try.func8, Try.ntmps8
    go_wp2_with (go_at_call 9; refine HV.out.mono ?_; rintro e w1 ⟨rfl, hb1⟩)
    go_ret
    exact ⟨rfl, hb1⟩
  · have hd : decide (60 < (len : Int)) = false := by simp; omega
    by_cases h2 : 60 < m
    · have hd2 : decide (60 < (m : Int)) = true := by simp; omega
      clear hx ho hy hw hsy hr hws
      go_enter Try.func8, Try.ntmps8
      go_wp2_with (go_at_call 9; refine HV.out.mono ?_; rintro e w1 ⟨rfl, hb1⟩)
      go_ret
      exact ⟨rfl, hb1⟩
    · have hd2 : decide (60 < (m : Int)) = false := by simp; omega
      have hL : (strike es ws).length = m := by rw [strike_len, hm]
      have HX := Lib.hid hx
      have HN := Lib.hid hn
      have HO := Lib.hid ho
      have HY := Lib.hid hy
      have HSY := Lib.hid hsy
      have HW := Lib.hid hw
      have HM := Lib.hid hm
      have Q1 := Lib.hid (fun W (hB : Below w.heap.size w W) => Quiet_any x len cap es (m : Int) W (hx.since hB) hn ho hlb)
      rw [qtB_ok (by omega), chk_ok (by omega)] at Q1
      have S1 := Lib.hid (fun W (hB : Below w.heap.size w W) => Strike_ok x len cap es y m cap' ws W (hx.since hB) hn ho (by omega) (hsy.keep hB) hw (by omega))
      have HSQ : Hid (quiet es (m : Int) = true → strike es ws = ws) := Lib.hid (fun h => strike_quiet (by rw [hm]; exact h))
      obtain ⟨qb, hqb⟩ : ∃ qb, qb = quiet es (m : Int) := ⟨_, rfl⟩
      rw [← hqb] at Q1 HSQ
      have HQ0 := Lib.hid hqb
      clear hx ho hy hw hsy hr hws hn hm hqb
      have fin : ∀ W4, Below w.heap.size w W4 → True := fun _ _ => trivial
      clear fin
      cases qb with
      | true =>
        have HEq := Lib.hid (HSQ.out rfl)
        rw [HEq.out] at S1 hL
        go_enter Try.func8, Try.ntmps8
        go_wp2_with (first
          | (go_at_call 9; refine HV.out.mono ?_; rintro e w1 ⟨rfl, hb1⟩; have B1 := Lib.hid hb1; clear hb1)
          | (go_at_call 14; refine (Q1.out _ B1.out).mono ?_; rintro e w2 ⟨rfl, hb2⟩; have B2 := Lib.hid (below_on B1.out hb2); clear hb2)
          | (go_at_call 16; refine (S1.out _ B2.out).mono ?_; rintro e w3 hr3; obtain ⟨xb, cb, rfl, hRb, -, -, hb3⟩ := hr3.open; rw [hL]; have B3 := Lib.hid (below_on B2.out hb3); have RB := Lib.hid hRb; clear hb3 hRb hr3)
          | (go_at_call 19; refine (sameW_any xb y m m cb cap' ws ws _ w3.heap.size RB.out (HY.out.since B3.out) HM.out HM.out (by omega) (by omega)).mono ?_; rw [decide_eq_true rfl]; rintro e w4 ⟨rfl, nd, rfl⟩))
        obtain ⟨W4, hW4⟩ : ∃ W4, W4 = w3.drewN nd := ⟨_, rfl⟩
        rw [← hW4]
        have B4 : Hid (Below w.heap.size w W4) := Lib.hid (by rw [hW4]; exact below_draws B3.out nd)
        clear hW4 RB B2 B3 HV B1 Q1 S1 hL HSQ HEq
        go_loopw [9, 56] (fun v i wr => ∃ k : Nat, k ≤ len ∧ i = .int .i64 (k : Int) ∧ v = .bool (quiet (es.take k) (m : Int)) ∧ Hid (Below w.heap.size w wr)) (fun _ i _ => len - (intOf i).toNat)
        case atStart => exact ⟨0, Nat.zero_le _, rfl, rfl, Lib.hid B4.out⟩
        case round =>
          obtain ⟨k, hk, rfl, rfl, HI⟩ := hrel
          by_cases hlt : k < len
          · obtain ⟨b, off, rfl, hb, hc⟩ := (HX.out.since HI.out) (by have := HN.out; omega)
            have hok := HO.out.at k
            have hT := take_getD es k (by have := HN.out; omega)
            have hcu := hc k (by have := HN.out; omega)
            obtain ⟨u, hu⟩ : ∃ u, u = es.getD k noEv := ⟨_, rfl⟩
            rw [← hu] at hok hT hcu
            have HT := Lib.hid (quiet_take (n := (m : Int)) hT)
            have HS : Hid (decide (hit ws u = ws) = nul u (m : Int)) := Lib.hid (by have := hit_same HW.out hok; rwa [HM.out] at this)
            have HLu : Hid ((hit ws u).length = m) := Lib.hid (by rw [hit_len, HM.out])
            have Q2 := Quiet_any (some ⟨(wr.alloc (evO u)).heap.size, 0, none⟩) 1 1 [u] (m : Int) ((wr.alloc (evO u)).alloc (evO u)) (one_reads (wr.alloc (evO u)) u) rfl (one_ok hok) (by omega)
            rw [qtB_ok (by simp), quiet_one, chk_ok (by omega), World.size_alloc] at Q2
            have S2 := fun W (hB : Below w.heap.size w W) => Strike_ok (some ⟨W.heap.size, 0, none⟩) 1 1 [u] y m cap' ws (W.alloc (evO u)) (one_reads W u) rfl (one_ok hok) (by omega) ((HSY.out.keep hB).keep (below_al (Below.refl _ _) _)) HW.out (by omega)
            simp only [strike_one] at S2
            have HBox := fun W (hB : Below ((wr.alloc (evO u)).alloc (evO u)).heap.size ((wr.alloc (evO u)).alloc (evO u)) W) => ((EvAt.new wr u 38).below (below_al (Below.refl _ _) (evO u))).below hB
            clear hc hu hT hok HX HO
            obtain ⟨qu, hqu⟩ : ∃ qu, qu = nul u (m : Int) := ⟨_, rfl⟩
            rw [← hqu] at HS Q2 HT
            obtain ⟨qk, hqk⟩ : ∃ qk, qk = quiet (es.take k) (m : Int) := ⟨_, rfl⟩
            rw [← hqk] at HT ⊢
            obtain ⟨hu', hhu⟩ : ∃ hu', hu' = hit ws u := ⟨_, rfl⟩
            rw [← hhu] at S2 HS HLu
            clear hqu hqk hhu
            obtain ⟨a, c, z, d, f, q⟩ := u
            obtain ⟨c0, c1, c2, c3, c4, c5⟩ := hcu
            unfold evO at Q2 S2 HBox
            dsimp only at Q2 S2 HBox c0 c1 c2 c3 c4 c5
            have HQ2 := Lib.hid Q2
            have HS2 := Lib.hid S2
            have HBox' := Lib.hid HBox
            clear Q2 S2 HBox
            cases qk <;> cases qu
            · go_wp2_with (first
                | (go_at_call 14; refine HQ2.out.mono ?_; rintro e w5 ⟨rfl, hb5⟩; have B5 := Lib.hid (below_on (below_al (below_al HI.out _) _) hb5); obtain ⟨p0, p1, p2, p3, p4, p5⟩ := HBox'.out _ hb5; clear hb5 HBox')
                | (go_at_call 16; refine (HS2.out _ B5.out).mono ?_; rintro e w6 hr6; obtain ⟨x6, c6, rfl, hR6, -, -, hb6⟩ := hr6.open; rw [HLu.out]; have B6 := Lib.hid (below_on (below_al B5.out _) hb6); have R6 := Lib.hid hR6; clear hR6 hb6 hr6)
                | (go_at_call 19; refine (sameW_any x6 y m m c6 cap' hu' ws _ w6.heap.size R6.out (HY.out.since B6.out) HLu.out HM.out (by omega) (by omega)).mono ?_; rw [HS.out]; rintro e w7 ⟨rfl, nd, rfl⟩))
              go_roundw
              case rel => exact ⟨k + 1, by omega, by congr 1, by rw [HT.out]; rfl, Lib.hid (below_draws B6.out nd)⟩
              case measure => simp [intOf]; omega
            · go_wp2_with (first
                | (go_at_call 14; refine HQ2.out.mono ?_; rintro e w5 ⟨rfl, hb5⟩; have B5 := Lib.hid (below_on (below_al (below_al HI.out _) _) hb5); obtain ⟨p0, p1, p2, p3, p4, p5⟩ := HBox'.out _ hb5; clear hb5 HBox')
                | (go_at_call 16; refine (HS2.out _ B5.out).mono ?_; rintro e w6 hr6; obtain ⟨x6, c6, rfl, hR6, -, -, hb6⟩ := hr6.open; rw [HLu.out]; have B6 := Lib.hid (below_on (below_al B5.out _) hb6); have R6 := Lib.hid hR6; clear hR6 hb6 hr6)
                | (go_at_call 19; refine (sameW_any x6 y m m c6 cap' hu' ws _ w6.heap.size R6.out (HY.out.since B6.out) HLu.out HM.out (by omega) (by omega)).mono ?_; rw [HS.out]; rintro e w7 ⟨rfl, nd, rfl⟩))
              go_roundw
              case rel => exact ⟨k + 1, by omega, by congr 1, by rw [HT.out]; rfl, Lib.hid (below_draws B6.out nd)⟩
              case measure => simp [intOf]; omega
            · go_wp2_with (first
                | (go_at_call 14; refine HQ2.out.mono ?_; rintro e w5 ⟨rfl, hb5⟩; have B5 := Lib.hid (below_on (below_al (below_al HI.out _) _) hb5); obtain ⟨p0, p1, p2, p3, p4, p5⟩ := HBox'.out _ hb5; clear hb5 HBox')
                | (go_at_call 16; refine (HS2.out _ B5.out).mono ?_; rintro e w6 hr6; obtain ⟨x6, c6, rfl, hR6, -, -, hb6⟩ := hr6.open; rw [HLu.out]; have B6 := Lib.hid (below_on (below_al B5.out _) hb6); have R6 := Lib.hid hR6; clear hR6 hb6 hr6)
                | (go_at_call 19; refine (sameW_any x6 y m m c6 cap' hu' ws _ w6.heap.size R6.out (HY.out.since B6.out) HLu.out HM.out (by omega) (by omega)).mono ?_; rw [HS.out]; rintro e w7 ⟨rfl, nd, rfl⟩))
              go_roundw
              case rel => exact ⟨k + 1, by omega, by congr 1, by rw [HT.out]; rfl, Lib.hid (below_draws B6.out nd)⟩
              case measure => simp [intOf]; omega
            · go_wp2_with (first
                | (go_at_call 14; refine HQ2.out.mono ?_; rintro e w5 ⟨rfl, hb5⟩; have B5 := Lib.hid (below_on (below_al (below_al HI.out _) _) hb5); obtain ⟨p0, p1, p2, p3, p4, p5⟩ := HBox'.out _ hb5; clear hb5 HBox')
                | (go_at_call 16; refine (HS2.out _ B5.out).mono ?_; rintro e w6 hr6; obtain ⟨x6, c6, rfl, hR6, -, -, hb6⟩ := hr6.open; rw [HLu.out]; have B6 := Lib.hid (below_on (below_al B5.out _) hb6); have R6 := Lib.hid hR6; clear hR6 hb6 hr6)
                | (go_at_call 19; refine (sameW_any x6 y m m c6 cap' hu' ws _ w6.heap.size R6.out (HY.out.since B6.out) HLu.out HM.out (by omega) (by omega)).mono ?_; rw [HS.out]; rintro e w7 ⟨rfl, nd, rfl⟩))
              go_roundw
              case rel => exact ⟨k + 1, by omega, by congr 1, by rw [HT.out]; rfl, Lib.hid (below_draws B6.out nd)⟩
              case measure => simp [intOf]; omega
          · have HR : Hid (quiet (es.take k) (m : Int) = true) := Lib.hid (by rw [List.take_of_length_le (by have := HN.out; omega), ← HQ0.out])
            rw [HR.out]
            go_wp2
            go_ret
            exact ⟨rfl, HI.out⟩
      | false =>
        go_enter Try.func8, Try.ntmps8
        go_wp2_with (first
          | (go_at_call 9; refine HV.out.mono ?_; rintro e w1 ⟨rfl, hb1⟩; have B1 := Lib.hid hb1; clear hb1)
          | (go_at_call 14; refine (Q1.out _ B1.out).mono ?_; rintro e w2 ⟨rfl, hb2⟩; have B2 := Lib.hid (below_on B1.out hb2); clear hb2)
          | (go_at_call 16; refine (S1.out _ B2.out).mono ?_; rintro e W4 hr3; obtain ⟨xb, cb, rfl, hRb, -, -, hb3⟩ := hr3.open; rw [hL]; have B4 := Lib.hid (below_on B2.out hb3); clear hb3 hRb hr3))
        clear B2 HV B1 Q1 S1 hL HSQ
        go_loopw [9, 56] (fun v i wr => ∃ k : Nat, k ≤ len ∧ i = .int .i64 (k : Int) ∧ v = .bool (quiet (es.take k) (m : Int)) ∧ Hid (Below w.heap.size w wr)) (fun _ i _ => len - (intOf i).toNat)
        case atStart => exact ⟨0, Nat.zero_le _, rfl, rfl, Lib.hid B4.out⟩
        case round =>
          obtain ⟨k, hk, rfl, rfl, HI⟩ := hrel
          by_cases hlt : k < len
          · obtain ⟨b, off, rfl, hb, hc⟩ := (HX.out.since HI.out) (by have := HN.out; omega)
            have hok := HO.out.at k
            have hT := take_getD es k (by have := HN.out; omega)
            have hcu := hc k (by have := HN.out; omega)
            obtain ⟨u, hu⟩ : ∃ u, u = es.getD k noEv := ⟨_, rfl⟩
            rw [← hu] at hok hT hcu
            have HT := Lib.hid (quiet_take (n := (m : Int)) hT)
            have HS : Hid (decide (hit ws u = ws) = nul u (m : Int)) := Lib.hid (by have := hit_same HW.out hok; rwa [HM.out] at this)
            have HLu : Hid ((hit ws u).length = m) := Lib.hid (by rw [hit_len, HM.out])
            have Q2 := Quiet_any (some ⟨(wr.alloc (evO u)).heap.size, 0, none⟩) 1 1 [u] (m : Int) ((wr.alloc (evO u)).alloc (evO u)) (one_reads (wr.alloc (evO u)) u) rfl (one_ok hok) (by omega)
            rw [qtB_ok (by simp), quiet_one, chk_ok (by omega), World.size_alloc] at Q2
            have S2 := fun W (hB : Below w.heap.size w W) => Strike_ok (some ⟨W.heap.size, 0, none⟩) 1 1 [u] y m cap' ws (W.alloc (evO u)) (one_reads W u) rfl (one_ok hok) (by omega) ((HSY.out.keep hB).keep (below_al (Below.refl _ _) _)) HW.out (by omega)
            simp only [strike_one] at S2
            have HBox := fun W (hB : Below ((wr.alloc (evO u)).alloc (evO u)).heap.size ((wr.alloc (evO u)).alloc (evO u)) W) => ((EvAt.new wr u 38).below (below_al (Below.refl _ _) (evO u))).below hB
            clear hc hu hT hok HX HO
            obtain ⟨qu, hqu⟩ : ∃ qu, qu = nul u (m : Int) := ⟨_, rfl⟩
            rw [← hqu] at HS Q2 HT
            obtain ⟨qk, hqk⟩ : ∃ qk, qk = quiet (es.take k) (m : Int) := ⟨_, rfl⟩
            rw [← hqk] at HT ⊢
            obtain ⟨hu', hhu⟩ : ∃ hu', hu' = hit ws u := ⟨_, rfl⟩
            rw [← hhu] at S2 HS HLu
            clear hqu hqk hhu
            obtain ⟨a, c, z, d, f, q⟩ := u
            obtain ⟨c0, c1, c2, c3, c4, c5⟩ := hcu
            unfold evO at Q2 S2 HBox
            dsimp only at Q2 S2 HBox c0 c1 c2 c3 c4 c5
            have HQ2 := Lib.hid Q2
            have HS2 := Lib.hid S2
            have HBox' := Lib.hid HBox
            clear Q2 S2 HBox
            cases qk <;> cases qu
            · go_wp2_with (first
                | (go_at_call 14; refine HQ2.out.mono ?_; rintro e w5 ⟨rfl, hb5⟩; have B5 := Lib.hid (below_on (below_al (below_al HI.out _) _) hb5); obtain ⟨p0, p1, p2, p3, p4, p5⟩ := HBox'.out _ hb5; clear hb5 HBox')
                | (go_at_call 16; refine (HS2.out _ B5.out).mono ?_; rintro e w6 hr6; obtain ⟨x6, c6, rfl, hR6, -, -, hb6⟩ := hr6.open; rw [HLu.out]; have B6 := Lib.hid (below_on (below_al B5.out _) hb6); have R6 := Lib.hid hR6; clear hR6 hb6 hr6)
                | (go_at_call 19; refine (sameW_any x6 y m m c6 cap' hu' ws _ w6.heap.size R6.out (HY.out.since B6.out) HLu.out HM.out (by omega) (by omega)).mono ?_; rw [HS.out]; rintro e w7 ⟨rfl, nd, rfl⟩))
              go_roundw
              case rel => exact ⟨k + 1, by omega, by congr 1, by rw [HT.out]; rfl, Lib.hid (below_draws B6.out nd)⟩
              case measure => simp [intOf]; omega
            · go_wp2_with (first
                | (go_at_call 14; refine HQ2.out.mono ?_; rintro e w5 ⟨rfl, hb5⟩; have B5 := Lib.hid (below_on (below_al (below_al HI.out _) _) hb5); obtain ⟨p0, p1, p2, p3, p4, p5⟩ := HBox'.out _ hb5; clear hb5 HBox')
                | (go_at_call 16; refine (HS2.out _ B5.out).mono ?_; rintro e w6 hr6; obtain ⟨x6, c6, rfl, hR6, -, -, hb6⟩ := hr6.open; rw [HLu.out]; have B6 := Lib.hid (below_on (below_al B5.out _) hb6); have R6 := Lib.hid hR6; clear hR6 hb6 hr6)
                | (go_at_call 19; refine (sameW_any x6 y m m c6 cap' hu' ws _ w6.heap.size R6.out (HY.out.since B6.out) HLu.out HM.out (by omega) (by omega)).mono ?_; rw [HS.out]; rintro e w7 ⟨rfl, nd, rfl⟩))
              go_roundw
              case rel => exact ⟨k + 1, by omega, by congr 1, by rw [HT.out]; rfl, Lib.hid (below_draws B6.out nd)⟩
              case measure => simp [intOf]; omega
            · go_wp2_with (first
                | (go_at_call 14; refine HQ2.out.mono ?_; rintro e w5 ⟨rfl, hb5⟩; have B5 := Lib.hid (below_on (below_al (below_al HI.out _) _) hb5); obtain ⟨p0, p1, p2, p3, p4, p5⟩ := HBox'.out _ hb5; clear hb5 HBox')
                | (go_at_call 16; refine (HS2.out _ B5.out).mono ?_; rintro e w6 hr6; obtain ⟨x6, c6, rfl, hR6, -, -, hb6⟩ := hr6.open; rw [HLu.out]; have B6 := Lib.hid (below_on (below_al B5.out _) hb6); have R6 := Lib.hid hR6; clear hR6 hb6 hr6)
                | (go_at_call 19; refine (sameW_any x6 y m m c6 cap' hu' ws _ w6.heap.size R6.out (HY.out.since B6.out) HLu.out HM.out (by omega) (by omega)).mono ?_; rw [HS.out]; rintro e w7 ⟨rfl, nd, rfl⟩))
              go_roundw
              case rel => exact ⟨k + 1, by omega, by congr 1, by rw [HT.out]; rfl, Lib.hid (below_draws B6.out nd)⟩
              case measure => simp [intOf]; omega
            · go_wp2_with (first
                | (go_at_call 14; refine HQ2.out.mono ?_; rintro e w5 ⟨rfl, hb5⟩; have B5 := Lib.hid (below_on (below_al (below_al HI.out _) _) hb5); obtain ⟨p0, p1, p2, p3, p4, p5⟩ := HBox'.out _ hb5; clear hb5 HBox')
                | (go_at_call 16; refine (HS2.out _ B5.out).mono ?_; rintro e w6 hr6; obtain ⟨x6, c6, rfl, hR6, -, -, hb6⟩ := hr6.open; rw [HLu.out]; have B6 := Lib.hid (below_on (below_al B5.out _) hb6); have R6 := Lib.hid hR6; clear hR6 hb6 hr6)
                | (go_at_call 19; refine (sameW_any x6 y m m c6 cap' hu' ws _ w6.heap.size R6.out (HY.out.since B6.out) HLu.out HM.out (by omega) (by omega)).mono ?_; rw [HS.out]; rintro e w7 ⟨rfl, nd, rfl⟩))
              go_roundw
              case rel => exact ⟨k + 1, by omega, by congr 1, by rw [HT.out]; rfl, Lib.hid (below_draws B6.out nd)⟩
              case measure => simp [intOf]; omega
          · have HR : Hid (quiet (es.take k) (m : Int) = false) := Lib.hid (by rw [List.take_of_length_le (by have := HN.out; omega), ← HQ0.out])
            rw [HR.out]
            go_wp2
            go_ret
            exact ⟨rfl, HI.out⟩

end Go.Proofs.Ytbdcpjpdonednaa
