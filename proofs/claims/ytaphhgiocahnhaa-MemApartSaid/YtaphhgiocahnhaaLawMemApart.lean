/-
  The walk of MemApart: an event changes its own word alone.
-/
import Derived.Test.YtaphhgiocahnhaaHits
namespace Go.Proofs.Ytaphhgiocahnhaa
open Go.RowKit Go.Sort

theorem opL_len {o : OpV} (h : o.es.length ≤ 1024) : (opL o).length ≤ 1024 := by
  unfold opL
  split
  · exact h
  · simp

/-- In front of each op. -/
def ApAt (w wr : World) (M N B n k : Nat) : Prop := ∃ s r es, Base w wr M N B s r (k * 2) es ∧ Apr n es s r ∧ es.length ≤ 40 + k * 1024
theorem ApAt.below {w wr : World} {M N B n k : Nat} (h : ApAt w wr M N B n k) : Below w.heap.size w wr := by obtain ⟨s, r, es, h, _⟩ := h; exact h.below

set_option maxHeartbeats 32000000 in
set_option maxRecDepth 100000 in
theorem apart_in (n : Nat) (x : Option Addr) (m cx : Nat) (ls : List Ev) (y : Option Addr) (L cap : Nat) (os : List OpV) (w : World) (h1 : 1 ≤ n) (h2 : n ≤ 60) (hm : m ≤ 40) (hL : L ≤ 80) (hE : EventIn w x m cx ls) (hO : OpIn w y L cap os) (hf : fewB (n : Int) m os = true) :
    Calls Try.prog 7 #[.int .i64 (n : Int), .slice x m cx, .slice y L cap] w fun e w' => e = .returned (.bool true) ∧ Below w.heap.size w w' := by
  have HV := Lib.hid (live12_any w)
  have HF := Lib.hid (fun w1 (hb : Below w.heap.size w w1) => few_mem (n : Int) x m cx y L cap os w1 ((hO.2.2.2.1.below hb).more hb.size) hO.1 (by omega) (by omega))
  rw [hf] at HF
  have HN := Lib.hid (fun w1 (hb : Below w.heap.size w w1) => mNew_ok n x m cx ls w1 h1 (by omega) (hE.2.2.2.1.since hb) hE.1 hE.2.2.2.2 (by omega))
  have HN2 := Lib.hid (fun w1 => mNew_ok n none 0 0 [] w1 h1 (by omega) ReadsE.nil rfl (by intro s hs; cases hs) (by omega))
  have HX := Lib.hid hE.2.2.2.1
  have HXl := Lib.hid hE.1
  have HXo := Lib.hid hE.2.2.2.2
  have HO := Lib.hid hO
  have d1 : decide ((n : Int) < 1) = false := by simp; omega
  have hmm := @run_makeMap Try.prog
  clear hO hf hE
  go_enter Try.func7, Try.ntmps7
  go_wp2_with (first
    | (go_at_call 10; refine HV.out.mono ?_; clear HV; rintro e w1 ⟨rfl, hb1⟩; have B1 := Lib.hid hb1; clear hb1)
    | (go_at_call 11; refine (HF.out w1 B1.out).mono ?_; clear HF; rintro e w2 ⟨rfl, hb2⟩; have B2 := Lib.hid (below_on B1.out hb2); clear hb2 B1)
    | (go_at_call 12; refine (HN.out w2 B2.out).mono ?_; clear HN; rintro e w3 ⟨M, rfl, hm3, hb3⟩; have A3 := Lib.hid (And.intro hm3 hb3); have K4 := Lib.hid (HN2.out w3); clear hm3 hb3 HN2)
    | (go_at_call 12; refine K4.out.mono ?_; clear K4; rintro e w4 ⟨N, rfl, hm4, hb4⟩; have A4 := Lib.hid (Base.made B2.out A3.out.1 A3.out.2 hm4 hb4 rfl rfl rfl rfl); clear hm4 hb4 A3))
  obtain ⟨B, hB⟩ : ∃ B, B = w4.heap.size := ⟨_, rfl⟩
  rw [← hB] at A4 ⊢
  clear hB hmm B2
  go_loopw [65] (fun i wr => ∃ k : Nat, k ≤ m ∧ i = .int .i64 k ∧ Hid (Base w wr M N B (newS n ls) (newS n []) 0 (ls.take k))) (fun i _ => m - (intOf i).toNat)
  case atStart => exact ⟨0, Nat.zero_le _, rfl, A4⟩
  case round =>
    clear A4
    obtain ⟨k, hk, rfl, HI⟩ := hrel
    by_cases hlt : k < m
    · obtain ⟨b, off, rfl, hb, hc⟩ := (HX.out.below HI.out.below) (by have := HXl.out; omega)
      have hcu := hc k (by have := HXl.out; omega)
      have HT := Lib.hid (take_one ls k (by have := HXl.out; omega))
      have hok := HXo.out.at k
      have hl0 : (ls.take k).length ≤ 40 := by rw [List.length_take]; omega
      generalize ls.getD k noEv = u at hcu HT hok
      have h6 := HI.out.quiet (below_al (Below.refl _ wr) (evO u))
      have hlk := h6.hits.look hok.2.2.2.2.1
      obtain ⟨w7, hup, hH7, hg7⟩ := h6.hits.put u hok (by omega)
      have H7 := Lib.hid (h6.put hH7 hg7)
      have hcl := cntA_le (ls.take k) u.ad
      obtain ⟨c, hcc⟩ : ∃ c, c = cntA (ls.take k) u.ad := ⟨_, rfl⟩
      rw [← hcc] at hlk hup hcl
      have hcb : c ≤ 40 := by omega
      obtain ⟨e1, e2, e3, e4, e5, e6⟩ := u
      obtain ⟨c0, c1, c2, c3, c4, c5⟩ := hcu
      unfold evO at hlk hup
      dsimp only at hlk hup c0 c1 c2 c3 c4 c5
      clear hc hok HI h6 hH7 hg7 hcc hcl hl0
      go_wp2
      go_roundw
      case rel => exact ⟨k + 1, by omega, by congr 1, Lib.hid (by rw [HT.out]; exact H7.out)⟩
      case measure => simp [intOf]; omega
    · have hke : ls.take k = ls := List.take_of_length_le (by have := HXl.out; omega)
      have hI := HI.out
      rw [hke] at hI
      have A5 : Hid (ApAt w wr M N B n 0) := Lib.hid ⟨_, _, _, hI, Apr.made n ls, by have := HXl.out; omega⟩
      clear hI HI hke HX
      go_wp2
      go_loopw [77] (fun i wr => ∃ k : Nat, k ≤ L ∧ i = .int .i64 k ∧ Hid (ApAt w wr M N B n k)) (fun i _ => L - (intOf i).toNat)
      case atStart => exact ⟨0, Nat.zero_le _, rfl, A5⟩
      case round =>
        clear A5
        obtain ⟨k, hk, rfl, HI⟩ := hrel
        by_cases hlt : k < L
        · obtain ⟨b, off, rfl, hb, hcu⟩ := HO.out.cells HI.out.below hlt
          have hnum := (HO.out.at hlt).num
          have hrd : ReadsE w w.heap.size (os.getD k noOp).x (os.getD k noOp).es := (HO.out.at hlt).2.2.2.2.2.2.1
          obtain ⟨s, r, es, hBs, hAp, hlen⟩ := HI.out
          obtain ⟨o, ho⟩ : ∃ o, o = os.getD k noOp := ⟨_, rfl⟩
          rw [← ho] at hcu hnum hrd
          have T0 := Lib.hid (hBs.op o)
          have had := hnum.2.1
          have hnum1 := hnum.1
          by_cases hbig : 1024 < o.n
          · have dbig : decide ((1024 : Int) < (o.n : Int)) = true := by simp; omega
            have P1 : Hid (ApAt w ((wr.alloc (opO o)).alloc (opO (bare o))) M N B n (k + 1)) := Lib.hid ⟨s, r, es, T0.out.base.more (by omega), hAp, by omega⟩
            clear T0 hBs hAp HI hrd hnum ho
            obtain ⟨kd, ad, wd, ux, um, uc, oes⟩ := o
            obtain ⟨k0, k1, k2, k3⟩ := hcu
            unfold bare opO at P1
            dsimp only at k0 k1 k2 k3 dbig hbig P1
            go_wp2
            go_roundw
            case rel => exact ⟨k + 1, by omega, by congr 1, P1⟩
            case measure => simp [intOf]; omega
          · have dbig : decide ((1024 : Int) < (o.n : Int)) = false := by simp; omega
            have hol : o.es.length ≤ 1024 := by have := hnum.2.2.2.1; omega
            have hPO := hAp.op o hol
            have D1 := Lib.hid (fun W es1 (h : BaseX w W M N B s r (k * 2) es1 wr.heap.size o) => h.first hnum hrd (by omega))
            have D2 := Lib.hid (fun W es1 (h : BaseX w W M N B (opS o s) r (k * 2 + 1) es1 wr.heap.size o) => h.second hnum (by omega))
            have HE := Lib.hid (show ∀ W, Base w W M N B (opS o s) (opS (bare o) r) (k * 2 + 1 + 1) (es ++ opL o) → ApAt w W M N B n (k + 1) from fun W h => ⟨_, _, _, h.more (by omega), hPO.1, by rw [List.length_append]; have := opL_len hol; omega⟩)
            have HPt : Hid ((opS o s).t = (opS (bare o) r).t ∧ (opS o s).a = (opS (bare o) r).a) := Lib.hid ⟨hPO.1.t, hPO.1.a⟩
            have HPT := Lib.hid hPO.2.2
            have HLe := Lib.hid hlen
            have HEs := Lib.hid hnum.2.2.2
            have HRd := Lib.hid hrd
            have HL3 := Lib.hid (show ((o.kd % 4 = 3 → opL o = o.es) ∧ (¬ o.kd % 4 = 3 → opL o = [])) from ⟨fun h => by unfold opL; rw [if_pos h], fun h => by unfold opL; rw [if_neg h]⟩)
            rw [← hPO.2.1] at D2
            generalize opS o s = s' at D1 D2 HE HPt
            generalize opS (bare o) r = r' at D2 HE HPt
            generalize opE o s = te at D1 D2
            generalize opT o s = tv at D1 HPT
            generalize opT (bare o) r = tv2 at D2 HPT
            obtain ⟨es', hes'⟩ : ∃ es', es' = es ++ opL o := ⟨_, rfl⟩
            rw [← hes'] at HPT HE
            obtain ⟨c, hcc⟩ : ∃ c, c = cntA es' o.ad := ⟨_, rfl⟩
            rw [← hcc] at HPT
            have HC := Lib.hid hcc
            have HES := Lib.hid hes'
            clear hBs hAp HI hrd hnum ho hPO hlen hcc hes' hol
            obtain ⟨kd, ad, wd, ux, um, uc, oes⟩ := o
            obtain ⟨k0, k1, k2, k3⟩ := hcu
            unfold opA at D1 D2
            unfold bare opO at T0
            unfold bare at D2
            dsimp only at k0 k1 k2 k3 dbig hbig had hnum1 D1 D2 T0 HC HL3
            obtain ⟨kk, rfl⟩ : ∃ kk : Nat, kd = (kk : Int) := ⟨kd.toNat, by omega⟩
            obtain ⟨rr, hr⟩ : ∃ rr : Nat, (kk : Int) % 4 = (rr : Int) := ⟨kk % 4, by omega⟩
            have hrb : rr < 4 := by omega
            rw [hr] at HL3
            by_cases c3 : rr = 3
            · subst c3
              have hee : es' = es ++ oes := by rw [HES.out, HL3.out.1 rfl]
              have BX := Lib.hid T0.out
              rw [show es = es ++ oes.take 0 by simp] at BX
              have HPS := Lib.hid hee
              clear T0 HES HL3 hee
              have hpart : ((c : Int) == 0) = false ∨ (((c : Int) == 0) = true ∧ tv = tv2) := by
                by_cases hc0 : c = 0
                · exact .inr ⟨by simp [hc0], HPT.out hc0⟩
                · exact .inl (by simp; omega)
              have HQ := Lib.hid hpart
              clear HPT hpart
              go_wp2
              obtain ⟨X, hX⟩ : ∃ X, X = wr.heap.size := ⟨_, rfl⟩
              rw [← hX] at D1 D2 BX ⊢
              clear hX
              go_loopw [94] (fun i wz => ∃ j : Nat, j ≤ um ∧ i = .int .i64 j ∧ Hid (BaseX w wz M N B s r (k * 2) (es ++ oes.take j) X ⟨(kk : Int), ad, wd, ux, um, uc, oes⟩)) (fun i _ => um - (intOf i).toNat)
              case atStart => exact ⟨0, Nat.zero_le _, rfl, BX⟩
              case round =>
                clear BX
                obtain ⟨j, hj, rfl, HZ⟩ := hrel
                by_cases hjl : j < um
                · obtain ⟨b2, off2, rfl, hb2, hc2⟩ := (HRd.out.below HZ.out.base.below) (by have := HEs.out.1; omega)
                  have hcu := hc2 j (by have := HEs.out.1; omega)
                  have HT := Lib.hid (take_one oes j (by have := HEs.out.1; omega))
                  have hok := EvsOk.at (show EvsOk oes from HEs.out.2) j
                  have hl0 : (es ++ oes.take j).length ≤ 200000 := by rw [List.length_append, List.length_take]; have := HLe.out; omega
                  generalize oes.getD j noEv = u at hcu HT hok
                  have h6 := HZ.out.quiet (below_al (Below.refl _ wr) (evO u))
                  have hlk := h6.base.hits.look hok.2.2.2.2.1
                  obtain ⟨w7, hup, hH7, hg7⟩ := h6.base.hits.put u hok (by omega)
                  have H7 := Lib.hid (h6.put hH7 hg7)
                  have hcl := cntA_le (es ++ oes.take j) u.ad
                  obtain ⟨c', hcc'⟩ : ∃ c', c' = cntA (es ++ oes.take j) u.ad := ⟨_, rfl⟩
                  rw [← hcc'] at hlk hup hcl
                  have hcb : c' ≤ 200000 := by omega
                  obtain ⟨e1, e2, e3, e4, e5, e6⟩ := u
                  obtain ⟨c0, c1, c2', c3', c4, c5⟩ := hcu
                  unfold evO at hlk hup
                  dsimp only at hlk hup c0 c1 c2' c3' c4 c5
                  clear hc2 hok HZ h6 hH7 hg7 hcc' hcl hl0 D1 D2
                  obtain ⟨z0, z1, z2, z3⟩ := H7.out.one
                  clear z0 z1 z2 z3
                  go_wp2
                  go_roundw
                  case rel => exact ⟨j + 1, by omega, by congr 1, Lib.hid (by rw [HT.out, ← List.append_assoc]; exact H7.out)⟩
                  case measure => simp [intOf]; omega
                · have hke : oes.take j = oes := List.take_of_length_le (by have := HEs.out.1; omega)
                  have hI := HZ.out
                  rw [hke, ← HPS.out] at hI
                  obtain ⟨z0, z1, z2, z3⟩ := hI.one
                  rw [Nat.zero_add] at z1 z2 z3
                  dsimp only at z0 z1 z2 z3
                  have K1 := Lib.hid (D1.out _ _ hI)
                  clear D1 HZ hke hI HPS
                  rcases HQ.out with q1 | ⟨q1, rfl⟩
                  all_goals
                    go_wp2_with (first
                      | (go_at_call 14; refine K1.out.mono ?_; clear K1; rintro e w5 ⟨rfl, h5⟩; obtain ⟨p0, p1, p2, p3⟩ := h5.two; rw [Nat.zero_add] at p1 p2 p3; unfold bare at p0 p1 p2 p3; dsimp only at p0 p1 p2 p3; have K2 := Lib.hid (D2.out _ _ h5); clear h5 D2)
                      | (go_at_call 14; refine K2.out.mono ?_; clear K2 p0 p1 p2 p3; rintro e w6 ⟨rfl, h6⟩; obtain ⟨p0, p1, p2, p3⟩ := h6.one; rw [Nat.zero_add] at p1 p2 p3; dsimp only at p0 p1 p2 p3; have hlk := h6.base.hits.look had; rw [← HC.out] at hlk; have T6 := Lib.hid h6.base; have K3 := Lib.hid h6.base.ticks; rw [HPt.out.1] at K3; clear h6)
                      | (go_at_call 18; refine K3.out.mono ?_; clear K3; rintro e w7 ⟨rfl, rfl⟩; have K4 := Lib.hid T6.out.ticks2)
                      | (go_at_call 18; refine K4.out.mono ?_; clear K4; rintro e w7 ⟨rfl, rfl⟩; have K5 := Lib.hid (T6.out.all (by omega)); rw [HPt.out.1, HPt.out.2] at K5)
                      | (go_at_call 20; refine K5.out.mono ?_; clear K5; rintro e w7 ⟨rfl, nq, rfl⟩; have T7 := Lib.hid (T6.out.quiet (draws_below _ _ nq)); have K6 := Lib.hid (T7.out.all2 (by omega)); clear T7)
                      | (go_at_call 20; refine K6.out.mono ?_; clear K6; rintro e w8 ⟨rfl, nq2, rfl⟩; have T8 := Lib.hid (T6.out.quiet (draws_below _ _ (nq + nq2))); clear T6))
                    go_roundw
                    case rel => exact ⟨k + 1, by omega, by congr 1, Lib.hid (HE.out _ T8.out)⟩
                    case measure => simp [intOf]; omega
            · have t3 : ((rr : Int) == 3) = false := by simp; omega
              have hee : es' = es := by rw [HES.out, HL3.out.2 (by omega), List.append_nil]
              have K1 := Lib.hid (D1.out _ _ T0.out)
              rw [← hee] at K1
              clear D1 T0 HES HL3 c3 hee
              have hpart : ((c : Int) == 0) = false ∨ (((c : Int) == 0) = true ∧ tv = tv2) := by
                by_cases hc0 : c = 0
                · exact .inr ⟨by simp [hc0], HPT.out hc0⟩
                · exact .inl (by simp; omega)
              clear HPT
              rcases hpart with q1 | ⟨q1, rfl⟩
              all_goals
                go_wp2_with (first
                  | (go_at_call 14; refine K1.out.mono ?_; clear K1; rintro e w5 ⟨rfl, h5⟩; obtain ⟨p0, p1, p2, p3⟩ := h5.two; rw [Nat.zero_add] at p1 p2 p3; unfold bare at p0 p1 p2 p3; dsimp only at p0 p1 p2 p3; have K2 := Lib.hid (D2.out _ _ h5); clear h5 D2)
                  | (go_at_call 14; refine K2.out.mono ?_; clear K2 p0 p1 p2 p3; rintro e w6 ⟨rfl, h6⟩; obtain ⟨p0, p1, p2, p3⟩ := h6.one; rw [Nat.zero_add] at p1 p2 p3; dsimp only at p0 p1 p2 p3; have hlk := h6.base.hits.look had; rw [← HC.out] at hlk; have T6 := Lib.hid h6.base; have K3 := Lib.hid h6.base.ticks; rw [HPt.out.1] at K3; clear h6)
                  | (go_at_call 18; refine K3.out.mono ?_; clear K3; rintro e w7 ⟨rfl, rfl⟩; have K4 := Lib.hid T6.out.ticks2)
                  | (go_at_call 18; refine K4.out.mono ?_; clear K4; rintro e w7 ⟨rfl, rfl⟩; have K5 := Lib.hid (T6.out.all (by omega)); rw [HPt.out.1, HPt.out.2] at K5)
                  | (go_at_call 20; refine K5.out.mono ?_; clear K5; rintro e w7 ⟨rfl, nq, rfl⟩; have T7 := Lib.hid (T6.out.quiet (draws_below _ _ nq)); have K6 := Lib.hid (T7.out.all2 (by omega)); clear T7)
                  | (go_at_call 20; refine K6.out.mono ?_; clear K6; rintro e w8 ⟨rfl, nq2, rfl⟩; have T8 := Lib.hid (T6.out.quiet (draws_below _ _ (nq + nq2))); clear T6))
                go_roundw
                case rel => exact ⟨k + 1, by omega, by congr 1, Lib.hid (HE.out _ T8.out)⟩
                case measure => simp [intOf]; omega
        · obtain ⟨s, r, es, hBs, hAp, hlen⟩ := HI.out
          have T1 := Lib.hid hBs
          have K1 := Lib.hid hBs.words
          have HAl := Lib.hid (And.intro hAp.ls hAp.lr)
          have HAw := Lib.hid hAp.ws
          clear HI hBs hAp hlen
          go_wp2_with (first
            | (go_at_call 22; refine K1.out.mono ?_; clear K1; rintro e w2 ⟨x2, c2, rfl, hO2, hB2⟩; rw [HAl.out.1] at hO2 ⊢; have T2 := Lib.hid (T1.out.quiet hB2); have O2 := Lib.hid hO2; have K2 := Lib.hid T2.out.words2; clear hO2 hB2 T1)
            | (go_at_call 22; refine K2.out.mono ?_; clear K2; rintro e w3 ⟨x3, c3, rfl, hO3, hB3⟩; rw [HAl.out.2] at hO3 ⊢; have T3 : Hid (Base w w3 M N B s r (k * 2) es ∧ Reads .u64 w3 w3.heap.size x2 s.ws ∧ Reads .u64 w3 w3.heap.size x3 r.ws) := Lib.hid ⟨T2.out.quiet hB3, (O2.out.below hB3).rd, hO3.rd⟩; clear hO3 hB3 T2 O2))
          go_loopw [162] (fun i wz => ∃ j : Nat, j ≤ n ∧ i = .int .i64 j ∧ Hid (Base w wz M N B s r (k * 2) es ∧ Reads .u64 wz wz.heap.size x2 s.ws ∧ Reads .u64 wz wz.heap.size x3 r.ws)) (fun i _ => n - (intOf i).toNat)
          case atStart => exact ⟨0, Nat.zero_le _, rfl, T3⟩
          case round =>
            clear T3
            obtain ⟨j, hj, rfl, HZ⟩ := hrel
            by_cases hjl : j < n
            · obtain ⟨b2, off2, rfl, hb2, hc2⟩ := HZ.out.2.1 (by have := HAl.out; omega)
              obtain ⟨b3, off3, rfl, hb3, hc3⟩ := HZ.out.2.2 (by have := HAl.out; omega)
              have ca := hc2 j (by have := HAl.out; omega)
              have cb := hc3 j (by have := HAl.out; omega)
              have hlk : ∀ q, (Instr.lookup 53 (.map (some B)) (.int .i64 (j : Int)) false).run Try.prog (wr.drewN q) = .ok (.int .i64 (cntA es j : Nat)) (wr.drewN q) := fun q => (HZ.out.1.quiet (draws_below _ _ q)).hits.look (by omega)
              have hlk0 := hlk 0
              have hw := HAw.out j
              have HN := Lib.hid (fun q => (show Base w (wr.drewN q) M N B s r (k * 2) es ∧ Reads .u64 (wr.drewN q) (wr.drewN q).heap.size _ s.ws ∧ Reads .u64 (wr.drewN q) (wr.drewN q).heap.size _ r.ws from ⟨HZ.out.1.quiet (draws_below _ _ q), HZ.out.2.1.draws q, HZ.out.2.2.draws q⟩))
              generalize s.ws.getD j 0 = va at ca hw
              generalize r.ws.getD j 0 = vb at cb hw
              generalize cntA es j = c at hlk hlk0 hw
              have djn : decide (j < n) = true := by simpa using hjl
              clear HZ hc2 hc3
              by_cases hc0 : c = 0
              · have q1 : ((c : Int) == 0) = true := by simp [hc0]
                obtain rfl := hw hc0
                clear hw hc0
                go_wp2
                go_quiet (fail)
                go_wp2
                go_roundw
                case rel => exact ⟨j + 1, by omega, by congr 1, Lib.hid (HN.out _)⟩
                case measure => simp [intOf]; omega
              · have q1 : ((c : Int) == 0) = false := by simp; omega
                clear hw hc0
                go_wp2
                go_quiet (fail)
                go_wp2
                go_roundw
                case rel => exact ⟨j + 1, by omega, by congr 1, Lib.hid (HN.out _)⟩
                case measure => simp [intOf]; omega
            · have HB := Lib.hid HZ.out.1.below
              clear HZ
              go_wp2
              go_ret
              exact ⟨rfl, HB.out⟩

set_option maxRecDepth 100000 in
theorem walk_MemApart (a : Int) (x : Option Addr) (m cx : Nat) (ls : List Ev) (y : Option Addr) (L cap : Nat) (os : List OpV) (w : World) (ha : (Lit.int .i64 a).wf = true) (hE : EventIn w x m cx ls) (_hb : m ≤ 2932031007403) (hO : OpIn w y L cap os) :
    Calls Try.prog 7 #[.int .i64 a, .slice x m cx, .slice y L cap] w fun e w' => e = .returned (.bool true) ∧ Below w.heap.size w w' := by
  obtain ⟨a0, a1⟩ := i64_of ha
  have hl : L ≤ 9223372036854775807 := by have := hO.2.1.1; have := hO.2.2.1; unfold maxLen at this; omega
  have HV := Lib.hid (live12_any w)
  by_cases h1 : a < 1
  · have d1 : decide (a < 1) = true := by simpa using h1
    go_enter Try.func7, Try.ntmps7
    go_wp2_with (go_at_call 10; refine HV.out.mono ?_; clear HV; rintro e w1 ⟨rfl, hb1⟩; have B1 := Lib.hid hb1; clear hb1)
    go_ret
    exact ⟨rfl, B1.out⟩
  · cases hf : fewB a m os
    · have d1 : decide (a < 1) = false := by simpa using h1
      have HF := Lib.hid (fun w1 (hb : Below w.heap.size w w1) => few_mem a x m cx y L cap os w1 ((hO.2.2.2.1.below hb).more hb.size) hO.1 hl ⟨a0, a1⟩)
      rw [hf] at HF
      clear hO hf hE
      go_enter Try.func7, Try.ntmps7
      go_wp2_with (first
        | (go_at_call 10; refine HV.out.mono ?_; clear HV; rintro e w1 ⟨rfl, hb1⟩; have B1 := Lib.hid hb1; clear hb1)
        | (go_at_call 11; refine (HF.out w1 B1.out).mono ?_; clear HF; rintro e w2 ⟨rfl, hb2⟩; have B2 := Lib.hid (below_on B1.out hb2); clear hb2))
      go_ret
      exact ⟨rfl, B2.out⟩
    · obtain ⟨h4, h2, h3, -⟩ := fewB_in hf
      obtain ⟨n, rfl⟩ : ∃ n : Nat, a = (n : Int) := ⟨a.toNat, by omega⟩
      exact apart_in n x m cx ls y L cap os w (by omega) (by omega) h4 (by rw [← hO.1]; exact h3) hE hO hf

end Go.Proofs.Ytaphhgiocahnhaa
