/-
  The walk of the law StepWhole, the stage's theorem: it returns true for every prime, all axes, every axis, either way, all words; nothing that was there is written.
-/
import Derived.Test.YtphghklhknadoaaDoorStepA
import Derived.Test.YtphghklhknadoaaDoorGrids
import Derived.Test.YtphghklhknadoaaDoorRows2
import Derived.Deep.CutRange
namespace Go.Proofs.YtphghklhknadoaaDoor
open Go.RowKit

namespace Stp
theorem stepsOf_ok {p : Int} {xa : List Ax} (h : Axes p xa) {k : Nat} (hk : k < xa.length) (inv : Bool) {s : Sp} (hs : s ∈ stepsOf (gN xa k) inv (gL xa k) k) : Sok p xa s := by
  unfold stepsOf at hs
  simp only [List.mem_append, List.mem_map] at hs
  have e : ∀ (t : Fac.Stg) (b : Bool), (⟨(k : Int), b, t⟩ : Sp).ax.toNat = k := fun _ _ => by simp
  rcases hs with (hs | ⟨t, ht, rfl⟩) | hs
  · split at hs
    · obtain rfl : s = ⟨k, true, noSt⟩ := by simpa using hs
      exact ⟨h, by dsimp only; omega, by rw [e]; exact hk, .inl ⟨rfl, rfl⟩⟩
    · simp at hs
  · exact ⟨h, by dsimp only; omega, by rw [e]; exact hk, .inr ⟨rfl, by rw [e]; exact ht⟩⟩
  · split at hs
    · obtain rfl : s = ⟨k, true, noSt⟩ := by simpa using hs
      exact ⟨h, by dsimp only; omega, by rw [e]; exact hk, .inl ⟨rfl, rfl⟩⟩
    · simp at hs
theorem Sok.in' {p : Int} {xa : List Ax} {s : Sp} (h : Sok p xa s) (h4 : xa.length ≤ 4) : SpIn s := by
  have h0 := h.lo
  have h1 := h.hi
  rcases h.is with ⟨_, h2⟩ | ⟨ht, h2⟩
  · refine ⟨by omega, ?_, ?_, ?_⟩ <;> rw [h2] <;> decide
  · obtain ⟨h3, h4', h5, h6⟩ := stgs_three (h.ax.sm' h.hi) h2
    have hL := h.ax.L_le h.hi
    have hm := h3.m1
    have hl := h3.l1
    have hr := h3.r5
    have e := h3.all
    have e1 : s.st.l.toNat ≤ gL xa s.ax.toNat := by rw [← e]; exact Nat.le_mul_of_pos_right _ (Nat.mul_pos (by have := h3.r2; omega) hm)
    have e2 : s.st.m.toNat ≤ gL xa s.ax.toNat := by
      rw [← e]
      exact Nat.le_trans (Nat.le_mul_of_pos_left _ (show 0 < s.st.r.toNat by have := h3.r2; omega)) (Nat.le_mul_of_pos_left _ hl)
    exact ⟨by omega, by omega, by omega, by omega⟩
theorem goS_nums {p : Int} (h : Fp.kn p = true) (xa : List Ax) (inv : Bool) : ∀ (l : List Sp) (xs : List Int), Nums p xs → Nums p (goS p xa inv l xs)
  | [], _, hx => hx
  | s :: l, xs, _ => goS_nums h xa inv l _ (stp_nums h xa inv s xs)
theorem goS_snoc (p : Int) (xa : List Ax) (inv : Bool) (l : List Sp) (s : Sp) (xs : List Int) : goS p xa inv (l ++ [s]) xs = stp p xa inv s (goS p xa inv l xs) := by
  unfold goS; rw [List.foldl_append]; rfl
theorem take_more {α : Type} (l : List α) (d : α) (k : Nat) (h : k < l.length) : l.take (k + 1) = l.take k ++ [l.getD k d] := by
  rw [List.take_succ_eq_append_getElem h, List.getD_eq_getElem?_getD, List.getElem?_eq_getElem h]; rfl
end Stp

set_option maxRecDepth 100000 in
set_option maxHeartbeats 8000000 in
theorem stepwhole_yes (H : StepHas Gl) (p : Int) (x : Option Addr) (n cap : Nat) (xa : List Ax) (k : Nat) (inv : Bool) (y : Option Addr) (m cap' : Nat) (xs : List Int) (w : World) (hG : Gl w) (hx : ReadsA w w.heap.size x xa) (hn : xa.length = n) (hlb : n ≤ 8796093022208)
    (hy : Reads .u64 w w.heap.size y xs) (hm : xs.length = m) (hw : Words xs) (hml : m ≤ maxLen) (hl : m ≤ 40) (hGr : Grid p xa xs) (hk : k < xa.length) (HFew : Hid (∀ W, Below w.heap.size w W → Calls Tryd.prog 13 #[.slice x n cap, .int .i64 32] W (RetB (.bool true) W))) :
    Calls Tryd.prog 5 #[.int .u64 p, .slice x n cap, .int .i64 (k : Int), .bool inv, .slice y m cap'] w fun e w' => e = .returned (.bool true) ∧ Below w.heap.size w w' := by
  have d1 : decide (40 < (m : Int)) = false := by simp; omega
  have HV := Lib.hid (live16_any H _ hG)
  have hA := hGr.ax
  have hk4 : xa.length ≤ 4 := by have := hA.ok.four; rwa [szs_len] at this
  have HAx := Lib.hid (fun W (hB : Below w.heap.size w W) => axis_any p x n cap xa (k : Int) inv y m cap' xs W (hG.then hB) ((hx.below hB).more hB.size) hn hlb ((hy.below hB).more hB.size) hm hw hml)
  rw [hGr.axE hk, hGr.axL hk] at HAx
  have HSt := Lib.hid (fun W => stages_yes (gL xa k) W (hA.sm' hk))
  have hN := hA.int hk
  have hWh := Stp.whole hGr hw hk inv
  have hwl : (thr p xa k inv xs).length = m := by rw [thr_len, hm]
  have hxn : Stp.Nums p xs := fun j => ⟨(hw j).1, by
    by_cases hj : j < xs.length
    · exact hGr.lt j hj
    · rw [List.getD_eq_getElem?_getD, List.getElem?_eq_none (by omega)]; exact Fp.kn_pos hA.kn⟩
  have hkn := hA.kn
  have HDo : Hid (∀ (s : Sp) (z : Option Addr) (c : Nat) (ys : List Int) W, s ∈ Stp.stepsOf (gN xa k) inv (gL xa k) k → Below w.heap.size w W → Reads .u64 W W.heap.size z ys → ys.length = m → Stp.Nums p ys →
      Calls Tryd.prog 14 #[.int .u64 p, .slice x n cap, .bool inv, spV s, .slice z m c] W (LineRet W (Stp.stp p xa inv s ys) 0)) := Lib.hid (fun s z c ys W hs hB hz hl hyn => by
    have hsk := Stp.stepsOf_ok hA hk inv hs
    have hwk : Stp.Wok p xa s ys := ⟨hsk, by rw [hl, ← hm]; exact hGr.len, fun j _ => (hyn j).2⟩
    have := H.doo p x n cap xa inv s z m c ys W (H.keep hG hB) ((hx.below hB).more hB.size) hn hlb (hsk.in' hk4) hz hl (hyn.words hkn) hml
    rwa [hwk.zero, hwk.wL] at this)
  have HLen : Hid (∀ l, (Stp.goS p xa inv l xs).length = m) := Lib.hid (fun l => by rw [Stp.goS_len, hm])
  have HNum : Hid (∀ l, Stp.Nums p (Stp.goS p xa inv l xs)) := Lib.hid (fun l => Stp.goS_nums hkn xa inv l xs hxn)
  have HSn : Hid (∀ l s, Stp.goS p xa inv (l ++ [s]) xs = Stp.stp p xa inv s (Stp.goS p xa inv l xs)) := Lib.hid (fun l s => Stp.goS_snoc p xa inv l s xs)
  have HW0 : Hid (Stp.goS p xa inv [] xs = xs) := Lib.hid rfl
  have hS12 : (Stp.stgs (gL xa k)).length ≤ 12 := by
    unfold Stp.stgs
    rw [Fac.stages_len]
    exact Fac.rads_len _ (hA.L hk) (hA.L_le hk)
  obtain ⟨pre, hpre⟩ : ∃ pre : List Sp, pre = if gN xa k = true ∧ inv = false then [⟨(k : Int), true, noSt⟩] else [] := ⟨_, rfl⟩
  obtain ⟨post, hpost⟩ : ∃ post : List Sp, post = if inv = true then [⟨(k : Int), true, noSt⟩] else [] := ⟨_, rfl⟩
  have hLL : Stp.stepsOf (gN xa k) inv (gL xa k) k = pre ++ ((Stp.stgs (gL xa k)).map fun t => (⟨(k : Int), false, t⟩ : Sp)) ++ post := by rw [hpre, hpost]; rfl
  have hpl : pre.length ≤ 1 := by rw [hpre]; split <;> simp
  rw [hLL] at HDo hWh
  have HX := Lib.hid hx
  have HY := Lib.hid hy
  have HM := Lib.hid hm
  have HKA := Lib.hid hk
  have HNn := Lib.hid hn
  have hdk : decide (k < n) = true := by simp; omega
  have hdn : decide (n ≤ k) = false := by simp; omega
  have hNe : (xa.getD k noAx).neg = gN xa k := rfl
  have HSdef : Fac.stages (gL xa k) (Fac.rads (gL xa k)) 1 = Stp.stgs (gL xa k) := rfl
  rw [HSdef] at HSt
  generalize thr p xa k inv xs = want at HAx hWh hwl
  generalize Stp.stgs (gL xa k) = S at HSt hWh HDo hS12
  generalize gL xa k = N at hN HSt
  generalize gN xa k = neg at hpre hNe
  generalize Stp.goS p xa inv = go at HLen HNum HSn HW0 hWh
  have HWh := Lib.hid hWh
  have HWl := Lib.hid hwl
  have HS12 := Lib.hid hS12
  have HPl := Lib.hid hpl
  have hk4' : (k : Int) ≤ 4 := by omega
  obtain ⟨bx, ox, rfl, hbx, hcx⟩ := hx (by omega)
  obtain ⟨x1, x2⟩ := hcx k hk
  rw [hN] at x1
  rw [hNe] at x2
  have HX1 := Lib.hid x1
  have HX2 := Lib.hid x2
  have hka' : k < n := by omega
  clear hy hG hw hm hn hml H hGr hk hx hcx x1 x2 hA hkn hxn hWh hwl hLL hk4 hS12 HX hpl
  have hmem : ∀ (l : List Sp) (j : Nat), j < l.length → l.getD j noSp ∈ l := fun l j hj => by
    rw [List.getD_eq_getElem?_getD, List.getElem?_eq_getElem hj]
    exact List.getElem_mem hj
  have HMem := Lib.hid hmem
  clear hmem
  cases neg <;> cases inv <;> simp at hpre hpost
  all_goals
    have HPre := Lib.hid hpre
    have HPost := Lib.hid hpost
    clear hpre hpost
    go_enter Tryd.func5, Tryd.ntmps5
    go_upto_region 8 with (first
      | (go_at_call 12; refine HV.out.mono ?_; rintro e w1 ⟨rfl, b1⟩; have B1 := Lib.hid b1; clear b1)
      | (go_at_call 13; refine (HFew.out _ B1.out).mono ?_; rintro e w2 ⟨rfl, b2⟩; have B2 := Lib.hid (below_then B1.out b2); clear b2)
      | (go_at_call 26; refine (HAx.out _ B2.out).mono ?_; rintro e w3 ⟨v, rfl, hO, b3⟩; obtain ⟨y1, c1, rfl, -, -, hr1, -⟩ := hO.form; have R1 := Lib.hid hr1; have B3 := Lib.hid (below_then B2.out b3); rw [HWl.out]; clear b3 hO hr1))
    have x1 := (B3.out.cell (p := ⟨bx, ox + k * 2, none⟩) hbx).trans HX1.out
    go_upto_region 12 with (first
      | (go_at_call 27; refine (HSt.out _).mono ?_; rintro e w4 ⟨v, rfl, hO, b4⟩; obtain ⟨y2, c2, rfl, -, -, hr2⟩ := hO.form; have R2 := Lib.hid hr2; replace R1 := Lib.hid ((R1.out.below b4).more b4.size); have B4 := Lib.hid (below_then B3.out b4); clear b4 hO hr2))
    have x2 := (B4.out.cell (p := ⟨bx, ox + k * 2 + 1, none⟩) hbx).trans HX2.out
    clear x1
    go_wp2_with (at_builtin; refine wpList_append_sp rfl _ _ rfl w4.heap.size _ [] rfl OwnsP.nil ⟨w4.heap.size, 0, none⟩ 1 ⟨(k : Int), true, noSt⟩ rfl (cell_sp_new w4 ⟨(k : Int), true, noSt⟩) (by simp) (by simp) ?_; intro v0 w5 hO5 hg5; have O5 := Lib.hid hO5; have B5 := Lib.hid (((Below.refl _ w4).alloc (Nat.le_refl _) (spO ⟨(k : Int), true, noSt⟩)).grown hg5 (by simp) (fun g e => by cases e)); clear hO5 hg5)
    go_loopw [15, 83] (fun v i wr => ∃ (j : Nat) (o : Value), j ≤ S.length ∧ i = .int .i64 (j : Int) ∧ o = v ∧ Hid (OwnsP wr w4.heap.size o (pre ++ (S.take j).map fun t => (⟨(k : Int), false, t⟩ : Sp))) ∧ Hid (Below w4.heap.size w4 wr)) (fun _ i _ => S.length - (intOf i).toNat)
    case atStart =>
      first
        | exact ⟨0, _, Nat.zero_le _, rfl, rfl, Lib.hid (by rw [HPre.out]; exact O5.out), B5⟩
        | exact ⟨0, _, Nat.zero_le _, rfl, rfl, Lib.hid (by rw [HPre.out]; exact OwnsP.nil), Lib.hid (Below.refl _ _)⟩
    case round =>
      obtain ⟨j, o, hj, rfl, rfl, HO, HBr⟩ := hrel
      by_cases hlj : j < S.length
      · have hdj : decide (j < S.length) = true := by simpa using hlj
        have hSb := HS12.out
        obtain ⟨bs, os, rfl, hbs, hcs⟩ := R2.out (by omega)
        obtain ⟨s0, s1, s2⟩ := hcs j hlj
        have k0 := (HBr.out.cell (p := ⟨bs, os + j * 3, none⟩) hbs).trans s0
        have k1 := (HBr.out.cell (p := ⟨bs, os + j * 3 + 1, none⟩) hbs).trans s1
        have k2 := (HBr.out.cell (p := ⟨bs, os + j * 3 + 2, none⟩) hbs).trans s2
        have HTk := Lib.hid (Stp.take_more S noStg j hlj)
        obtain ⟨t, ht⟩ : ∃ t, t = S.getD j noStg := ⟨_, rfl⟩
        rw [← ht] at k0 k1 k2 HTk
        have hLn : (pre ++ (S.take j).map fun t => (⟨(k : Int), false, t⟩ : Sp)).length ≤ 20 := by
          have := HPl.out
          have := HS12.out
          simp
          omega
        have HLn := Lib.hid hLn
        obtain ⟨r, l, mm⟩ := t
        dsimp only at k0 k1 k2
        clear ht hcs s0 s1 s2 hLn
        go_upto_region 17 with fail
        have C3 : (wr.alloc (.cells #[.int .i64 r, .int .i64 l, .int .i64 mm] 25)).cell? ⟨wr.heap.size, 0, none⟩ = some (.int .i64 r) := by simp
        have C4 : (wr.alloc (.cells #[.int .i64 r, .int .i64 l, .int .i64 mm] 25)).cell? ⟨wr.heap.size, 1, none⟩ = some (.int .i64 l) := by simp
        have C5 : (wr.alloc (.cells #[.int .i64 r, .int .i64 l, .int .i64 mm] 25)).cell? ⟨wr.heap.size, 2, none⟩ = some (.int .i64 mm) := by simp
        have HB3 := Lib.hid (HBr.out.alloc HBr.out.size (.cells #[.int .i64 r, .int .i64 l, .int .i64 mm] 25))
        have HO3 := Lib.hid (HO.out.alloc (.cells #[.int .i64 r, .int .i64 l, .int .i64 mm] 25))
        obtain ⟨W3, hW3⟩ : ∃ W3, W3 = wr.alloc (.cells #[.int .i64 r, .int .i64 l, .int .i64 mm] 25) := ⟨_, rfl⟩
        rw [← hW3] at C3 C4 C5 HB3 HO3 ⊢
        clear hW3 k0 k1 k2
        go_wp2_with (at_builtin; refine wpList_append_sp rfl _ _ rfl w4.heap.size _ _ rfl (HO3.out.alloc _) ⟨W3.heap.size, 0, none⟩ 1 ⟨(k : Int), false, ⟨r, l, mm⟩⟩ rfl (cell_sp_new W3 ⟨(k : Int), false, ⟨r, l, mm⟩⟩) (by have := HLn.out; omega) (by have := HB3.out.size; simp; omega) ?_; intro v' w6 hO6 hg6; have O6 := Lib.hid hO6; have B6 := Lib.hid ((HB3.out.alloc HB3.out.size (spO ⟨(k : Int), false, ⟨r, l, mm⟩⟩)).grown hg6 (by have := HB3.out.size; simp; omega) (fun g e => (HO3.out.inside e).1)); clear hO6 hg6)
        go_roundw
        case rel =>
          refine ⟨j + 1, v', by omega, by go_num, rfl, Lib.hid ?_, B6⟩
          rw [HTk.out, List.map_append, ← List.append_assoc]
          exact O6.out
        case measure => simp [intOf]; omega
      · obtain rfl : j = S.length := by omega
        have hdj : decide (S.length < S.length) = false := by simp
        have hLn : (pre ++ (S.take S.length).map fun t => (⟨(k : Int), false, t⟩ : Sp)).length ≤ 20 := by
          have := HPl.out
          have := HS12.out
          simp
          omega
        rw [List.take_length] at HO hLn
        have HLn := Lib.hid hLn
        obtain ⟨M1, hM1⟩ : ∃ M1, M1 = pre ++ S.map fun t => (⟨(k : Int), false, t⟩ : Sp) := ⟨_, rfl⟩
        rw [← hM1] at HO HLn HDo HWh
        clear hM1 hLn
        obtain ⟨L, hL⟩ : ∃ L, L = M1 ++ post := ⟨_, rfl⟩
        rw [← hL] at HDo HWh
        have HL := Lib.hid hL
        have HLb : Hid (L.length ≤ 21) := Lib.hid (by
          have h1 := HLn.out
          have h2 : post.length ≤ 1 := by rw [HPost.out]; simp
          rw [hL, List.length_append]
          omega)
        clear hL x2
        first
          | (have hp : post = [] := HPost.out
             have hML : M1 = L := by rw [HL.out, hp, List.append_nil]
             rw [hML] at HO
             obtain ⟨xl, cl, rfl, -, -, hrl⟩ := HO.out.form
             have RL := Lib.hid hrl
             have BL := Lib.hid HBr.out
             obtain ⟨wL, rfl⟩ : ∃ W, W = wr := ⟨_, rfl⟩
             clear hp hML hrl HBr HO
             go_wp2)
          | (go_wp2_with (at_builtin; refine wpList_append_sp rfl _ _ rfl w4.heap.size _ _ rfl (HO.out.alloc _) ⟨wr.heap.size, 0, none⟩ 1 ⟨(k : Int), true, noSt⟩ rfl (cell_sp_new wr ⟨(k : Int), true, noSt⟩) (by have := HLn.out; omega) (by have := HBr.out.size; simp; omega) ?_; intro v' wL hO6 hg6; have BL := Lib.hid ((HBr.out.alloc HBr.out.size (spO ⟨(k : Int), true, noSt⟩)).grown hg6 (by have := HBr.out.size; simp; omega) (fun g e => (HO.out.inside e).1)); have hML : M1 ++ [⟨(k : Int), true, noSt⟩] = L := (by rw [HL.out, HPost.out]); rw [hML] at hO6; obtain ⟨xl, cl, rfl, -, -, hrl⟩ := hO6.form; have RL := Lib.hid hrl; clear hO6 hg6 hML hrl))
        go_loopw [4, 102] (fun v i wr => ∃ (j : Nat) (z : Option Addr) (c : Nat), j ≤ L.length ∧ i = .int .i64 (j : Int) ∧ v = .slice z m c ∧ Hid (Reads .u64 wr wr.heap.size z (go (L.take j) xs)) ∧ Hid (Below wL.heap.size wL wr)) (fun _ i _ => L.length - (intOf i).toNat)
        case atStart =>
          refine ⟨0, _, _, Nat.zero_le _, rfl, rfl, Lib.hid ?_, Lib.hid (Below.refl _ _)⟩
          have hb := below_then B4.out BL.out
          rw [List.take_zero, HW0.out]
          exact (HY.out.below hb).more hb.size
        case round =>
          obtain ⟨j, z, c, hj, rfl, rfl, HR, HBr⟩ := hrel
          by_cases hlj : j < L.length
          · have hdj : decide (j < L.length) = true := by simpa using hlj
            have hLb := HLb.out
            obtain ⟨bs, os, rfl, hbs, hcs⟩ := RL.out (by omega)
            obtain ⟨s0, s1, s2, s3, s4⟩ := hcs j hlj
            have k0 := (HBr.out.cell (p := ⟨bs, os + j * 5, none⟩) hbs).trans s0
            have k1 := (HBr.out.cell (p := ⟨bs, os + j * 5 + 1, none⟩) hbs).trans s1
            have k2 := (HBr.out.cell (p := ⟨bs, os + j * 5 + 2, none⟩) hbs).trans s2
            have k3 := (HBr.out.cell (p := ⟨bs, os + j * 5 + 3, none⟩) hbs).trans s3
            have k4 := (HBr.out.cell (p := ⟨bs, os + j * 5 + 4, none⟩) hbs).trans s4
            have HTk := Lib.hid (Stp.take_more L noSp j hlj)
            have HIn := Lib.hid (HMem.out L j hlj)
            obtain ⟨t, ht⟩ : ∃ t, t = L.getD j noSp := ⟨_, rfl⟩
            rw [← ht] at k0 k1 k2 k3 k4 HTk HIn
            obtain ⟨sa, sw, sr, sl, sm⟩ := t
            dsimp only at k0 k1 k2 k3 k4
            clear ht hcs s0 s1 s2 s3 s4
            go_upto_region 24 with fail
            have SA := Lib.hid (SpAt.new wr 27 ⟨sa, sw, sr, sl, sm⟩)
            have HB3 := Lib.hid (below_al HBr.out (.cells #[.int .i64 sa, .bool sw, .int .i64 sr, .int .i64 sl, .int .i64 sm] 27))
            have HR3 := Lib.hid ((HR.out.below (below_al (Below.refl _ wr) (.cells #[.int .i64 sa, .bool sw, .int .i64 sr, .int .i64 sl, .int .i64 sm] 27))).more (below_al (Below.refl _ wr) (.cells #[.int .i64 sa, .bool sw, .int .i64 sr, .int .i64 sl, .int .i64 sm] 27)).size)
            dsimp only at SA
            obtain ⟨W3, hW3⟩ : ∃ W3, W3 = wr.alloc (.cells #[.int .i64 sa, .bool sw, .int .i64 sr, .int .i64 sl, .int .i64 sm] 27) := ⟨_, rfl⟩
            rw [← hW3] at SA HB3 HR3 ⊢
            obtain ⟨q0, q1, q2, q3, q4⟩ := SA.out
            dsimp only at q0 q1 q2 q3 q4
            clear hW3 k0 k1 k2 k3 k4
            have HD3 := Lib.hid (HDo.out ⟨sa, sw, sr, sl, sm⟩ z c _ W3 HIn.out (below_then (below_then B4.out BL.out) HB3.out) HR3.out (HLen.out _) (HNum.out _))
            rw [← HSn.out] at HD3
            unfold spV at HD3
            dsimp only at HD3
            go_wp2_with (go_at_call 14; refine HD3.out.mono ?_; rintro e w7 ⟨v, rfl, hO, b7⟩; obtain ⟨y7, c7, rfl, -, -, hr7, -⟩ := hO.form; have R7 := Lib.hid hr7; have B7 := Lib.hid (below_then HB3.out b7); rw [HLen.out]; clear b7 hO hr7)
            go_roundw
            case rel => exact ⟨j + 1, _, _, by omega, by go_num, rfl, Lib.hid (by rw [HTk.out]; exact R7.out), B7⟩
            case measure => simp [intOf]; omega
          · obtain rfl : j = L.length := by omega
            have hdj : decide (L.length < L.length) = false := by simp
            rw [List.take_length, HWh.out] at HR
            have hb4 := below_then BL.out HBr.out
            have R1' := Lib.hid ((R1.out.below hb4).more hb4.size)
            have HF := Lib.hid (below_then B4.out hb4)
            clear hb4
            go_wp2_with (go_at_call 18; refine (same_self z y1 m c c1 want _ wr.heap.size HR.out R1'.out HWl.out (by omega)).mono ?_; rintro e w' ⟨rfl, n6, rfl⟩)
            go_ret
            exact ⟨rfl, below_draws HF.out _⟩

set_option maxRecDepth 100000 in
set_option maxHeartbeats 4000000 in
theorem stepwhole_any (H : StepHas Gl) (p : Int) (x : Option Addr) (n cap : Nat) (xa : List Ax) (a : Int) (inv : Bool) (y : Option Addr) (m cap' : Nat) (xs : List Int) (w : World) (hG : Gl w) (hx : ReadsA w w.heap.size x xa) (hn : xa.length = n) (hlb : n ≤ 8796093022208)
    (hy : Reads .u64 w w.heap.size y xs) (hm : xs.length = m) (hw : Words xs) (hml : m ≤ maxLen) :
    Calls Tryd.prog 5 #[.int .u64 p, .slice x n cap, .int .i64 a, .bool inv, .slice y m cap'] w fun e w' => e = .returned (.bool true) ∧ Below w.heap.size w w' := by
  have HV := Lib.hid (live16_any H _ hG)
  obtain ⟨b, HFew⟩ := few_any x n cap xa 32 w hx hn hlb
  cases b
  · clear hx hy hG hw hm hn hml H
    go_enter Tryd.func5, Tryd.ntmps5
    go_wp2_with (first
      | (go_at_call 12; refine HV.out.mono ?_; rintro e w1 ⟨rfl, b1⟩; have B1 := Lib.hid b1; clear b1)
      | (go_at_call 13; refine (HFew.out _ B1.out).mono ?_; rintro e w2 ⟨rfl, b2⟩; have B2 := Lib.hid (below_then B1.out b2); clear b2))
    go_ret
    exact ⟨rfl, B2.out⟩
  by_cases hl : 40 < m
  · have d1 : decide (40 < (m : Int)) = true := by simp; omega
    clear hx hy hG hw hm hn hml H
    go_enter Tryd.func5, Tryd.ntmps5
    go_wp2_with (first
      | (go_at_call 12; refine HV.out.mono ?_; rintro e w1 ⟨rfl, b1⟩; have B1 := Lib.hid b1; clear b1)
      | (go_at_call 13; refine (HFew.out _ B1.out).mono ?_; rintro e w2 ⟨rfl, b2⟩; have B2 := Lib.hid (below_then B1.out b2); clear b2))
    go_ret
    exact ⟨rfl, B2.out⟩
  by_cases hE : axE p xa a xs = 0
  · obtain ⟨hGr, k, rfl, hk⟩ := axE_zero hE
    exact stepwhole_yes H p x n cap xa k inv y m cap' xs w hG hx hn hlb hy hm hw hml (by omega) hGr hk HFew
  have d1 : decide (40 < (m : Int)) = false := by simp; omega
  have HAx := Lib.hid (fun W (hB : Below w.heap.size w W) => axis_any p x n cap xa a inv y m cap' xs W (hG.then hB) ((hx.below hB).more hB.size) hn hlb ((hy.below hB).more hB.size) hm hw hml)
  rw [axL_no hE] at HAx
  have t := ne_of_bne hE
  generalize axE p xa a xs = er at HAx t
  clear hx hy hG hw hm hn hml H hE
  go_enter Tryd.func5, Tryd.ntmps5
  go_wp2_with (first
    | (go_at_call 12; refine HV.out.mono ?_; rintro e w1 ⟨rfl, b1⟩; have B1 := Lib.hid b1; clear b1)
    | (go_at_call 13; refine (HFew.out _ B1.out).mono ?_; rintro e w2 ⟨rfl, b2⟩; have B2 := Lib.hid (below_then B1.out b2); clear b2)
    | (go_at_call 26; refine (HAx.out _ B2.out).mono ?_; rintro e w3 ⟨v, rfl, hO, b3⟩; obtain ⟨y1, c1, rfl, -, -, -, -⟩ := hO.form; have B3 := Lib.hid (below_then B2.out b3); simp only [List.length_nil]; clear b3 hO))
  go_ret
  exact ⟨rfl, B3.out⟩

theorem stepwhole_walk (H : StepHas Gl) (p : Int) (x : Option Addr) (len cap : Nat) (xa : List Ax) (a : Int) (inv : Bool) (y : Option Addr) (m cap' : Nat) (zs : List Int) (w : World) (_hp : (Lit.int .u64 p).wf = true) (hA : AxisIn w x len cap xa) (hlb : len ≤ 8796093022208) (_ha : (Lit.int .i64 a).wf = true) (hr : RowIn .u64 w y m cap' zs) (hG : Gl w) :
    Calls Tryd.prog 5 #[.int .u64 p, .slice x len cap, .int .i64 a, .bool inv, .slice y m cap'] w fun e w' => e = .returned (.bool true) ∧ Below w.heap.size w w' := by
  obtain ⟨hn, hc1, hc2, hx, -⟩ := hA
  obtain ⟨xs, -, hm, hcp, hml, hy, hw⟩ := hr.reads
  exact stepwhole_any H p x len cap xa a inv y m cap' xs w hG hx hn hlb hy hm hw (Nat.le_trans hcp hml)

end Go.Proofs.YtphghklhknadoaaDoor
