/-
  The walk of the law FlyDft: it returns true for every prime, every slice of words, either way; nothing that was there is written.
-/
import Derived.Test.YtmcnamlgbkbiaaaDoorFlyHas
import Derived.Test.YtmcnamlgbkbiaaaDoorDft
import Derived.Test.YtmcnamlgbkbiaaaDoorOwn
import Derived.Deep.RegionWith
namespace Go.Proofs.YtmcnamlgbkbiaaaDoor
open Go.RowKit Fly

namespace Fly
theorem line_doE {p : Int} {xs : List Int} (h2 : 2 ≤ xs.length) (h5 : xs.length ≤ 5) : lineE p xs false = doE p xs := by
  have hs : Fac.sm (xs.length : Int) = true := by
    rcases (by omega : xs.length = 2 ∨ xs.length = 3 ∨ xs.length = 4 ∨ xs.length = 5) with e | e | e | e <;> rw [e] <;> decide
  unfold lineE doE
  rw [hs, od_false]
  rcases ptE_cases p (xs.length : Int) with ⟨h, hE⟩ | ⟨h, h1, hE⟩ | ⟨h, -, -, h3, -, hE⟩ | ⟨h, -, -, h3, -, hE⟩
  · rw [if_pos h, if_neg (by omega), hE]
  · omega
  · have hd : (p - 1) % ((xs.length : Nat) : Int) ≠ 0 := fun e => by
      unfold rootE at h3
      rw [if_neg (by simp [h]), if_neg (by omega), if_neg (by simp [e])] at h3
      omega
    rw [if_neg (by simp [h]), if_neg (by simp), if_pos hd, if_neg (by omega), hE]
  · have hd : (p - 1) % ((xs.length : Nat) : Int) = 0 := by
      unfold rootE at h3
      rw [if_neg (by simp [h.kn]), if_neg (by omega)] at h3
      split at h3
      · omega
      · rename_i c; omega
    rw [if_neg (by simp [h.kn]), if_neg (by simp), if_neg (by simp [hd]), if_pos hE]
    show (if inB p xs = false then (7 : Int) else 0) = _
    cases inB p xs <;> simp
theorem fwd_doL {p : Int} {xs : List Int} (h2 : 2 ≤ xs.length) (h5 : xs.length ≤ 5) : fwd p xs false = doL p false xs := by
  unfold fwd doL
  rw [line_doE h2 h5]
  have e : fwdN p xs false = doN p false xs.length (el xs) := by
    funext k
    unfold fwdN doN rtl root
    rw [od_false]
    rfl
  rw [e]
/-- What undoes the radix. -/
theorem Rdx.undone {p : Int} {n : Nat} (h : Rdx p n) : Fp.eqm p (Fp.inv p n * (n : Int)) 1 := by
  obtain ⟨h1, h2⟩ := And.intro h.lo h.hi
  obtain ⟨p1, p2⟩ := Fp.kn_bd h.kn
  have hz : Fp.red p (n : Int) ≠ 0 := by
    have : Fp.red p (n : Int) = (n : Int) % p := by unfold Fp.red; rw [if_pos h.kn]
    rw [this, Int.emod_eq_of_lt (by omega) (by omega)]
    omega
  have := Fp.mul_inv h.kn hz
  rw [Fp.mul_kn _ _ h.kn] at this
  rw [Int.mul_comm] at this
  unfold Fp.eqm
  rw [Int.mul_comm, Int.mul_comm (n : Int)] at *
  first
    | (rw [this, Int.emod_eq_of_lt (by omega) (by omega)])
    | (rw [Int.mul_comm, this, Int.emod_eq_of_lt (by omega) (by omega)])
/-- Back, times the radix. -/
theorem bwd_doL {p : Int} {xs : List Int} (h2 : 2 ≤ xs.length) (h5 : xs.length ≤ 5) : (bwd p xs false).length = (doL p true xs).length ∧ ∀ j, j < (doL p true xs).length → Fp.mul p ((bwd p xs false).getD j 0) (xs.length : Int) = (doL p true xs).getD j 0 := by
  unfold bwd
  rw [line_doE h2 h5]
  by_cases hE : doE p xs = 0
  · have hf := doE_zero hE
    rw [if_pos hE, hf.doL]
    refine ⟨by simp, fun j hj => ?_⟩
    have hj' : j < xs.length := by simpa using hj
    have e1 : ((List.range xs.length).map (bwdN p xs false)).getD j 0 = bwdN p xs false j := el_map _ hj'
    have e2 : ((List.range xs.length).map (doN p true xs.length (el xs))).getD j 0 = doN p true xs.length (el xs) j := el_map _ hj'
    rw [e1, e2]
    obtain ⟨a, -, b⟩ := Fp.mul_bd p (bwdN p xs false j) (xs.length : Int)
    refine same_of ?_ ⟨a, b hf.rdx.kn⟩ (doN_bd hf.rdx.kn j)
    rw [Fp.mul_kn _ _ hf.rdx.kn]
    refine (Fp.eqm_md p _).trans (Fp.eqm.trans ?_ (doN_eqm j).symm)
    have hb : Fp.eqm p (bwdN p xs false j) (Fp.fw (root p true xs.length) false xs.length (el xs) j * Fp.inv p xs.length) := by
      unfold bwdN
      rw [Fp.mul_kn _ _ hf.rdx.kn, bw_is]
      refine (Fp.eqm_md p _).trans ?_
      have e3 : bkl p false xs.length = root p true xs.length := by unfold bkl rtl root; rw [od_false]; rfl
      rw [e3]
      exact (Fp.eqm_md p _).mul Fp.eqm.rfl
    refine (hb.mul Fp.eqm.rfl).trans ?_
    rw [Int.mul_assoc]
    have := (Fp.eqm.rfl (p := p) (a := Fp.fw (root p true xs.length) false xs.length (el xs) j)).mul hf.rdx.undone
    rwa [Int.mul_one] at this
  · have e1 : doL p true xs = [] := by unfold doL; rw [if_neg hE]
    rw [if_neg hE, e1]
    exact ⟨rfl, fun j hj => by simp at hj⟩
theorem doL_words (p : Int) (inv : Bool) (xs : List Int) : Words (doL p inv xs) := by
  by_cases hE : doE p xs = 0
  · exact (doE_zero hE).words inv
  · unfold doL; rw [if_neg hE]; exact fun j => by simp
theorem bwd_words (p : Int) (xs : List Int) : Words (bwd p xs false) := by
  unfold bwd
  split
  · intro j
    by_cases hj : j < xs.length
    · have e1 : ((List.range xs.length).map (bwdN p xs false)).getD j 0 = bwdN p xs false j := el_map _ hj
      rw [e1]
      unfold bwdN
      obtain ⟨a, b, -⟩ := Fp.mul_bd p (Fp.bw (bkl p false xs.length) false xs.length (nth xs) j % p) (Fp.inv p xs.length)
      omega
    · rw [List.getD_eq_getElem?_getD, List.getElem?_eq_none (by simp; omega)]
      exact ⟨Int.le_refl _, by decide⟩
  · exact fun j => by simp
end Fly

set_option maxRecDepth 100000 in
set_option maxHeartbeats 2000000 in
theorem flydft_there (H : FlyHas Gl) (p : Int) (x : Option Addr) (n cap : Nat) (xs : List Int) (w : World) (hG : Gl w) (hx : Reads .u64 w w.heap.size x xs) (hn : xs.length = n) (hw : Words xs) (h2 : 2 ≤ n) (hl : n ≤ 5) :
    Calls Tryd.prog 7 #[.int .u64 p, .bool false, .slice x n cap] w fun e w' => e = .returned (.bool true) ∧ Below w.heap.size w w' := by
  subst hn
  have hdl : decide (5 < (xs.length : Int)) = false := by simp; omega
  have hd2 : decide ((xs.length : Int) < 2) = false := by simp; omega
  have hml : xs.length ≤ maxLen := by unfold maxLen; omega
  have HF := Lib.hid (fun W (hB : Below w.heap.size w W) => H.doo p false x xs.length cap xs W (H.keep hG hB) ((hx.below hB).more hB.size) rfl hw hml)
  have HD := Lib.hid (fun W (hB : Below w.heap.size w W) => forward_any p x xs.length cap xs false W (hG.then hB) ((hx.below hB).more hB.size) rfl hw hml)
  rw [fwd_doL h2 hl, line_doE h2 hl] at HD
  have HV := Lib.hid (live15_any H w hG)
  have HL : Hid ((doL p false xs).length ≤ 5) := Lib.hid (by unfold doL; split <;> simp; omega)
  have HW := Lib.hid (doL_words p false xs)
  generalize doL p false xs = ys at HF HD HL HW
  generalize doE p xs = er at HF HD
  have n1 : (er != er) = false := by simp
  have n2 : ((ys.length : Int) != (ys.length : Int)) = false := by simp
  clear H hG hx hw
  go_enter Tryd.func7, Tryd.ntmps7
  go_wp2_with (first
    | (go_at_call 10; refine HV.out.mono ?_; rintro e w1 ⟨rfl, b1⟩; have B1 := Lib.hid b1; clear b1)
    | (go_at_call 13; refine (HF.out _ B1.out).mono ?_; rintro e w2 ⟨v, rfl, hO, b2⟩; obtain ⟨y1, c1, rfl, -, -, hr1, -⟩ := hO.form; have R1 := Lib.hid hr1; have B2 := Lib.hid (below_then B1.out b2); clear b2 hO hr1)
    | (go_at_call 21; refine (HD.out _ B2.out).mono ?_; rintro e w3 ⟨v, rfl, hO, b3⟩; obtain ⟨y2, c2, rfl, -, -, hr2, -⟩ := hO.form; have R2 := Lib.hid hr2; replace R1 := Lib.hid ((R1.out.below b3).more b3.size); have B3 := Lib.hid (below_then B2.out b3); clear b3 hO hr2))
  go_loopw [54] (fun i wi => ∃ j q : Nat, j ≤ ys.length ∧ i = .int .i64 (j : Int) ∧ wi = w3.drewN q) (fun i _ => ys.length - (intOf i).toNat)
  case atStart => exact ⟨0, 0, Nat.zero_le _, rfl, rfl⟩
  case round =>
    obtain ⟨j, q, hj, rfl, hq⟩ := hrel
    by_cases hlj : j < ys.length
    · have hdj : decide (j < ys.length) = true := by simpa using hlj
      obtain ⟨d1, o1, rfl, -, hc1⟩ := R1.out (by omega)
      obtain ⟨d2, o2, rfl, -, hc2⟩ := R2.out (by omega)
      have a1 := hc1 j hlj
      have a2 := hc2 j hlj
      obtain ⟨u0, u1⟩ := HW.out j
      obtain ⟨u, hu⟩ : ∃ u, u = ys.getD j 0 := ⟨_, rfl⟩
      rw [← hu] at a1 a2 u0 u1
      have hcq : ∀ ad, w3.cell? ad = wr.cell? ad := fun ad => by rw [hq]; rfl
      rw [hcq] at a1 a2
      have HQ := Lib.hid hq
      have n3 : (u != u) = false := by simp
      have hlb : (ys.length : Int) ≤ 5 := by have := HL.out; omega
      clear hc1 hc2 hu hcq hq
      go_wp2
      go_quiet (fail)
      go_wp2
      go_roundw
      case rel => exact ⟨j + 1, _, by omega, by go_num, by rw [HQ.out, World.drewN_drewN]⟩
      case measure => simp [intOf]; omega
    · have HQ : Hid (Below w.heap.size w wr) := Lib.hid (by rw [hq]; exact below_draws B3.out q)
      have hdj : decide (j < ys.length) = false := by simp; omega
      clear hq
      go_wp2
      go_ret
      exact ⟨rfl, HQ.out⟩

/-- The rest of the row is as it was. -/
def Rest (ms zs : List Int) (j : Nat) : Prop := zs.length = ms.length ∧ ∀ i, j ≤ i → zs.getD i 0 = ms.getD i 0
theorem Rest.put {ms zs : List Int} {j : Nat} (h : Rest ms zs j) (u : Int) : Rest ms (zs.set j u) (j + 1) := by
  refine ⟨by rw [List.length_set]; exact h.1, fun i hi => ?_⟩
  rw [List.getD_eq_getElem?_getD, List.getElem?_set_ne (by omega), ← List.getD_eq_getElem?_getD]
  exact h.2 i (by omega)

set_option maxRecDepth 100000 in
set_option maxHeartbeats 4000000 in
theorem flydft_back (H : FlyHas Gl) (p : Int) (x : Option Addr) (n cap : Nat) (xs : List Int) (w : World) (hG : Gl w) (hx : Reads .u64 w w.heap.size x xs) (hn : xs.length = n) (hw : Words xs) (h2 : 2 ≤ n) (hl : n ≤ 5) :
    Calls Tryd.prog 7 #[.int .u64 p, .bool true, .slice x n cap] w fun e w' => e = .returned (.bool true) ∧ Below w.heap.size w w' := by
  subst hn
  have hdl : decide (5 < (xs.length : Int)) = false := by simp; omega
  have hd2 : decide ((xs.length : Int) < 2) = false := by simp; omega
  have hml : xs.length ≤ maxLen := by unfold maxLen; omega
  have HF := Lib.hid (fun W (hB : Below w.heap.size w W) => H.doo p true x xs.length cap xs W (H.keep hG hB) ((hx.below hB).more hB.size) rfl hw hml)
  have HD := Lib.hid (fun W (hB : Below w.heap.size w W) => forward_any p x xs.length cap xs false W (hG.then hB) ((hx.below hB).more hB.size) rfl hw hml)
  have HI := Lib.hid (fun W (hB : Below w.heap.size w W) => inverse_any p x xs.length cap xs false W (hG.then hB) ((hx.below hB).more hB.size) rfl hw hml)
  rw [line_doE h2 hl] at HI
  have HV := Lib.hid (live15_any H w hG)
  have HL : Hid ((doL p true xs).length ≤ 5) := Lib.hid (by unfold doL; split <;> simp; omega)
  have HW := Lib.hid (doL_words p true xs)
  have HWb := Lib.hid (bwd_words p xs)
  obtain ⟨hb1, hb2⟩ := bwd_doL (p := p) h2 hl
  have HB1 := Lib.hid hb1
  have HB2 := Lib.hid hb2
  generalize fwd p xs false = fs at HD
  generalize lineE p xs false = fe at HD
  generalize doL p true xs = ys at HF HL HW HB1 HB2
  generalize bwd p xs false = ms at HI HWb HB1 HB2
  generalize doE p xs = er at HF HI
  have n1 : (er != er) = false := by simp
  have n2 : ((ys.length : Int) != (ys.length : Int)) = false := by simp
  clear H hG hx hw hb1 hb2
  go_enter Tryd.func7, Tryd.ntmps7
  go_wp2_with (first
    | (go_at_call 10; refine HV.out.mono ?_; rintro e w1 ⟨rfl, b1⟩; have B1 := Lib.hid b1; clear b1)
    | (go_at_call 13; refine (HF.out _ B1.out).mono ?_; rintro e w2 ⟨v, rfl, hO, b2⟩; obtain ⟨y1, c1, rfl, -, -, hr1, -⟩ := hO.form; have R1 := Lib.hid hr1; have B2 := Lib.hid (below_then B1.out b2); clear b2 hO hr1)
    | (go_at_call 21; refine (HD.out _ B2.out).mono ?_; rintro e w3 ⟨v, rfl, hO, b3⟩; obtain ⟨y2, c2, rfl, -, -, -, -⟩ := hO.form; replace R1 := Lib.hid ((R1.out.below b3).more b3.size); have B3 := Lib.hid (below_then B2.out b3); clear b3 hO)
    | (go_at_call 22; refine (HI.out _ B3.out).mono ?_; rintro e w4 ⟨v, rfl, hO4, hb4⟩; obtain ⟨y3, c3, rfl, -, -, -, hg3⟩ := hO4.form; have O4 := Lib.hid hO4; have b4 := Lib.hid hb4; have G3 := Lib.hid hg3; rw [HB1.out]; clear hb4 hO4 hg3))
  go_loopw [54] (fun i wi => ∃ (j : Nat) (zs : List Int), j ≤ ys.length ∧ i = .int .i64 (j : Int) ∧ Hid (Rest ms zs j) ∧ Hid (Owns .u64 22 wi w3.heap.size (.slice y3 ys.length c3) zs) ∧ Hid (Below w3.heap.size w3 wi)) (fun i _ => ys.length - (intOf i).toNat)
  case atStart => exact ⟨0, ms, Nat.zero_le _, rfl, Lib.hid ⟨rfl, fun _ _ => rfl⟩, Lib.hid (by have := O4.out; rw [HB1.out] at this; exact this), b4⟩
  case round =>
    obtain ⟨j, zs, hj, rfl, HR, HO, HBr⟩ := hrel
    by_cases hlj : j < ys.length
    · have hdj : decide (j < ys.length) = true := by simpa using hlj
      have hlb : (ys.length : Int) ≤ 5 := by have := HL.out; omega
      obtain ⟨d1, o1, rfl, hd1, hc1⟩ := R1.out (by omega)
      obtain ⟨g, rfl, hg1, hg2⟩ := G3.out (by rw [HB1.out]; omega)
      have hzl : zs.length = ys.length := HR.out.1.trans HB1.out
      have k1 := HO.out.num hzl hlj
      rw [HR.out.2 j (Nat.le_refl j)] at k1
      have f1 := HO.out.melt hzl j
      have HP := Lib.hid (HO.out.put hzl j (ys.getD j 0))
      have HRp := Lib.hid (HR.out.put (ys.getD j 0))
      have HBp := Lib.hid (HBr.out.setCell (p := ⟨g, j, none⟩) hg1 (.int .u64 (ys.getD j 0)))
      have HE := HB2.out j hlj
      obtain ⟨m0, m1⟩ := HWb.out j
      obtain ⟨u0, u1⟩ := HW.out j
      have hc := hc1 j hlj
      obtain ⟨u, hu⟩ : ∃ u, u = ys.getD j 0 := ⟨_, rfl⟩
      obtain ⟨m, hm⟩ : ∃ m, m = ms.getD j 0 := ⟨_, rfl⟩
      rw [← hu] at HP HRp HBp HE hc u0 u1
      rw [← hm] at k1 HE m0 m1
      have a1 : (wr.setCell ⟨g, j, none⟩ (.int .u64 u)).cell? ⟨d1, o1 + j, none⟩ = some (.int .u64 u) := (HBp.out.cell (p := ⟨d1, o1 + j, none⟩) hd1).trans hc
      have a2 := HP.out.num (by rw [List.length_set]; exact hzl) hlj
      rw [getD_put _ _ _ _ (by omega), if_pos rfl] at a2
      have hwr : IntKind.u64.wrap (xs.length : Int) = (xs.length : Int) := by rw [IntKind.wrap_u64]; omega
      have n3 : (u != u) = false := by simp
      have A1 := Lib.hid a1
      have A2 := Lib.hid a2
      have HEE := Lib.hid HE
      clear hc1 hc hu hm a1 a2 HE HR HO
      go_wp2_with (go_at_call 19; refine (mul_any _ _ _ _ (by omega) (by omega) (by omega) (by omega)).mono ?_; rw [HEE.out]; rintro e w' ⟨rfl, nd, rfl⟩)
      obtain ⟨W, hW⟩ : ∃ W, W = (wr.drewN nd).setCell ⟨g, j, none⟩ (.int .u64 u) := ⟨_, rfl⟩
      have a1 : W.cell? ⟨d1, o1 + j, none⟩ = some (.int .u64 u) := by rw [hW]; exact A1.out
      have a2 : W.cell? ⟨g, j, none⟩ = some (.int .u64 u) := by rw [hW]; exact A2.out
      have HPW : Hid (Owns .u64 22 W w3.heap.size (.slice (some ⟨g, 0, none⟩) ys.length c3) (zs.set j u)) := Lib.hid (by rw [hW]; exact HP.out)
      have HBW : Hid (Below w3.heap.size w3 W) := Lib.hid (by rw [hW]; exact (below_draws HBr.out nd).setCell (p := ⟨g, j, none⟩) hg1 _)
      rw [← hW]
      clear hW HP HBr A1 A2 HBp k1 f1
      go_quiet (fail)
      go_wp2
      go_roundw
      case rel => exact ⟨j + 1, _, by omega, by go_num, HRp, Lib.hid (HPW.out.draws _), Lib.hid (below_draws HBW.out _)⟩
      case measure => simp [intOf]; omega
    · have HQ : Hid (Below w.heap.size w wr) := Lib.hid (below_then B3.out HBr.out)
      have hdj : decide (j < ys.length) = false := by simp; omega
      clear HO HBr HR
      go_wp2
      go_ret
      exact ⟨rfl, HQ.out⟩

theorem flydft_walk (H : FlyHas Gl) (p : Int) (inv : Bool) (x : Option Addr) (len cap : Nat) (zs : List Int) (w : World) (_hp : (Lit.int .u64 p).wf = true) (hr : RowIn .u64 w x len cap zs) (hG : Gl w) :
    Calls Tryd.prog 7 #[.int .u64 p, .bool inv, .slice x len cap] w fun e w' => e = .returned (.bool true) ∧ Below w.heap.size w w' := by
  obtain ⟨xs, -, hn, hc, hm, hx, hw⟩ := hr.reads
  have HV := Lib.hid (live15_any H w hG)
  have hm' : (cap : Int) ≤ 9223372036854775807 := by unfold maxLen at hm; omega
  by_cases h2 : 2 ≤ len
  · by_cases hl : len ≤ 5
    · cases inv
      · exact flydft_there H p x len cap xs w hG hx hn hw h2 hl
      · exact flydft_back H p x len cap xs w hG hx hn hw h2 hl
    · have hdl : decide (5 < (len : Int)) = true := by simp; omega
      have hd2 : decide ((len : Int) < 2) = false := by simp; omega
      clear hr hx hG H
      go_enter Tryd.func7, Tryd.ntmps7
      go_wp2_with (go_at_call 10; refine HV.out.mono ?_; rintro e w1 ⟨rfl, b1⟩)
      go_ret
      exact ⟨rfl, b1⟩
  · have hd2 : decide ((len : Int) < 2) = true := by simp; omega
    clear hr hx hG H
    go_enter Tryd.func7, Tryd.ntmps7
    go_wp2_with (go_at_call 10; refine HV.out.mono ?_; rintro e w1 ⟨rfl, b1⟩)
    go_ret
    exact ⟨rfl, b1⟩

end Go.Proofs.YtmcnamlgbkbiaaaDoor
