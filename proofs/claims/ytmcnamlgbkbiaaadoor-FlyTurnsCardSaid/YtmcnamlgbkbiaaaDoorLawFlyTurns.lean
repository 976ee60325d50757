/-
  The walk of the law FlyTurns: it returns true for every prime, every slice of words, either way; nothing that was there is written.
-/
import Derived.Test.YtmcnamlgbkbiaaaDoorFlyHas
import Derived.Test.YtmcnamlgbkbiaaaDoorAppSrc
import Derived.Test.YtmcnamlgbkbiaaaDoorNums
import Derived.Test.YtmcnamlgbkbiaaaDoorReadsL
import Derived.Test.YtmcnamlgbkbiaaaDoorCallHead
import Derived.Deep.RegionWith
import Derived.Deep.CutRange
namespace Go.Proofs.YtmcnamlgbkbiaaaDoor
open Go.RowKit Fly

namespace Fly
/-- Words turned around by one place. -/
def rot (xs : List Int) : List Int := xs.getD (xs.length - 1) 0 :: xs.take (xs.length - 1)
theorem rot_len {xs : List Int} (h : 0 < xs.length) : (rot xs).length = xs.length := by simp [rot]; omega
theorem rot_zero (xs : List Int) : (rot xs).getD 0 0 = xs.getD (xs.length - 1) 0 := rfl
theorem rot_succ {xs : List Int} {t : Nat} (h : t + 1 < xs.length) : (rot xs).getD (t + 1) 0 = xs.getD t 0 := by
  show (xs.take (xs.length - 1)).getD t 0 = _
  rw [List.getD_eq_getElem?_getD, List.getElem?_take_of_lt (by omega), List.getD_eq_getElem?_getD]
theorem rot_words {xs : List Int} (h : Words xs) : Words (rot xs) := fun j => by
  rcases j with _ | t
  · exact h _
  · by_cases ht : t + 1 < xs.length
    · rw [rot_succ ht]; exact h t
    · rw [List.getD_eq_getElem?_getD, List.getElem?_eq_none (by simp [rot]; omega)]
      exact ⟨Int.le_refl _, by decide⟩
theorem rot_lt {p : Int} {xs : List Int} (h2 : 2 ≤ xs.length) : (∀ j, j < (rot xs).length → (rot xs).getD j 0 < p) ↔ ∀ j, j < xs.length → xs.getD j 0 < p := by
  rw [rot_len (by omega)]
  constructor
  · intro h j hj
    by_cases e : j + 1 < xs.length
    · rw [← rot_succ e]; exact h _ e
    · have := h 0 (by omega)
      rw [rot_zero] at this
      rwa [show j = xs.length - 1 by omega]
  · intro h j hj
    rcases j with _ | t
    · rw [rot_zero]; exact h _ (by omega)
    · rw [rot_succ hj]; exact h _ (by omega)
theorem rot_doE {p : Int} {xs : List Int} (h2 : 2 ≤ xs.length) : doE p (rot xs) = doE p xs := by
  unfold doE
  rw [rot_len (by omega)]
  by_cases hz : ptE p xs.length = 0
  · rw [if_pos hz, if_pos hz]
    have hk := (ptE_zero hz).kn
    have e : inB p (rot xs) = inB p xs := by
      rw [Bool.eq_iff_iff]
      exact ⟨fun h => inB_of hk ((rot_lt h2).1 (inB_yes h)), fun h => inB_of hk ((rot_lt h2).2 (inB_yes h))⟩
    rw [e]
  · rw [if_neg hz, if_neg hz]
theorem Fine.rot {p : Int} {xs : List Int} (h : Fine p xs) : Fine p (rot xs) := by
  have := h.rdx.lo
  exact doE_zero (by rw [rot_doE (by omega), h.zero])
theorem Fine.turned {p : Int} {xs : List Int} (h : Fine p xs) (inv : Bool) {u : Nat} (hu : u < xs.length) : (Fly.doL p inv (Fly.rot xs)).getD u 0 = Fp.mul p ((Fly.doL p inv xs).getD u 0) (pt p inv xs.length u) := by
  have h2 := h.rdx.lo
  rw [h.rot.get inv (by rw [rot_len (by omega)]; exact hu), h.get inv hu, rot_len (by omega)]
  exact h.rdx.round (x := el xs) (y := el (Fly.rot xs)) (rot_zero xs) (fun t ht => rot_succ ht) u
theorem pts_fine {p : Int} {n : Nat} (h : Rdx p n) (inv : Bool) : (ptsL p n inv).length = n ∧ ∀ u, u < n → (ptsL p n inv).getD u 0 = pt p inv n u := by
  unfold ptsL
  rw [h.zero, if_pos rfl, Int.toNat_natCast]
  exact ⟨by simp, fun u hu => by simp [hu]⟩
end Fly

/-- The first part of what reads, as a source of append. -/
theorem Reads.takeSrc {k : IntKind} {w : World} {B : Nat} {x : Option Addr} {m cap : Nat} {xs : List Int} (h : Reads k w B x xs) (hm : m ≤ xs.length) (h0 : 0 < m) : Src k w x m cap (xs.take m) := by
  obtain ⟨b, off, rfl, -, hc⟩ := h (by omega)
  refine ⟨by simp; omega, .inr ⟨_, rfl, fun j hj => ?_⟩⟩
  have ea : (⟨b, off, none⟩ : Addr).add j = ⟨b, off + j, none⟩ := by cases j <;> simp [Addr.add]
  rw [ea, hc j (by omega)]
  simp [List.getD_eq_getElem?_getD, hj]

set_option maxRecDepth 100000 in
set_option maxHeartbeats 4000000 in
theorem flyturns_any {G : World → Prop} (H : FlyHas G) (p : Int) (inv : Bool) (x : Option Addr) (n cap : Nat) (xs : List Int) (w : World) (hG : G w) (hx : Reads .u64 w w.heap.size x xs) (hn : xs.length = n) (hc : n ≤ cap) (hcm : cap ≤ maxLen) (hw : Words xs) (h2 : 2 ≤ n) (hl : n ≤ 12) :
    Calls Tryd.prog 6 #[.int .u64 p, .bool inv, .slice x n cap] w fun e w' => e = .returned (.bool true) ∧ Below w.heap.size w w' := by
  subst hn
  have hdl : decide (12 < (xs.length : Int)) = false := by simp; omega
  have hd2 : decide ((xs.length : Int) < 2) = false := by simp; omega
  have hml : xs.length ≤ maxLen := by unfold maxLen; omega
  have hcm' : (cap : Int) ≤ 9223372036854775807 := by unfold maxLen at hcm; omega
  have HF := Lib.hid (fun W (hB : Below w.heap.size w W) => H.doo p inv x xs.length cap xs W (H.keep hG hB) ((hx.below hB).more hB.size) rfl hw hml)
  have HF2 := Lib.hid (fun W y c (hB : Below w.heap.size w W) (hr : Reads .u64 W W.heap.size y (rot xs)) => H.doo p inv y xs.length c (rot xs) W (H.keep hG hB) hr (rot_len (by omega)) (rot_words hw) hml)
  have HPt := Lib.hid (fun W (hB : Below w.heap.size w W) => H.points p (xs.length : Int) inv W (H.keep hG hB) (by omega))
  have HV := Lib.hid (live15_any H w hG)
  have HX := Lib.hid hx
  rw [rot_doE h2] at HF2
  have HRL : Hid ((rot xs).length = xs.length) := Lib.hid (rot_len (by omega))
  have HRot : Hid ([xs.getD (xs.length - 1) 0] ++ xs.take (xs.length - 1) = rot xs) := Lib.hid rfl
  obtain ⟨i0, hi, hz0, hz1, hz2⟩ := info_parts info_u64
  have hmx : Tryd.prog.follows .mixedOrders = true := by kernel_rfl
  have hEE : doE p xs = 0 → ptE p xs.length = 0 := fun h => (doE_zero h).rdx.zero
  have hEP : ptE p xs.length ≠ 0 → doE p xs = ptE p xs.length := fun h => by unfold doE; rw [if_neg h]
  have HZ : Hid (doE p xs = 0 → (doL p inv xs).length = xs.length ∧ (doL p inv (rot xs)).length = xs.length ∧ (ptsL p xs.length inv).length = xs.length ∧
      ∀ u, u < xs.length → (doL p inv (rot xs)).getD u 0 = Fp.mul p ((doL p inv xs).getD u 0) ((ptsL p xs.length inv).getD u 0)) := Lib.hid (fun h => by
    have hf := doE_zero h
    refine ⟨hf.len inv, by rw [hf.rot.len, rot_len (by omega)], (pts_fine hf.rdx inv).1, fun u hu => ?_⟩
    rw [(pts_fine hf.rdx inv).2 u hu]
    exact hf.turned inv hu)
  have HWd : Hid (doE p xs = 0 → ∀ u, 0 ≤ (doL p inv xs).getD u 0 ∧ (doL p inv xs).getD u 0 < 18446744073709551616) := Lib.hid (fun h u => (doE_zero h).words inv u)
  have HWp : Hid (doE p xs = 0 → ∀ u, u < xs.length → 0 ≤ (ptsL p xs.length inv).getD u 0 ∧ (ptsL p xs.length inv).getD u 0 < 18446744073709551616) := Lib.hid (fun h u hu => by
    rw [(pts_fine (doE_zero h).rdx inv).2 u hu]
    have := pt_bd p inv xs.length u
    omega)
  have HE := Lib.hid hEE
  have HP := Lib.hid hEP
  generalize doL p inv (rot xs) = ds at HF2 HZ
  generalize doL p inv xs = ys at HF HZ HWd
  generalize ptsL p xs.length inv = ls at HPt HZ HWp
  generalize doE p xs = er at HF HF2 HZ HE HP HWd HWp
  generalize ptE p xs.length = ep at HPt HE HP
  clear H hG hx hw hEE hEP
  go_enter Tryd.func6, Tryd.ntmps6
  go_upto_region 7 with (first
    | (go_at_call 10; refine HV.out.mono ?_; rintro e w1 ⟨rfl, b1⟩; have B1 := Lib.hid b1; clear b1)
    | (go_at_call 13; refine (HF.out _ B1.out).mono ?_; rintro e w2 ⟨v, rfl, hO, b2⟩; obtain ⟨y1, c1, rfl, -, -, hr1, -⟩ := hO.form; have R1 := Lib.hid hr1; have B2 := Lib.hid (below_then B1.out b2); clear b2 hO hr1)
    | (go_at_call 11; refine (HPt.out _ B2.out).mono ?_; rintro e w3 ⟨v, rfl, hO, b3⟩; obtain ⟨y2, c2, rfl, -, -, hr2, -⟩ := hO.form; have R2 := Lib.hid hr2; replace R1 := Lib.hid ((R1.out.below b3).more b3.size); have B3 := Lib.hid (below_then B2.out b3); clear b3 hO hr2))
  go_cut [11, 12] from 39 to 57 (fun s t wx => ∃ (x3 : Option Addr) (c3 : Nat), s = .slice x3 ds.length c3 ∧ t = .int .i64 er ∧ Hid (Reads .u64 wx wx.heap.size x3 ds) ∧ Hid (Below w3.heap.size w3 wx))
  case first =>
    obtain ⟨m, hm⟩ : ∃ m, xs.length = m + 1 := ⟨xs.length - 1, by omega⟩
    obtain ⟨b, off, rfl, hb, hcx⟩ := HX.out (by omega)
    have hl1 := (B3.out.cell (p := ⟨b, off + m, none⟩) hb).trans (hcx m (by omega))
    have hlast : xs.length - 1 = m := by omega
    rw [hlast] at HRot
    obtain ⟨u, hu⟩ : ∃ u, u = xs.getD m 0 := ⟨_, rfl⟩
    rw [← hu] at HRot hl1
    clear hu
    have kl := fun s : Since w3 => s.below.cell (p := ⟨b, off + m, none⟩) (World.block_lt_of_cell? _ _ hl1) |>.trans hl1
    have hS0 : Below w3.heap.size w3 w3.drew := draws_below _ w3 1
    have he : (xs.length : Int) - 1 = (m : Int) := by omega
    have hmx1 : m < xs.length := by omega
    have hdm : decide (m < xs.length) = true := by simpa using hmx1
    have hm0 : 0 < m := by omega
    have hmc : m ≤ cap := by omega
    clear HF HV HPt HZ HWd HWp HE HP R1 R2 hcx hm
    refine region_readsL (C := fun w' => ∃ s : Since w3, w' = s.out) [0, 1, 2, 3, 4, 5, 6, 7, 9, 10, 11, 12, 13] hmx (by kernel_rfl) rfl (by kernel_rfl) ⟨⟨_, hS0⟩, rfl⟩ ?_
    simp only [List.map_cons, List.map_nil, List.getD_cons_zero, List.getD_cons_succ]
    repeat (go_big_quiet_step (skip))
    refine wpQuiet_nil ?_
    clear kl hl1
    show anyC _ _ _ _ _ 20 8 _ _ _
    obtain ⟨W0, hW0⟩ : ∃ W0, W0 = w3.drew := ⟨_, rfl⟩
    rw [← hW0] at hS0 ⊢
    clear hW0
    refine anyC_one (i := 8) (by kernel_rfl) (wpOp_of_list rfl ?_)
    go_wp2
    have hS1 := below_al hS0 (.cells #[.int .u64 u] 22)
    have hO1 := nums_owns W0 [u] w3.heap.size hS0.size (by unfold maxLen; simp)
    refine ⟨rfl, fun _ => ⟨⟨_, hS1⟩, rfl⟩, ?_⟩
    obtain ⟨W1, hW1⟩ : ∃ W1, W1 = W0.alloc (.cells #[.int .u64 u] 22) := ⟨_, rfl⟩
    replace hO1 : Owns .u64 22 W1 w3.heap.size (.slice (some ⟨W0.heap.size, 0, none⟩) 1 1) [u] := by rw [hW1]; exact hO1
    rw [← hW1] at hS1 ⊢
    clear hW1
    have hsrc : Src .u64 W1 (some ⟨b, off, none⟩) m cap (xs.take m) := (HX.out.below (below_then B3.out hS1)).takeSrc (by omega) (by omega)
    refine anyC_one (i := 14) (by kernel_rfl) (wpOp_of_list rfl ?_)
    refine wpList_append_src (by rfl) (.tmp 48) (.tmp 53) 23 (by rfl) w3.heap.size 22 i0 .u64 8 Tryd.underlying23 hi hz0 hz1 hz2 _ [u] rfl hO1 ⟨b, off, none⟩ m cap (xs.take m) rfl hsrc (by unfold maxLen; simp; omega) (by simp; omega) hS1.size ?_
    intro v' W2 hO2 hg
    have hS2 := hS1.grown hg hS1.size hO1.ownBlock
    rw [HRot.out] at hO2
    obtain ⟨x2, c2, rfl, -, -, hr2, -⟩ := hO2.form
    rw [HRL.out]
    go_wp2
    refine ⟨rfl, fun _ => ⟨⟨_, hS2⟩, rfl⟩, ?_⟩
    refine anyC_one (i := 15) (by kernel_rfl) (wpOp_of_list rfl ?_)
    go_wp2_with (go_at_call 13; refine (HF2.out _ _ _ (below_then B3.out hS2) hr2).mono ?_; rintro e W3 ⟨v3, rfl, hO3, hb3⟩)
    have hS3 := below_then hS2 hb3
    refine ⟨rfl, fun _ => ⟨⟨_, hS3⟩, rfl⟩, ?_⟩
    obtain ⟨x3, c3, rfl, -, -, hr3, -⟩ := hO3.form
    refine anyC_one (i := 16) (by kernel_rfl) (wpOp_of_list rfl ?_)
    go_wp2
    refine ⟨rfl, fun _ => ⟨⟨_, hS3⟩, rfl⟩, ?_⟩
    refine anyC_two (i := 17) (j := 18) (by kernel_rfl) (wpOp_of_list rfl ?_) (wpOp_of_list rfl ?_)
    · go_wp2
      refine ⟨rfl, fun _ => ⟨⟨_, hS3⟩, rfl⟩, ?_⟩
      refine anyC_two (i := 18) (j := 19) (by kernel_rfl) (wpOp_of_list rfl ?_) (wpOp_of_list rfl ?_)
      · go_wp2
        refine ⟨rfl, fun _ => ⟨⟨_, hS3⟩, rfl⟩, ?_⟩
        refine anyC_one (i := 19) (by kernel_rfl) (wpOp_of_list rfl ?_)
        go_wp2
        refine ⟨rfl, fun _ => ⟨⟨_, hS3⟩, rfl⟩, ?_⟩
        refine anyC_one (i := 20) (by kernel_rfl) (wpOp_of_list rfl ?_)
        go_wp2
        refine ⟨rfl, fun h => absurd rfl h, anyC_end (by kernel_rfl) ⟨rfl, ?_⟩⟩
        go_wp2
        go_meet
        exact ⟨_, _, rfl, rfl, Lib.hid hr3, Lib.hid hS3⟩
      · go_wp2
        refine ⟨rfl, fun _ => ⟨⟨_, hS3⟩, rfl⟩, ?_⟩
        refine anyC_one (i := 18) (by kernel_rfl) (wpOp_of_list rfl ?_)
        go_wp2
        refine ⟨rfl, fun _ => ⟨⟨_, hS3⟩, rfl⟩, ?_⟩
        refine anyC_one (i := 20) (by kernel_rfl) (wpOp_of_list rfl ?_)
        go_wp2
        refine ⟨rfl, fun h => absurd rfl h, anyC_end (by kernel_rfl) ⟨rfl, ?_⟩⟩
        go_wp2
        go_meet
        exact ⟨_, _, rfl, rfl, Lib.hid hr3, Lib.hid hS3⟩
    · go_wp2
      refine ⟨rfl, fun _ => ⟨⟨_, hS3⟩, rfl⟩, ?_⟩
      refine anyC_one (i := 17) (by kernel_rfl) (wpOp_of_list rfl ?_)
      go_wp2
      refine ⟨rfl, fun _ => ⟨⟨_, hS3⟩, rfl⟩, ?_⟩
      refine anyC_one (i := 19) (by kernel_rfl) (wpOp_of_list rfl ?_)
      go_wp2
      refine ⟨rfl, fun _ => ⟨⟨_, hS3⟩, rfl⟩, ?_⟩
      refine anyC_one (i := 20) (by kernel_rfl) (wpOp_of_list rfl ?_)
      go_wp2
      refine ⟨rfl, fun h => absurd rfl h, anyC_end (by kernel_rfl) ⟨rfl, ?_⟩⟩
      go_wp2
      go_meet
      exact ⟨_, _, rfl, rfl, Lib.hid hr3, Lib.hid hS3⟩
  case rest =>
    obtain ⟨x3, c3, rfl, rfl, R3, hB3⟩ := hcut
    replace R1 := Lib.hid ((R1.out.below hB3.out).more hB3.out.size)
    replace R2 := Lib.hid ((R2.out.below hB3.out).more hB3.out.size)
    have B4 := Lib.hid (below_then B3.out hB3.out)
    clear HF HF2 HV HPt HRL HRot hi hz0 hz1 hz2 hB3
    by_cases hE : er = 0
    · have hp0 := HE.out hE
      subst hE
      subst hp0
      obtain ⟨z1, z2, z3, z4⟩ := HZ.out rfl
      have HZ4 := Lib.hid z4
      have HWy := Lib.hid (HWd.out rfl)
      have HWl := Lib.hid (HWp.out rfl)
      have Z1 := Lib.hid z1
      have Z2 := Lib.hid z2
      have Z3 := Lib.hid z3
      rw [z1, z2, z3]
      have nl : ((xs.length : Int) != (xs.length : Int)) = false := by simp
      clear z1 z2 z3 z4 HZ HWd HWp HE HP
      go_wp2
      go_loopw [97] (fun i wi => ∃ j q : Nat, j ≤ xs.length ∧ i = .int .i64 (j : Int) ∧ wi = wc.drewN q) (fun i _ => xs.length - (intOf i).toNat)
      case atStart => exact ⟨0, 0, Nat.zero_le _, rfl, rfl⟩
      case round =>
        obtain ⟨j, q, hj, rfl, hq⟩ := hrel
        by_cases hlj : j < xs.length
        · have hdj : decide (j < xs.length) = true := by simpa using hlj
          obtain ⟨d1, o1, rfl, -, hc1⟩ := R1.out (by rw [Z1.out]; omega)
          obtain ⟨d2, o2, rfl, -, hc2⟩ := R2.out (by rw [Z3.out]; omega)
          obtain ⟨d3, o3, rfl, -, hc3⟩ := R3.out (by rw [Z2.out]; omega)
          have a1 := hc1 j (by rw [Z1.out]; exact hlj)
          have a2 := hc2 j (by rw [Z3.out]; exact hlj)
          have a3 := hc3 j (by rw [Z2.out]; exact hlj)
          rw [HZ4.out j hlj] at a3
          obtain ⟨u0, u1⟩ := HWy.out j
          obtain ⟨v0, v1⟩ := HWl.out j hlj
          obtain ⟨u, hu⟩ : ∃ u, u = ys.getD j 0 := ⟨_, rfl⟩
          obtain ⟨v, hv⟩ : ∃ v, v = ls.getD j 0 := ⟨_, rfl⟩
          rw [← hu] at a1 a3 u0 u1
          rw [← hv] at a2 a3 v0 v1
          have hcq : ∀ ad, wc.cell? ad = wr.cell? ad := fun ad => by rw [hq]; rfl
          rw [hcq] at a1 a2 a3
          have HQ := Lib.hid hq
          have n1 : (Fp.mul p u v != Fp.mul p u v) = false := by simp
          clear hc1 hc2 hc3 hu hv hcq hq
          go_wp2
          go_quiet (first | (go_at_call 19; exact Calls.quiet_of (mul_any _ _ _ _ (by omega) (by omega) (by omega) (by omega))))
          go_wp2
          go_roundw
          case rel => exact ⟨j + 1, _, by omega, by go_num, by rw [HQ.out, World.drewN_drewN]⟩
          case measure => simp [intOf]; omega
        · have HQ : Hid (Below w.heap.size w wr) := Lib.hid (by rw [hq]; exact below_draws B4.out q)
          have hdj : decide (j < xs.length) = false := by simp; omega
          clear hq
          go_wp2
          go_ret
          exact ⟨rfl, HQ.out⟩
    · have t1 : (er != 0) = true := bne_iff_ne.2 hE
      have nn : (er != er) = false := by simp
      by_cases hp0 : ep = 0
      · subst hp0
        clear HZ HWd HWp HE HP hE
        go_wp2
        go_ret
        exact ⟨rfl, B4.out⟩
      · obtain rfl := HP.out hp0
        clear HZ HWd HWp HE HP hE hp0
        go_wp2
        go_ret
        exact ⟨rfl, B4.out⟩

set_option maxRecDepth 100000 in
theorem flyturns_walk {G : World → Prop} (H : FlyHas G) (p : Int) (inv : Bool) (x : Option Addr) (len cap : Nat) (zs : List Int) (w : World) (_hp : (Lit.int .u64 p).wf = true) (hr : RowIn .u64 w x len cap zs) (hG : G w) :
    Calls Tryd.prog 6 #[.int .u64 p, .bool inv, .slice x len cap] w fun e w' => e = .returned (.bool true) ∧ Below w.heap.size w w' := by
  obtain ⟨xs, -, hn, hc, hm, hx, hw⟩ := hr.reads
  have HV := Lib.hid (live15_any H w hG)
  by_cases h2 : 2 ≤ len
  · by_cases hl : len ≤ 12
    · exact flyturns_any H p inv x len cap xs w hG hx hn hc hm hw h2 hl
    · have hm' : (cap : Int) ≤ 9223372036854775807 := by unfold maxLen at hm; omega
      have hdl : decide (12 < (len : Int)) = true := by simp; omega
      have hd2 : decide ((len : Int) < 2) = false := by simp; omega
      clear hr hx hG H
      go_enter Tryd.func6, Tryd.ntmps6
      go_wp2_with (go_at_call 10; refine HV.out.mono ?_; rintro e w1 ⟨rfl, b1⟩)
      go_ret
      exact ⟨rfl, b1⟩
  · have hm' : (cap : Int) ≤ 9223372036854775807 := by unfold maxLen at hm; omega
    have hd2 : decide ((len : Int) < 2) = true := by simp; omega
    clear hr hx hG H
    go_enter Tryd.func6, Tryd.ntmps6
    go_wp2_with (go_at_call 10; refine HV.out.mono ?_; rintro e w1 ⟨rfl, b1⟩)
    go_ret
    exact ⟨rfl, b1⟩

end Go.Proofs.YtmcnamlgbkbiaaaDoor
