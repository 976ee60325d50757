/-
  The walk of the law FlyBack: it returns true for every prime, every slice of words, either way; nothing that was there is written.
-/
import Derived.Test.YtmcnamlgbkbiaaaDoorFlyHas
import Derived.Deep.RegionWith
namespace Go.Proofs.YtmcnamlgbkbiaaaDoor
open Go.RowKit Fly

theorem neq_same (a : Int) : (a != a) = false := by simp

set_option maxRecDepth 100000 in
set_option maxHeartbeats 2000000 in
theorem flyback_any {G : World → Prop} (H : FlyHas G) (p : Int) (inv : Bool) (x : Option Addr) (n cap : Nat) (xs : List Int) (w : World) (hG : G w) (hx : Reads .u64 w w.heap.size x xs) (hn : xs.length = n) (hw : Words xs) (hl : n ≤ 12) :
    Calls Tryd.prog 4 #[.int .u64 p, .bool inv, .slice x n cap] w fun e w' => e = .returned (.bool true) ∧ Below w.heap.size w w' := by
  subst hn
  have hdl : decide (12 < (xs.length : Int)) = false := by simp; omega
  have hml : xs.length ≤ maxLen := by unfold maxLen; omega
  have HF := Lib.hid (fun W (hB : Below w.heap.size w W) => H.doo p inv x xs.length cap xs W (H.keep hG hB) ((hx.below hB).more hB.size) rfl hw hml)
  have HV := Lib.hid (live15_any H w hG)
  by_cases hE : doE p xs = 0
  · have h := doE_zero hE
    have hy := h.len inv
    have HN : Hid (∀ W y c, Reads .u64 W W.heap.size y (doL p inv xs) → Calls Tryd.prog 18 #[.int .u64 p, .slice y xs.length c] W fun e w' => e = .returned (.bool true) ∧ W = w') := Lib.hid (fun W y c hr => by
      have := h.rdx.lo
      obtain ⟨b, off, rfl, hb, hc⟩ := hr (by rw [hy]; omega)
      rw [hy] at hc
      have e1 : Fp.isIn p (fun j => (doL p inv xs).getD j 0) xs.length = true := Fp.isIn_yes h.rdx.kn _ (fun j _ => (h.bd inv j).2)
      rw [← e1]
      exact in_row p b off xs.length c _ W (by omega) hc)
    have HF2 := Lib.hid (fun W y c (hB : Below w.heap.size w W) (hr : Reads .u64 W W.heap.size y (doL p inv xs)) => H.doo p (!inv) y xs.length c (doL p inv xs) W (H.keep hG hB) hr hy (h.words inv) hml)
    rw [(h.fine inv).zero] at HF2
    rw [hE] at HF
    have HZ : Hid (∀ j, j < xs.length → (doL p (!inv) (doL p inv xs)).getD j 0 = Fp.mul p (xs.getD j 0) (xs.length : Int)) := Lib.hid (fun j hj => h.back inv hj)
    have HY := Lib.hid hy
    have HL : Hid ((doL p (!inv) (doL p inv xs)).length = xs.length) := Lib.hid (by rw [(h.fine inv).len, hy])
    have HX := Lib.hid hx
    have HW := Lib.hid hw
    generalize doL p (!inv) (doL p inv xs) = zs at HF2 HZ HL
    generalize doL p inv xs = ys at HF HF2 HN HY
    have nn := neq_same (xs.length : Int)
    clear H hG hx hw hE h hy
    go_enter Tryd.func4, Tryd.ntmps4
    go_wp2_with (first
      | (go_at_call 10; refine HV.out.mono ?_; rintro e w1 ⟨rfl, b1⟩; have B1 := Lib.hid b1; clear b1)
      | (go_at_call_of 13 (Value.slice x xs.length cap); refine (HF.out _ B1.out).mono ?_; rintro e w2 ⟨v, rfl, hO, b2⟩; obtain ⟨y1, c1, rfl, -, -, hr1, -⟩ := hO.form; have R1 := Lib.hid hr1; have B2 := Lib.hid (below_then B1.out b2); rw [HY.out]; clear b2 hO hr1)
      | (go_at_call 13; refine (HF2.out _ _ _ B2.out R1.out).mono ?_; rintro e w3 ⟨v, rfl, hO, b3⟩; obtain ⟨y2, c2, rfl, -, -, hr2, -⟩ := hO.form; have R2 := Lib.hid hr2; have R1' := Lib.hid ((R1.out.below b3).more b3.size); have B3 := Lib.hid (below_then B2.out b3); rw [HL.out]; clear b3 hO hr2 R1)
      | (go_at_call 18; refine (HN.out _ _ _ R1'.out).mono ?_; rintro e w' ⟨rfl, rfl⟩))
    go_loopw [62] (fun i wi => ∃ j q : Nat, j ≤ xs.length ∧ i = .int .i64 (j : Int) ∧ wi = w3.drewN q) (fun i _ => xs.length - (intOf i).toNat)
    case atStart => exact ⟨0, 0, Nat.zero_le _, rfl, rfl⟩
    case round =>
      obtain ⟨j, q, hj, rfl, hq⟩ := hrel
      by_cases hlj : j < xs.length
      · have hdj : decide (j < xs.length) = true := by simpa using hlj
        obtain ⟨d1, o1, rfl, hd1, hc1⟩ := HX.out (by omega)
        obtain ⟨d2, o2, rfl, -, hc2⟩ := R2.out (by rw [HL.out]; omega)
        have a1 := (B3.out.cell (p := ⟨d1, o1 + j, none⟩) hd1).trans (hc1 j hlj)
        have a2 := hc2 j (by rw [HL.out]; exact hlj)
        rw [HZ.out j hlj] at a2
        obtain ⟨u0, u1⟩ := HW.out j
        obtain ⟨u, hu⟩ : ∃ u, u = xs.getD j 0 := ⟨_, rfl⟩
        rw [← hu] at a1 a2 u0 u1
        have hcq : ∀ ad, w3.cell? ad = wr.cell? ad := fun ad => by rw [hq]; rfl
        rw [hcq] at a1 a2
        have HQ := Lib.hid hq
        have hwr : IntKind.u64.wrap (xs.length : Int) = (xs.length : Int) := by rw [IntKind.wrap_u64]; omega
        have n1 := neq_same (Fp.mul p u (xs.length : Int))
        clear hc1 hc2 hu hcq hq
        go_wp2
        go_quiet (first | (go_at_call 19; exact Calls.quiet_of (mul_any _ _ _ _ (by omega) (by omega) (by omega) (by omega))))
        go_wp2
        go_roundw
        case rel => exact ⟨j + 1, _, by omega, by go_num, by rw [HQ.out, World.drewN_drewN]⟩
        case measure => simp [intOf]; omega
      · have HQ : Hid (Below w.heap.size w wr) := Lib.hid (by rw [hq]; exact below_draws B3.out q)
        clear hq
        go_wp2
        go_ret
        exact ⟨rfl, HQ.out⟩
  · have e1 : doL p inv xs = [] := by unfold doL; rw [if_neg hE]
    rw [e1] at HF
    have t1 : (doE p xs != 0) = true := bne_iff_ne.2 hE
    generalize doE p xs = er at HF t1
    clear H hG hx hw hE e1
    go_enter Tryd.func4, Tryd.ntmps4
    go_wp2_with (first
      | (go_at_call 10; refine HV.out.mono ?_; rintro e w1 ⟨rfl, b1⟩; have B1 := Lib.hid b1; clear b1)
      | (go_at_call 13; refine (HF.out _ B1.out).mono ?_; rintro e w2 ⟨v, rfl, hO, b2⟩; obtain ⟨y1, c1, rfl, -, -, -, -⟩ := hO.form; have B2 := Lib.hid (below_then B1.out b2); simp only [List.length_nil]; clear b2 hO))
    go_ret
    exact ⟨rfl, B2.out⟩

set_option maxRecDepth 100000 in
theorem flyback_walk {G : World → Prop} (H : FlyHas G) (p : Int) (inv : Bool) (x : Option Addr) (len cap : Nat) (zs : List Int) (w : World) (_hp : (Lit.int .u64 p).wf = true) (hr : RowIn .u64 w x len cap zs) (hG : G w) :
    Calls Tryd.prog 4 #[.int .u64 p, .bool inv, .slice x len cap] w fun e w' => e = .returned (.bool true) ∧ Below w.heap.size w w' := by
  obtain ⟨xs, -, hn, hc, hm, hx, hw⟩ := hr.reads
  unfold maxLen at hm
  by_cases hl : len ≤ 12
  · exact flyback_any H p inv x len cap xs w hG hx hn hw hl
  · have hdl : decide (12 < (len : Int)) = true := by simp; omega
    have HV := Lib.hid (live15_any H w hG)
    clear hr hx hG H
    go_enter Tryd.func4, Tryd.ntmps4
    go_wp2_with (go_at_call 10; refine HV.out.mono ?_; rintro e w1 ⟨rfl, b1⟩)
    go_ret
    exact ⟨rfl, b1⟩

end Go.Proofs.YtmcnamlgbkbiaaaDoor
