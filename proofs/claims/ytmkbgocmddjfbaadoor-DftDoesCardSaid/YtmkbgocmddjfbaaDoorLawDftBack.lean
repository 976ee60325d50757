/-
  The walk of the law DftBack: it returns true for every word, every slice of words, either way; nothing that was there is written.
-/
import Derived.Test.YtmkbgocmddjfbaaDoorMathLine
import Derived.Deep.RegionWith
namespace Go.Proofs.YtmkbgocmddjfbaaDoor
open Go.RowKit Go.Shelf

theorem neq_self (a : Int) : (a != a) = false := by simp

set_option maxHeartbeats 2000000 in
theorem dftback_no (p : Int) (x : Option Addr) (n cap : Nat) (xs : List Int) (neg : Bool) (w : World) (hG : Gl w) (hx : Reads .u64 w w.heap.size x xs) (hn : xs.length = n) (hw : Words xs) (hl : n ≤ 32) (hE : lineE p xs neg ≠ 0) :
    Calls Tryd.prog 4 #[.int .u64 p, .slice x n cap, .bool neg] w fun e w' => e = .returned (.bool true) ∧ Below w.heap.size w w' := by
  subst hn
  have hdl : decide (32 < (xs.length : Int)) = false := by simp; omega
  have hml : xs.length ≤ maxLen := by unfold maxLen; omega
  have HF := Lib.hid (fun W (hB : Below w.heap.size w W) => forward_any p x xs.length cap xs neg W (hG.then hB) ((hx.below hB).more hB.size) rfl hw hml)
  have HI := Lib.hid (fun W (hB : Below w.heap.size w W) => inverse_any p x xs.length cap xs neg W (hG.then hB) ((hx.below hB).more hB.size) rfl hw hml)
  have HC := Lib.hid (fun W (hB : Below w.heap.size w W) => lcheck_any p x xs.length cap xs neg W (hG.then hB) ((hx.below hB).more hB.size) rfl hml)
  have HV := Lib.hid (live6_any w hG)
  have e1 : fwd p xs neg = [] := by unfold fwd; rw [if_neg hE]
  have e2 : bwd p xs neg = [] := by unfold bwd; rw [if_neg hE]
  rw [e1] at HF
  rw [e2] at HI
  have t1 := ne_of_bne hE
  have t2 := neq_self (lineE p xs neg)
  generalize lineE p xs neg = er at HF HI HC t1 t2
  clear hG hx hw hE e1 e2 hml
  go_enter Tryd.func4, Tryd.ntmps4
  go_wp2_with (first
    | (go_at_call 7; refine HV.out.mono ?_; rintro e w1 ⟨rfl, b1⟩; have B1 := Lib.hid b1; clear b1)
    | (go_at_call 8; refine (HF.out _ B1.out).mono ?_; rintro e w2 ⟨v, rfl, hO, b2⟩; obtain ⟨y1, c1, rfl, -, -, -, -⟩ := hO.form; have B2 := Lib.hid (below_then B1.out b2); clear b2 hO; simp only [List.length_nil])
    | (go_at_call 10; refine (HI.out _ B2.out).mono ?_; rintro e w3 ⟨v, rfl, hO, b3⟩; obtain ⟨y2, c2, rfl, -, -, -, -⟩ := hO.form; have B3 := Lib.hid (below_then B2.out b3); clear b3 hO; simp only [List.length_nil])
    | (go_at_call 15; refine (HC.out _ B3.out).mono ?_; rintro e w4 ⟨rfl, b4⟩; have B4 := Lib.hid (below_then B3.out b4); clear b4))
  go_ret
  exact ⟨rfl, B4.out⟩

set_option maxHeartbeats 2000000 in
theorem dftback_yes (p : Int) (x : Option Addr) (n cap : Nat) (xs : List Int) (neg : Bool) (w : World) (hG : Gl w) (hx : Reads .u64 w w.heap.size x xs) (hn : xs.length = n) (hw : Words xs) (hl : n ≤ 32) (h : Line p xs neg) :
    Calls Tryd.prog 4 #[.int .u64 p, .slice x n cap, .bool neg] w fun e w' => e = .returned (.bool true) ∧ Below w.heap.size w w' := by
  subst hn
  have hdl : decide (32 < (xs.length : Int)) = false := by simp; omega
  have hml : xs.length ≤ maxLen := by unfold maxLen; omega
  have HF := Lib.hid (fun W (hB : Below w.heap.size w W) => forward_any p x xs.length cap xs neg W (hG.then hB) ((hx.below hB).more hB.size) rfl hw hml)
  have HI := Lib.hid (fun W (hB : Below w.heap.size w W) => inverse_any p x xs.length cap xs neg W (hG.then hB) ((hx.below hB).more hB.size) rfl hw hml)
  have HC := Lib.hid (fun W (hB : Below w.heap.size w W) => lcheck_any p x xs.length cap xs neg W (hG.then hB) ((hx.below hB).more hB.size) rfl hml)
  have HV := Lib.hid (live6_any w hG)
  have lf := h.fwdLen
  have lb := h.bwdLen
  have HF2 := Lib.hid (fun W y c (hB : Below w.heap.size w W) (hy : Reads .u64 W W.heap.size y (bwd p xs neg)) => forward_any p y xs.length c (bwd p xs neg) neg W (hG.then hB) hy lb h.bwdWords hml)
  have HI2 := Lib.hid (fun W y c (hB : Below w.heap.size w W) (hy : Reads .u64 W W.heap.size y (fwd p xs neg)) => inverse_any p y xs.length c (fwd p xs neg) neg W (hG.then hB) hy lf h.fwdWords hml)
  rw [h.forth hw, h.bwdLine.zero] at HF2
  rw [h.back hw, h.fwdLine.zero] at HI2
  rw [h.zero] at HF HI HC
  have HS := Lib.hid (fun W y c (hB : Below w.heap.size w W) (hy : Reads .u64 W W.heap.size y xs) => same_yes y x xs.length xs.length c cap xs xs W W.heap.size hy ((hx.below hB).more hB.size) rfl rfl (by omega) (by omega) rfl)
  have HN : Hid (∀ W y c, Reads .u64 W W.heap.size y (fwd p xs neg) → Calls Tryd.prog 17 #[.int .u64 p, .slice y xs.length c] W fun e w' => e = .returned (.bool true) ∧ W = w') := Lib.hid (fun W y c hy => by
    obtain ⟨b, off, rfl, hb, hc⟩ := hy (by rw [lf]; exact h.len.1)
    rw [lf] at hc
    have e1 := (Fp.isIn_iff (f := fun j => (fwd p xs neg).getD j 0) h.kn xs.length).2 (fun j hj => h.fwdLine.lt j (by rw [lf]; exact hj))
    rw [← e1]
    exact in_row p b off xs.length c _ W (by omega) hc)
  have LF := Lib.hid lf
  have LB := Lib.hid lb
  have HL := Lib.hid h.len
  generalize fwd p xs neg = fs at HF HI2 HN LF
  generalize bwd p xs neg = bs at HI HF2 LB
  clear hG hx hw h hml lf lb
  go_enter Tryd.func4, Tryd.ntmps4
  go_wp2_with (first
    | (go_at_call 7; refine HV.out.mono ?_; rintro e w1 ⟨rfl, b1⟩; have B1 := Lib.hid b1; clear b1)
    | (go_at_call_of 8 (Value.slice x xs.length cap); refine (HF.out _ B1.out).mono ?_; rintro e w2 ⟨v, rfl, hO, b2⟩; obtain ⟨y1, c1, rfl, -, -, hr1, -⟩ := hO.form; have R1 := Lib.hid hr1; have B2 := Lib.hid (below_then B1.out b2); rw [LF.out]; clear b2 hO hr1)
    | (go_at_call_of 10 (Value.slice x xs.length cap); refine (HI.out _ B2.out).mono ?_; rintro e w3 ⟨v, rfl, hO, b3⟩; obtain ⟨y2, c2, rfl, -, -, hr2, -⟩ := hO.form; have R2 := Lib.hid hr2; have R1' := Lib.hid ((R1.out.below b3).more b3.size); have B3 := Lib.hid (below_then B2.out b3); rw [LB.out]; clear b3 hO hr2 R1)
    | (go_at_call 15; refine (HC.out _ B3.out).mono ?_; rintro e w4 ⟨rfl, b4⟩; have B4 := Lib.hid (below_then B3.out b4); have R1 := Lib.hid ((R1'.out.below b4).more b4.size); have R2' := Lib.hid ((R2.out.below b4).more b4.size); clear b4 R1' R2)
    | (go_at_call 10; refine (HI2.out _ _ _ B4.out R1.out).mono ?_; rintro e w5 ⟨v, rfl, hO, b5⟩; obtain ⟨y3, c3, rfl, -, -, hr3, -⟩ := hO.form; have R3 := Lib.hid hr3; have R1' := Lib.hid ((R1.out.below b5).more b5.size); have R2 := Lib.hid ((R2'.out.below b5).more b5.size); have B5 := Lib.hid (below_then B4.out b5); clear b5 hO hr3 R1 R2')
    | (go_at_call 8; refine (HF2.out _ _ _ B5.out R2.out).mono ?_; rintro e w6 ⟨v, rfl, hO, b6⟩; obtain ⟨y4, c4, rfl, -, -, hr4, -⟩ := hO.form; have R4 := Lib.hid hr4; have R1 := Lib.hid ((R1'.out.below b6).more b6.size); have R3' := Lib.hid ((R3.out.below b6).more b6.size); have B6 := Lib.hid (below_then B5.out b6); clear b6 hO hr4 R1' R3)
    | (go_at_call_of 14 (Value.slice y3 xs.length c3); refine (HS.out _ _ _ B6.out R3'.out).mono ?_; rintro e w' ⟨rfl, n1, rfl⟩)
    | (go_at_call 14; refine (HS.out _ _ _ (below_draws B6.out n1) (R4.out.draws n1)).mono ?_; rintro e w' ⟨rfl, n2, rfl⟩)
    | (go_at_call 17; refine (HN.out _ _ _ (R1.out.draws _)).mono ?_; rintro e w' ⟨rfl, rfl⟩))
  go_ret
  exact ⟨rfl, below_draws B6.out _⟩

theorem walk_DftBack (p : Int) (x : Option Addr) (len cap : Nat) (zs : List Int) (neg : Bool) (w : World) (_hp : (Lit.int .u64 p).wf = true) (hr : RowIn .u64 w x len cap zs) (hG : Gl w) :
    Calls Tryd.prog 4 #[.int .u64 p, .slice x len cap, .bool neg] w fun e w' => e = .returned (.bool true) ∧ Below w.heap.size w w' := by
  obtain ⟨xs, -, hn, hc, hm, hx, hw⟩ := hr.reads
  unfold maxLen at hm
  by_cases hl : len ≤ 32
  · by_cases hE : lineE p xs neg = 0
    · exact dftback_yes p x len cap xs neg w hG hx hn hw hl (lineE_zero hE)
    · exact dftback_no p x len cap xs neg w hG hx hn hw hl hE
  · have hdl : decide (32 < (len : Int)) = true := by simp; omega
    have HV := Lib.hid (live6_any w hG)
    clear hr hx hG
    go_enter Tryd.func4, Tryd.ntmps4
    go_wp2_with (go_at_call 7; refine HV.out.mono ?_; rintro e w1 ⟨rfl, b1⟩)
    go_ret
    exact ⟨rfl, b1⟩

end Go.Proofs.YtmkbgocmddjfbaaDoor
