/-
  The walk of the law SeedFalse: it returns true for every word, every slice of axes, there or back, and every three slices of words; nothing that was there is written.
-/
import Derived.Test.YtmeeldhejbdgjaaDoorSeedLive
import Derived.Test.YtmeeldhejbdgjaaDoorSeedCheck
import Derived.Test.YtmeeldhejbdgjaaDoorRows2
namespace Go.Proofs.YtmeeldhejbdgjaaDoor
open Go.RowKit Go.Shelf

/-- Does the k-th seed alone take ys for the transform of xs? -/
def okk (p : Int) (xa : List Ax) (inv : Bool) (xs ys ss : List Int) (k : Nat) : Bool := ckB p xa inv xs ys [ss.getD k 0]
/-- How many different ones of the first k do. -/
def fl (ok : Nat → Bool) (p : Int) (ss : List Int) : Nat → Nat
  | 0 => 0
  | k + 1 => fl ok p ss k + if (ok k && !Fp.met p ss k) = true then 1 else 0
theorem fl_le (ok : Nat → Bool) (p : Int) (ss : List Int) : ∀ k, fl ok p ss k ≤ k
  | 0 => Nat.le_refl _
  | k + 1 => by rw [fl]; have := fl_le ok p ss k; split <;> omega
theorem fl_none {ok : Nat → Bool} (h : ∀ k, ok k = false) (p : Int) (ss : List Int) : ∀ k, fl ok p ss k = 0
  | 0 => rfl
  | k + 1 => by rw [fl, fl_none h p ss k, h k]; simp
/-- Was it there before, among the first q? -/
def metq (p : Int) (ss : List Int) (k q : Nat) : Bool := (List.range q).any fun j => Fp.red p (ss.getD j 0) == Fp.red p (ss.getD k 0)
theorem metq_all (p : Int) (ss : List Int) (k : Nat) : metq p ss k k = Fp.met p ss k := rfl
theorem metq_zero (p : Int) (ss : List Int) (k : Nat) : metq p ss k 0 = false := rfl
theorem metq_succ (p : Int) (ss : List Int) (k q : Nat) : metq p ss k (q + 1) = (metq p ss k q || (Fp.red p (ss.getD q 0) == Fp.red p (ss.getD k 0))) := by
  unfold metq; rw [List.range_succ, List.any_append]; simp

/-- The differences of two lists. -/
def dif (ws bs : List Int) : List Int := (List.range ws.length).map fun j => ws.getD j 0 - bs.getD j 0
theorem dif_ev {p : Int} (h : Fp.kn p = true) {ws bs : List Int} (hl : bs.length = ws.length) (r : Int) : (Fp.ev p (dif ws bs) r == 0) = decide (Fp.ev p bs r = Fp.ev p ws r) := by
  have e : Fp.hn r (dif ws bs) = Fp.hn r ws - Fp.hn r bs := by
    unfold dif
    rw [Fp.hn_range, Fp.hn_sum r ws, Fp.hn_sum r bs, hl]
    generalize ws.length = n
    induction n with
    | zero => rfl
    | succ n ih => rw [Fp.sum, Fp.sum, Fp.sum, ih, Int.sub_mul]; omega
  by_cases hq : Fp.ev p bs r = Fp.ev p ws r
  · rw [decide_eq_true hq, beq_iff_eq]
    unfold Fp.ev at hq ⊢
    refine Fp.zero_eqm h ?_
    rw [e]
    exact Fp.eqm_sub_zero (Fp.eqm_of_red h hq).symm
  · rw [decide_eq_false hq, beq_eq_false_iff_ne]
    intro hz
    apply hq
    unfold Fp.ev at hz ⊢
    have := Fp.eqm_zero h hz
    rw [e] at this
    exact Fp.red_of_eqm (Fp.eqm_zero_sub this).symm
theorem dif_ne {p : Int} (h : Fp.kn p = true) {ws bs : List Int} (hl : bs.length = ws.length) (ha : ∀ j, j < ws.length → ws.getD j 0 < p) (hb : ∀ j, j < bs.length → bs.getD j 0 < p) (hwa : Words ws) (hwb : Words bs) (hne : ws ≠ bs) :
    ∃ j, j < ws.length ∧ Fp.red p ((dif ws bs).getD j 0) ≠ 0 := by
  refine Classical.byContradiction fun hn => hne ?_
  have all : ∀ j, j < ws.length → bs.getD j 0 = ws.getD j 0 := fun j hj => by
    have hz : Fp.red p ((dif ws bs).getD j 0) = 0 := Classical.byContradiction fun hc => hn ⟨j, hj, hc⟩
    unfold dif at hz
    rw [getD_range _ hj] at hz
    exact (eq_of_eqm (Fp.eqm_zero_sub (Fp.eqm_zero h hz)) ⟨(hwa j).1, ha j hj⟩ ⟨(hwb j).1, hb j (by omega)⟩).symm
  have e1 := list_range ws
  rw [← e1]
  exact list_eq_range hl fun k hk => (all k hk).symm

section
variable {p : Int} {xa : List Ax} {inv : Bool} {xs ys ss : List Int}
theorem Grid.okE (h : Grid p xa xs) (hl : ys.length = xs.length) (r : Int) : ckE p xa xs ys [r] = 0 := ckE_ok h.zero hl (by simp)
theorem okk_in {k : Nat} (h : okk p xa inv xs ys ss k = true) : Fp.isIn p (fun j => ys.getD j 0) ys.length = true := by
  cases hi : Fp.isIn p (fun j => ys.getD j 0) ys.length
  · unfold okk at h; rw [ckB_in hi] at h; cases h
  · rfl
/-- Fewer seeds than words are fooled, by other words. -/
theorem Grid.fooled (h : Grid p xa xs) (hw : Words xs) (hwy : Words ys) (hl : ys.length = xs.length) (hne : Go.Proofs.YtmeeldhejbdgjaaDoor.doTo p xa inv xs xa.length ≠ ys) (k : Nat) : fl (okk p xa inv xs ys ss) p ss k < ys.length := by
  have h1 := h.le
  cases hi : Fp.isIn p (fun j => ys.getD j 0) ys.length
  · rw [fl_none (fun k => by unfold okk; exact ckB_in hi)]
    omega
  · have hG := h.doTo (inv := inv) xa.length
    have hlen := doTo_len p xa inv xs xa.length
    have hl' : ys.length = (Go.Proofs.YtmeeldhejbdgjaaDoor.doTo p xa inv xs xa.length).length := by rw [hlen, hl]
    obtain ⟨j, hj, hz⟩ := dif_ne h.ax.kn hl' hG.lt ((Fp.isIn_iff h.ax.kn _).1 hi) (h.doWords hw _) hwy hne
    have e : ∀ q, okk p xa inv xs ys ss q = (Fp.ev p (dif (Go.Proofs.YtmeeldhejbdgjaaDoor.doTo p xa inv xs xa.length) ys) (ss.getD q 0) == 0) := fun q => by
      rw [dif_ev h.ax.kn hl']
      unfold okk ckB agrees
      rw [h.okE hl, hi]
      simp [agree]
    have e2 : ∀ q, fl (okk p xa inv xs ys ss) p ss q = Fp.rts p (dif (Go.Proofs.YtmeeldhejbdgjaaDoor.doTo p xa inv xs xa.length) ys) ss q := by
      intro q
      induction q with
      | zero => rfl
      | succ q ih => rw [fl, Fp.rts_succ, ih, e q]
    have hdl : (dif (Go.Proofs.YtmeeldhejbdgjaaDoor.doTo p xa inv xs xa.length) ys).length = ys.length := by unfold dif; simp [hlen, hl]
    rw [e2, ← hdl]
    exact Fp.rts_lt h.ax.kn (by rw [hdl, hl']; exact hj) hz
end

/-- One word in memory. -/
theorem reads_word {w : World} {g : Nat} {v : Int} (h : w.cell? ⟨g, 0, none⟩ = some (.int .u64 v)) : Reads .u64 w w.heap.size (some ⟨g, 0, none⟩) [v] := fun _ => ⟨g, 0, rfl, World.block_lt_of_cell? _ _ h, fun j hj => by
  obtain rfl : j = 0 := by simpa using hj
  exact h⟩
theorem words_one {v : Int} (h : 0 ≤ v ∧ v < 18446744073709551616) : Words [v] := fun j => by
  rcases Nat.eq_zero_or_pos j with rfl | hj
  · exact h
  · obtain ⟨i, rfl⟩ : ∃ i, j = i + 1 := ⟨j - 1, by omega⟩
    simp

set_option maxHeartbeats 4000000 in
set_option maxRecDepth 100000 in
theorem seedfalse_main (p : Int) (x : Option Addr) (len cap : Nat) (xa : List Ax) (inv : Bool) (y : Option Addr) (m cap' : Nat) (xs : List Int) (z : Option Addr) (cap2 : Nat) (ys : List Int) (q : Option Addr) (m3 cap3 : Nat) (ss : List Int) (w : World) (hG : Gl w) (hx : ReadsA w w.heap.size x xa) (hn : xa.length = len) (hlb : len ≤ 8796093022208)
    (hy : Reads .u64 w w.heap.size y xs) (hm : xs.length = m) (hw : Words xs) (hcp : m ≤ cap') (g1 : m ≤ 16) (hz : Reads .u64 w w.heap.size z ys) (hm2 : ys.length = m) (hw2 : Words ys) (hq : Reads .u64 w w.heap.size q ss) (hm3 : ss.length = m3) (hw3 : Words ss) (hcp3 : m3 ≤ cap3) (g3 : m3 ≤ 24) (hGr : Grid p xa xs)
    (HFew : Hid (∀ W, Below w.heap.size w W → Calls Tryd.prog 8 #[.slice x len cap, .int .i64 16] W (RetB (.bool true) W))) :
    Calls Tryd.prog 5 #[.int .u64 p, .slice x len cap, .bool inv, .slice y m cap', .slice z m cap2, .slice q m3 cap3] w fun e w' => e = .returned (.bool true) ∧ Below w.heap.size w w' := by
  have HV := Lib.hid (live9_any w hG)
  have hml : m ≤ maxLen := by unfold maxLen; omega
  have d1 : decide (16 < (m : Int)) = false := by simp; omega
  have d3 : decide (24 < (m3 : Int)) = false := by simp; omega
  have HD := Lib.hid (fun W (hB : Below w.heap.size w W) => do_any p x len cap xa inv y m cap' xs W (hG.then hB) ((hx.below hB).more hB.size) hn hlb ((hy.below hB).more hB.size) hm hw hml)
  rw [hGr.zero, hGr.doL] at HD
  have hL := doTo_len p xa inv xs xa.length
  rw [hm] at hL
  have hle := hGr.le
  rw [hm] at hle
  have HC : Hid (∀ (k g : Nat) W, Below w.heap.size w W → W.cell? ⟨g, 0, none⟩ = some (.int .u64 (ss.getD k 0)) → Calls Tryd.prog 13 #[.int .u64 p, .slice x len cap, .bool inv, .slice y m cap', .slice z m cap2, .slice (some ⟨g, 0, none⟩) 1 1] W (RetB (.tuple #[.bool (okk p xa inv xs ys ss k), .int .i64 0]) W)) := Lib.hid (fun k g W hB hcg => by
    have := Check_any p x len cap xa inv y m cap' xs z m cap2 ys (some ⟨g, 0, none⟩) 1 1 [ss.getD k 0] W (hG.then hB) ((hx.below hB).more hB.size) hn hlb ((hy.below hB).more hB.size) hm hw hml hcp ((hz.below hB).more hB.size) hm2 hw2 hml
      (reads_word hcg) rfl (words_one (hw3 k)) (by unfold maxLen; omega)
    rwa [hGr.okE (by omega)] at this)
  have hFl : decide (doTo p xa inv xs xa.length = ys) = false → fl (okk p xa inv xs ys ss) p ss m3 < m := fun hne => by
    rw [← hm2]
    exact hGr.fooled hw hw2 (by omega) (of_decide_eq_false hne) m3
  have HFl := Lib.hid hFl
  have HIn : Hid (∀ k W, okk p xa inv xs ys ss k = true → Below w.heap.size w W → Calls Tryd.prog 17 #[.int .u64 p, .slice z m cap2] W fun e w' => e = .returned (.bool true) ∧ W = w') := Lib.hid (fun k W hk hB => by
    have hi := okk_in hk
    obtain ⟨b, off, rfl, hb, hc⟩ := hz (by omega)
    rw [← hi, hm2]
    exact in_row p b off m cap2 _ W (by omega) (fun j hj => (hB.cell (p := ⟨b, off + j, none⟩) hb).trans (hc j (by omega))))
  have HSame := Lib.hid (fun (y1 : Option Addr) (c1 : Nat) W (hB : Below w.heap.size w W) (hR : Reads .u64 W W.heap.size y1 (doTo p xa inv xs xa.length)) => same_any y1 z m m c1 cap2 (doTo p xa inv xs xa.length) ys W W.heap.size hR ((hz.below hB).more hB.size) hL hm2 (by omega) (by omega))
  have HQ : Hid (∀ W, Below w.heap.size w W → ∀ k, k < m3 → ∃ b3 off3, q = some ⟨b3, off3, none⟩ ∧ ∀ j, j < m3 → W.cell? ⟨b3, off3 + j, none⟩ = some (.int .u64 (ss.getD j 0))) := Lib.hid (fun W hB k hk => by
    obtain ⟨b3, off3, e, hb, hc⟩ := hq (by omega)
    exact ⟨b3, off3, e, fun j hj => (hB.cell (p := ⟨b3, off3 + j, none⟩) hb).trans (hc j (by omega))⟩)
  have HW3 := Lib.hid hw3
  have HLL := Lib.hid hL
  generalize doTo p xa inv xs xa.length = ds at HD HSame HFl HLL hFl
  generalize okk p xa inv xs ys ss = ok at HC HFl HIn hFl
  clear hx hy hG hw hm hn hml hq hm3 hw3 hcp hz hm2 hw2 hGr hL hFl
  go_enter Tryd.func5, Tryd.ntmps5
  go_wp2_with (first
    | (go_at_call 7; refine HV.out.mono ?_; rintro e w1 ⟨rfl, b1⟩; have B1 := Lib.hid b1; clear b1)
    | (go_at_call 8; refine (HFew.out _ B1.out).mono ?_; rintro e w2 ⟨rfl, b2⟩; have B2 := Lib.hid (below_then B1.out b2); clear b2)
    | (go_at_call 15; refine (HD.out _ B2.out).mono ?_; rintro e w3 ⟨v, rfl, hO, b3⟩; obtain ⟨y1, c1, rfl, -, -, hr1, -⟩ := hO.form; have R1 := Lib.hid hr1; have B3 := Lib.hid (below_then B2.out b3); rw [HLL.out]; clear b3 hO hr1))
  go_loopw [15, 57] (fun t i wr => ∃ k : Nat, k ≤ m3 ∧ i = .int .i64 (k : Int) ∧ t = .int .i64 ((fl ok p ss k : Nat) : Int) ∧ Hid (Below w3.heap.size w3 wr)) (fun _ i _ => m3 - (intOf i).toNat)
  case atStart => exact ⟨0, Nat.zero_le _, rfl, rfl, Lib.hid (Below.refl _ _)⟩
  case round =>
    obtain ⟨k, hk, rfl, rfl, HBl⟩ := hrel
    have hflk := fl_le ok p ss k
    by_cases hlt : k < m3
    · have hdk : decide (k < m3) = true := by simpa using hlt
      have HBw := Lib.hid (below_then B3.out HBl.out)
      obtain ⟨b3, off3, rfl, hcs⟩ := HQ.out wr HBw.out k hlt
      have hck := hcs k hlt
      have HCS := Lib.hid hcs
      obtain ⟨u0, u1⟩ := HW3.out k
      have HFS : Hid (fl ok p ss (k + 1) = fl ok p ss k + if (ok k && !Fp.met p ss k) = true then 1 else 0) := Lib.hid rfl
      have HC1 := Lib.hid (fun g W (hB : Below wr.heap.size wr W) => HC.out k g W (below_then HBw.out hB))
      have HI1 := Lib.hid (fun W h (hB : Below wr.heap.size wr W) => HIn.out k W h (below_then HBw.out hB))
      have HMS := Lib.hid (fun j => metq_succ p ss k j)
      have HMA := Lib.hid (metq_all p ss k)
      obtain ⟨u, hu⟩ : ∃ u, u = ss.getD k 0 := ⟨_, rfl⟩
      rw [← hu] at hck u0 u1 HC1 HMS
      clear hcs hu
      go_wp2
      go_loop [18, 66] (fun t i => ∃ (j : Nat) (b : Bool), j ≤ k ∧ i = .int .i64 (j : Int) ∧ t = .bool b ∧ Hid (metq p ss k j = b)) (fun _ i => k - (intOf i).toNat)
      case atStart => exact ⟨0, false, Nat.zero_le _, rfl, rfl, Lib.hid rfl⟩
      case round =>
        obtain ⟨j, b, hj, rfl, rfl, HM⟩ := hrel
        by_cases hlj : j < k
        · have hdj : decide (j < k) = true := by simpa using hlj
          have hcj := HCS.out j (by omega)
          obtain ⟨v0, v1⟩ := HW3.out j
          have HMj := Lib.hid (HMS.out j)
          obtain ⟨v, hv⟩ : ∃ v, v = ss.getD j 0 := ⟨_, rfl⟩
          rw [← hv] at hcj v0 v1 HMj
          rw [HM.out] at HMj
          clear hv
          cases b
          · go_wp2_with (first
              | (go_at_call_of 16 (Value.int IntKind.u64 v); refine (reduce_any p v _ (by omega) (by omega)).mono ?_; rintro e w' ⟨rfl, rfl⟩)
              | (go_at_call_of 16 (Value.int IntKind.u64 u); refine (reduce_any p u _ (by omega) (by omega)).mono ?_; rintro e w' ⟨rfl, rfl⟩))
            go_round
            case rel => exact ⟨j + 1, _, by omega, by go_num, rfl, Lib.hid (by rw [HMj.out, Bool.false_or])⟩
            case measure => simp [intOf]; omega
          · go_wp2
            go_round
            case rel => exact ⟨j + 1, true, by omega, by go_num, rfl, Lib.hid (by rw [HMj.out, Bool.true_or])⟩
            case measure => simp [intOf]; omega
        · obtain rfl : j = k := by omega
          have hmet := HM.out
          rw [HMA.out] at hmet
          rw [hmet] at HFS
          clear hlj HM hmet
          obtain ⟨f1, hf1⟩ : ∃ f1, f1 = fl ok p ss (j + 1) := ⟨_, rfl⟩
          have HF1 := Lib.hid hf1
          rw [← hf1] at HFS
          clear hf1
          generalize fl ok p ss j = f0 at HFS hflk ⊢
          cases hok : ok j
          · rw [hok] at HC1 HFS
            have he : f1 = f0 := by rw [HFS.out]; simp
            go_wp2_with (go_at_call 13; refine (HC1.out wr.heap.size _ (below_al (Below.refl _ wr) _) (by simp)).mono ?_; rintro e w5 ⟨rfl, b5⟩; have B5 := Lib.hid (below_then (below_al (Below.refl _ wr) _) b5); clear b5)
            go_roundw
            case rel => exact ⟨j + 1, hlt, by go_num, by rw [← HF1.out, he], Lib.hid (below_then HBl.out B5.out)⟩
            case measure => simp [intOf]; omega
          · rw [hok] at HC1 HFS
            cases b
            · have he : f1 = f0 + 1 := by rw [HFS.out]; simp
              go_wp2_with (first
                | (go_at_call 13; refine (HC1.out wr.heap.size _ (below_al (Below.refl _ wr) _) (by simp)).mono ?_; rintro e w5 ⟨rfl, b5⟩; have B5 := Lib.hid (below_then (below_al (Below.refl _ wr) _) b5); clear b5)
                | (go_at_call 17; refine (HI1.out _ hok B5.out).mono ?_; rintro e w' ⟨rfl, rfl⟩))
              go_roundw
              case rel => exact ⟨j + 1, hlt, by go_num, by rw [← HF1.out, he]; go_num, Lib.hid (below_then HBl.out B5.out)⟩
              case measure => simp [intOf]; omega
            · have he : f1 = f0 := by rw [HFS.out]; simp
              go_wp2_with (first
                | (go_at_call 13; refine (HC1.out wr.heap.size _ (below_al (Below.refl _ wr) _) (by simp)).mono ?_; rintro e w5 ⟨rfl, b5⟩; have B5 := Lib.hid (below_then (below_al (Below.refl _ wr) _) b5); clear b5)
                | (go_at_call 17; refine (HI1.out _ hok B5.out).mono ?_; rintro e w' ⟨rfl, rfl⟩))
              go_roundw
              case rel => exact ⟨j + 1, hlt, by go_num, by rw [← HF1.out, he], Lib.hid (below_then HBl.out B5.out)⟩
              case measure => simp [intOf]; omega
    · obtain rfl : k = m3 := by omega
      have HS1 := Lib.hid (HSame.out y1 c1 wr (below_then B3.out HBl.out) ((R1.out.below HBl.out).more HBl.out.size))
      have hfl := HFl.out
      generalize fl ok p ss k = f at hfl hflk ⊢
      cases hd : decide (ds = ys)
      · rw [hd] at HS1 hfl
        have hlt' := hfl rfl
        have dd : decide (f < m) = true := by simpa using hlt'
        clear hfl hd
        go_wp2_with (go_at_call 18; refine HS1.out.mono ?_; rintro e w' ⟨rfl, nd, rfl⟩)
        go_ret
        exact ⟨rfl, below_draws (below_then B3.out HBl.out) nd⟩
      · rw [hd] at HS1
        clear hfl hd
        go_wp2_with (go_at_call 18; refine HS1.out.mono ?_; rintro e w' ⟨rfl, nd, rfl⟩)
        go_ret
        exact ⟨rfl, below_draws (below_then B3.out HBl.out) nd⟩

set_option maxHeartbeats 2000000 in
set_option maxRecDepth 100000 in
theorem walk_SeedFalse (p : Int) (x : Option Addr) (len cap : Nat) (xa : List Ax) (inv : Bool) (y : Option Addr) (m cap' : Nat) (zs : List Int) (z : Option Addr) (m2 cap2 : Nat) (zs2 : List Int) (q : Option Addr) (m3 cap3 : Nat) (zs3 : List Int) (w : World) (_hp : (Lit.int .u64 p).wf = true) (hA : AxisIn w x len cap xa) (hlb : len ≤ 8796093022208) (hr : RowIn .u64 w y m cap' zs) (hr2 : RowIn .u64 w z m2 cap2 zs2) (hr3 : RowIn .u64 w q m3 cap3 zs3) (hG : Gl w) :
    Calls Tryd.prog 5 #[.int .u64 p, .slice x len cap, .bool inv, .slice y m cap', .slice z m2 cap2, .slice q m3 cap3] w fun e w' => e = .returned (.bool true) ∧ Below w.heap.size w w' := by
  obtain ⟨hn, hc1, hc2, hx, -⟩ := hA
  obtain ⟨xs, -, hm, hcp, hml, hy, hw⟩ := hr.reads
  obtain ⟨ys, -, hm2, hcp2, hml2, hz, hw2⟩ := hr2.reads
  obtain ⟨ss, -, hm3, hcp3, hml3, hq, hw3⟩ := hr3.reads
  have hml : m ≤ maxLen := Nat.le_trans hcp hml
  have hml2 : m2 ≤ maxLen := Nat.le_trans hcp2 hml2
  have hml3 : m3 ≤ maxLen := Nat.le_trans hcp3 hml3
  have HV := Lib.hid (live9_any w hG)
  obtain ⟨b, HFew⟩ := few_any x len cap xa 16 w hx hn hlb
  clear hr hr2 hr3 hc1 hc2 hcp2
  cases b
  · clear hx hy hG hw hm hn hml hq hm3 hw3 hml3 hcp hcp3 hz hm2 hw2 hml2
    go_enter Tryd.func5, Tryd.ntmps5
    go_wp2_with (first
      | (go_at_call 7; refine HV.out.mono ?_; rintro e w1 ⟨rfl, b1⟩; have B1 := Lib.hid b1; clear b1)
      | (go_at_call 8; refine (HFew.out _ B1.out).mono ?_; rintro e w2 ⟨rfl, b2⟩; have B2 := Lib.hid (below_then B1.out b2); clear b2))
    go_ret
    exact ⟨rfl, B2.out⟩
  · by_cases k1 : 16 < m
    · have d1 : decide (16 < (m : Int)) = true := by simp; omega
      clear hx hy hG hw hm hn hml hq hm3 hw3 hml3 hcp hcp3 hz hm2 hw2 hml2
      go_enter Tryd.func5, Tryd.ntmps5
      go_wp2_with (first
        | (go_at_call 7; refine HV.out.mono ?_; rintro e w1 ⟨rfl, b1⟩; have B1 := Lib.hid b1; clear b1)
        | (go_at_call 8; refine (HFew.out _ B1.out).mono ?_; rintro e w2 ⟨rfl, b2⟩; have B2 := Lib.hid (below_then B1.out b2); clear b2))
      go_ret
      exact ⟨rfl, B2.out⟩
    · have d1 : decide (16 < (m : Int)) = false := by simp; omega
      by_cases k2 : m2 = m
      · subst k2
        by_cases k3 : 24 < m3
        · have d3 : decide (24 < (m3 : Int)) = true := by simp; omega
          clear hx hy hG hw hm hn hml hq hm3 hw3 hml3 hcp hcp3 hz hm2 hw2 hml2
          go_enter Tryd.func5, Tryd.ntmps5
          go_wp2_with (first
            | (go_at_call 7; refine HV.out.mono ?_; rintro e w1 ⟨rfl, b1⟩; have B1 := Lib.hid b1; clear b1)
            | (go_at_call 8; refine (HFew.out _ B1.out).mono ?_; rintro e w2 ⟨rfl, b2⟩; have B2 := Lib.hid (below_then B1.out b2); clear b2))
          go_ret
          exact ⟨rfl, B2.out⟩
        · have d3 : decide (24 < (m3 : Int)) = false := by simp; omega
          by_cases hE : wordsE p xa xs = 0
          · exact seedfalse_main p x len cap xa inv y m2 cap' xs z cap2 ys q m3 cap3 ss w hG hx hn hlb hy hm hw hcp (by omega) hz hm2 hw2 hq hm3 hw3 hcp3 (by omega) (wordsE_zero hE) HFew
          · have HD := Lib.hid (fun W (hB : Below w.heap.size w W) => do_any p x len cap xa inv y m2 cap' xs W (hG.then hB) ((hx.below hB).more hB.size) hn hlb ((hy.below hB).more hB.size) hm hw hml)
            rw [doL_no hE] at HD
            have t := ne_of_bne hE
            generalize wordsE p xa xs = er at HD t
            clear hE
            clear hx hy hG hw hm hn hml hq hm3 hw3 hml3 hcp hcp3 hz hm2 hw2 hml2
            go_enter Tryd.func5, Tryd.ntmps5
            go_wp2_with (first
              | (go_at_call 7; refine HV.out.mono ?_; rintro e w1 ⟨rfl, b1⟩; have B1 := Lib.hid b1; clear b1)
              | (go_at_call 8; refine (HFew.out _ B1.out).mono ?_; rintro e w2 ⟨rfl, b2⟩; have B2 := Lib.hid (below_then B1.out b2); clear b2)
              | (go_at_call 15; refine (HD.out _ B2.out).mono ?_; rintro e w3 ⟨v, rfl, hO, b3⟩; obtain ⟨y1, c1, rfl, -, -, -, -⟩ := hO.form; have B3 := Lib.hid (below_then B2.out b3); clear b3 hO; simp only [List.length_nil]))
            go_ret
            exact ⟨rfl, B3.out⟩
      · have d2 : ((m2 : Int) != (m : Int)) = true := bne_of_ne (by omega)
        clear hx hy hG hw hm hn hml hq hm3 hw3 hml3 hcp hcp3 hz hm2 hw2 hml2
        go_enter Tryd.func5, Tryd.ntmps5
        go_wp2_with (first
          | (go_at_call 7; refine HV.out.mono ?_; rintro e w1 ⟨rfl, b1⟩; have B1 := Lib.hid b1; clear b1)
          | (go_at_call 8; refine (HFew.out _ B1.out).mono ?_; rintro e w2 ⟨rfl, b2⟩; have B2 := Lib.hid (below_then B1.out b2); clear b2))
        go_ret
        exact ⟨rfl, B2.out⟩

end Go.Proofs.YtmeeldhejbdgjaaDoor
