/-
  The walk of CodeOne: of a codeword whatever becomes of one word, or cell, the codeword is told, and just that one fix.
-/
import Derived.Test.YtpdiilfpbkmebaaCodeLive
namespace Go.Proofs.Ytpdiilfpbkmebaa
open Go.RowKit

theorem words_app {a b : List Int} (ha : Words a) (hb : Words b) : Words (a ++ b) := fun j => by
  by_cases h : j < a.length
  · rw [app_left h]; exact ha j
  · rw [app_right rfl (by omega)]; exact hb _
theorem cw_words {p : Int} {xs : List Int} (hk : Fp.kn p = true) (hw : Words xs) : Words (Cd.cw p xs) :=
  words_app hw (thrice_words (words_small (by
    intro x hx
    simp at hx
    rcases hx with rfl | rfl
    · exact md_word hk _
    · exact md_word hk _)))

set_option maxRecDepth 100000 in
set_option maxHeartbeats 4000000 in
theorem one_err (p : Int) (x : Option Addr) (n cap : Nat) (xs : List Int) (a u : Int) (w : World) (hx : Reads .u64 w w.heap.size x xs) (hn : xs.length = n) (hw : Words xs) (h40 : n ≤ 40) (he : Cd.kpE p xs ≠ 0) :
    Calls Try.prog 4 #[.int .u64 p, .slice x n cap, .int .u16 a, .int .u64 u] w fun e w' => e = .returned (.bool true) ∧ Below w.heap.size w w' := by
  have HV := Lib.hid (live14_any w)
  have d1 : decide ((40 : Int) < (n : Int)) = false := by simp; omega
  have hL : Cd.kpL p xs = [] := by unfold Cd.kpL; rw [if_neg he]
  have HP := Lib.hid (fun W (hW : Below w.heap.size w W) => kput_any p x n cap xs W (hx.later hW) hn hw)
  rw [hL] at HP
  have hne : (Cd.kpE p xs != 0) = true := by rw [bne_iff_ne]; exact he
  have HI := Lib.hid (fun W (hW : Below w.heap.size w W) => cin_any p x n cap xs W w.heap.size (hx.below hW) hn (by omega))
  cases hk : Fp.kn p
  · have H := Lib.hid hk
    generalize Cd.kpE p xs = er at HP hne
    clear hx hn hw he hL hk
    go_enter Try.func4, Try.ntmps4
    go_wp2_with (first
      | (go_at_call 10; refine HV.out.mono ?_; rintro e w1 ⟨rfl, hb1⟩; have B1 := Lib.hid hb1; clear hb1 HV)
      | (go_at_call 13; refine (HP.out _ B1.out).mono ?_; rintro e w2 hr; obtain ⟨x2, c2, rfl, -, -, -, hB⟩ := hr.open (n := 0) rfl; have B2 := Lib.hid (below_on' B1.out hB); clear hr hB)
      | (go_at_call 21; refine (known_no p _ H.out).mono ?_; rintro e w3 ⟨rfl, rfl⟩))
    go_ret
    exact ⟨rfl, B2.out⟩
  · have H := Lib.hid hk
    by_cases h0 : n = 0
    · have hz : ((n : Int) == 0) = true := by rw [beq_iff_eq]; omega
      generalize Cd.kpE p xs = er at HP hne
      clear hx hn hw he hL hk h0
      go_enter Try.func4, Try.ntmps4
      go_wp2_with (first
        | (go_at_call 10; refine HV.out.mono ?_; rintro e w1 ⟨rfl, hb1⟩; have B1 := Lib.hid hb1; clear hb1 HV)
        | (go_at_call 13; refine (HP.out _ B1.out).mono ?_; rintro e w2 hr; obtain ⟨x2, c2, rfl, -, -, -, hB⟩ := hr.open (n := 0) rfl; have B2 := Lib.hid (below_on' B1.out hB); clear hr hB)
        | (go_at_call 21; refine (known_yes p _ H.out).mono ?_; rintro e w3 ⟨rfl, rfl⟩))
      go_ret
      exact ⟨rfl, B2.out⟩
    · have hz : ((n : Int) == 0) = false := by rw [beq_eq_false_iff_ne]; omega
      have hi : Cd.inp p xs = false := by
        cases hi : Cd.inp p xs
        · rfl
        · exact absurd (Cd.kpE_zero.2 ⟨hk, by omega, by omega, hi⟩) he
      rw [hi] at HI
      generalize Cd.kpE p xs = er at HP hne
      clear hx hn hw he hL hk h0 hi
      go_enter Try.func4, Try.ntmps4
      go_wp2_with (first
        | (go_at_call 10; refine HV.out.mono ?_; rintro e w1 ⟨rfl, hb1⟩; have B1 := Lib.hid hb1; clear hb1 HV)
        | (go_at_call 13; refine (HP.out _ B1.out).mono ?_; rintro e w2 hr; obtain ⟨x2, c2, rfl, -, -, -, hB⟩ := hr.open (n := 0) rfl; have B2 := Lib.hid (below_on' B1.out hB); clear hr hB)
        | (go_at_call 21; refine (known_yes p _ H.out).mono ?_; rintro e w3 ⟨rfl, rfl⟩)
        | (go_at_call 22; refine (HI.out _ B2.out).mono ?_; rintro e w3 ⟨rfl, rfl⟩))
      go_ret
      exact ⟨rfl, B2.out⟩

set_option maxRecDepth 100000 in
set_option maxHeartbeats 16000000 in
theorem one_ok (p : Int) (x : Option Addr) (n cap : Nat) (xs : List Int) (A : Nat) (u : Int) (w : World) (hx : Reads .u64 w w.heap.size x xs) (hn : xs.length = n) (hw : Words xs) (h40 : n ≤ 40) (he : Cd.kpE p xs = 0)
    (hA : A < 65536) (u0 : 0 ≤ u) (u1 : u < 18446744073709551616) :
    Calls Try.prog 4 #[.int .u64 p, .slice x n cap, .int .u16 (A : Int), .int .u64 u] w fun e w' => e = .returned (.bool true) ∧ Below w.heap.size w w' := by
  obtain ⟨hk, h1, -, -⟩ := Cd.kpE_zero.1 he
  have HV := Lib.hid (live14_any w)
  obtain ⟨i0, hi, hz0, hz1, hz2⟩ := info_parts info_u64
  have d1 : decide ((40 : Int) < (n : Int)) = false := by simp; omega
  have hL : Cd.kpL p xs = Cd.cw p xs := by unfold Cd.kpL; rw [if_pos he]
  have HP := Lib.hid (fun W (hW : Below w.heap.size w W) => kput_any p x n cap xs W (hx.later hW) hn hw)
  rw [hL, he] at HP
  have hlen := Cd.cw_len p xs
  have hcw := cw_words hk hw
  obtain ⟨N, hN⟩ : ∃ N, N = n + 6 := ⟨_, rfl⟩
  have hz : (n : Int) + 6 = (N : Int) := by omega
  have hNb : N ≤ 46 := by omega
  have hN0 : 0 < N := by omega
  have hNz : (N : Int) ≠ 0 := by omega
  rw [hn, ← hN] at hlen
  obtain ⟨k, hkd⟩ : ∃ k : Nat, k = A % N := ⟨_, rfl⟩
  have hkN : k < N := by rw [hkd]; exact Nat.mod_lt _ hN0
  have hka : (A : Int) % (N : Int) = (k : Int) := by rw [hkd, ← cast_mod]
  obtain ⟨f1, f2, f3, f4⟩ := Cd.fix_one he hw (k := k) (by rw [hlen]; exact hkN) u0
  have HF := Lib.hid (fun W g c (hr : Reads .u64 W W.heap.size (some ⟨g, 0, none⟩) ((Cd.cw p xs).set k u)) hc hm => kfix_any p (some ⟨g, 0, none⟩) N c ((Cd.cw p xs).set k u) W hr (by rw [List.length_set]; exact hlen) hc hm (Words.put hcw k u0 u1))
  have HLk := Lib.hid (fun W g c (hr : Reads .u64 W W.heap.size (some ⟨g, 0, none⟩) ((Cd.cw p xs).set k u)) hc hm => klook_any p (some ⟨g, 0, none⟩) N c ((Cd.cw p xs).set k u) W hr (by rw [List.length_set]; exact hlen) hc hm (Words.put hcw k u0 u1))
  have hln : Cd.lnE p N = 0 := by have := Cd.cw_lnE he; rw [hlen] at this; exact this
  rw [f1, f2, f3] at HF
  rw [f4, hln] at HLk
  have HS := Lib.hid (fun W x y c c' (h1 : Reads .u64 W W.heap.size x (Cd.cw p xs)) (h2 : Reads .u64 W W.heap.size y (Cd.cw p xs)) => sameW_any x y N N c c' (Cd.cw p xs) (Cd.cw p xs) W W.heap.size h1 h2 hlen hlen (by omega) (by omega))
  rw [decide_eq_true rfl] at HS
  have HLen := Lib.hid hlen
  generalize Cd.cw p xs = cs at HP HF HLk HS HLen
  obtain ⟨y, hy⟩ : ∃ y, y = cs.getD k 0 := ⟨_, rfl⟩
  rw [← hy] at HF HLk
  have HY := Lib.hid hy
  clear hx hn hw he hL hlen hcw hN hkd f1 f2 f3 f4 hln hy u0 u1 hk
  by_cases huy : u = y
  · have t1 : (u == y) = true := by simpa using huy
    rw [if_neg (fun e => e huy)] at HF
    rw [decide_eq_true huy] at HLk
    clear huy
    go_enter Try.func4, Try.ntmps4
    go_wp2_with (first
      | (go_at_call 10; refine HV.out.mono ?_; rintro e w1 ⟨rfl, hb1⟩; have B1 := Lib.hid hb1; clear hb1 HV)
      | (go_at_call 13; refine (HP.out _ B1.out).mono ?_; rintro e w2 hr; obtain ⟨x2, c2, rfl, hO, -, -, hB⟩ := hr.open HLen.out; obtain ⟨x2', c2', e2, -, -, hr2, hf2⟩ := hO.form; rw [HLen.out] at e2 hf2; simp only [Value.slice.injEq] at e2; obtain ⟨rfl, -, rfl⟩ := e2; obtain ⟨g2, rfl, -, hg2⟩ := hf2 hN0; have B2 := Lib.hid (below_on' B1.out hB); have S2 := Lib.hid (hO.source HLen.out); have R2 := Lib.hid hr2; have G2 := Lib.hid hg2; have C2 := Lib.hid (hO.num HLen.out hkN); clear hr hB hO hr2 hf2 hg2)
      | (at_builtin; refine wpList_copy_new rfl _ _ 23 rfl 22 i0 .u64 8 Try.underlying23 hi hz0 hz1 hz2 _ N c2 cs rfl rfl S2.out (by unfold maxLen; omega) (by omega) ?_; intro v3 w3 hO hB; obtain ⟨x3, c3, rfl, hc3, hm3, -, hf3⟩ := hO.form; rw [HLen.out] at hO hc3 hf3 ⊢; obtain ⟨g3, rfl, hg3, -⟩ := hf3 hN0; have ho3 := hO.num HLen.out hkN; have hm3' := hO.melt HLen.out k; have O4 := Lib.hid (hO.put HLen.out k u); have B3 := Lib.hid hB; have B4 := Lib.hid (hB.setCell (p := ⟨g3, k, none⟩) hg3 (.int .u64 u)); have Q3 := Lib.hid (And.intro hc3 hm3); clear hO hB hf3 hc3 hm3 hg3)
      | (go_at_call 17; refine (HF.out _ _ _ O4.out.rd Q3.out.1 Q3.out.2).mono ?_; rintro e w5 hr; obtain ⟨x5, c5, y5, d5, rfl, hO, -, -, hR, hB⟩ := hr.open HLen.out (m := 0) rfl; have R5 := Lib.hid hO.rd; have B5 := Lib.hid hB; have B25 := Lib.hid (below_on' B4.out hB); clear hr hO hR hB)
      | (go_at_call 15; refine (HLk.out _ _ _ (O4.out.rd.later B5.out) Q3.out.1 Q3.out.2).mono ?_; rintro e w6 ⟨rfl, hB⟩; have B26 := Lib.hid (below_on' B25.out hB); have R6 := Lib.hid (R5.out.later hB); have hc6 := (B26.out.cell (p := ⟨g2, k, none⟩) G2.out).trans C2.out; rw [← HY.out] at hc6; clear hB)
      | (go_at_call 19; refine (HS.out _ _ _ _ _ R6.out (R2.out.later B26.out)).mono ?_; rintro e w7 ⟨rfl, nq, rfl⟩))
    go_ret
    exact ⟨rfl, below_draws (below_on' B2.out B26.out) _⟩
  · have t1 : (u == y) = false := by simpa using huy
    rw [if_pos huy] at HF
    rw [decide_eq_false huy] at HLk
    have HSF := Lib.hid (fun W x y' c c' (h1 : ReadsF W W.heap.size x [⟨(k : Int), u, y⟩]) (h2 : ReadsF W W.heap.size y' [⟨(k : Int), u, y⟩]) => sameF_any x y' 1 1 c c' [⟨(k : Int), u, y⟩] [⟨(k : Int), u, y⟩] W W.heap.size h1 h2 rfl rfl (by omega) (by omega))
    rw [decide_eq_true rfl] at HSF
    have HN1 := Lib.hid (fun (W : World) => (fun _ => ⟨W.heap.size, 0, rfl, by simp, fun j hj => by
      obtain rfl : j = 0 := by simp at hj; omega
      have := cell_fx_new W ⟨(k : Int), u, y⟩
      exact ⟨by simpa [Addr.add] using this 0 _ rfl, by simpa [Addr.add] using this 1 _ rfl, by simpa [Addr.add] using this 2 _ rfl⟩⟩ : ReadsF (W.alloc (fxO ⟨(k : Int), u, y⟩)) (W.alloc (fxO ⟨(k : Int), u, y⟩)).heap.size (some ⟨W.heap.size, 0, none⟩) [⟨(k : Int), u, y⟩]))
    clear huy
    go_enter Try.func4, Try.ntmps4
    go_wp2_with (first
      | (go_at_call 10; refine HV.out.mono ?_; rintro e w1 ⟨rfl, hb1⟩; have B1 := Lib.hid hb1; clear hb1 HV)
      | (go_at_call 13; refine (HP.out _ B1.out).mono ?_; rintro e w2 hr; obtain ⟨x2, c2, rfl, hO, -, -, hB⟩ := hr.open HLen.out; obtain ⟨x2', c2', e2, -, -, hr2, hf2⟩ := hO.form; rw [HLen.out] at e2 hf2; simp only [Value.slice.injEq] at e2; obtain ⟨rfl, -, rfl⟩ := e2; obtain ⟨g2, rfl, -, hg2⟩ := hf2 hN0; have B2 := Lib.hid (below_on' B1.out hB); have S2 := Lib.hid (hO.source HLen.out); have R2 := Lib.hid hr2; have G2 := Lib.hid hg2; have C2 := Lib.hid (hO.num HLen.out hkN); clear hr hB hO hr2 hf2 hg2)
      | (at_builtin; refine wpList_copy_new rfl _ _ 23 rfl 22 i0 .u64 8 Try.underlying23 hi hz0 hz1 hz2 _ N c2 cs rfl rfl S2.out (by unfold maxLen; omega) (by omega) ?_; intro v3 w3 hO hB; obtain ⟨x3, c3, rfl, hc3, hm3, -, hf3⟩ := hO.form; rw [HLen.out] at hO hc3 hf3 ⊢; obtain ⟨g3, rfl, hg3, -⟩ := hf3 hN0; have ho3 := hO.num HLen.out hkN; have hm3' := hO.melt HLen.out k; have O4 := Lib.hid (hO.put HLen.out k u); have B3 := Lib.hid hB; have B4 := Lib.hid (hB.setCell (p := ⟨g3, k, none⟩) hg3 (.int .u64 u)); have Q3 := Lib.hid (And.intro hc3 hm3); clear hO hB hf3 hc3 hm3 hg3)
      | (go_at_call 17; refine (HF.out _ _ _ O4.out.rd Q3.out.1 Q3.out.2).mono ?_; rintro e w5 hr; obtain ⟨x5, c5, y5, d5, rfl, hO, -, -, hR, hB⟩ := hr.open HLen.out (m := 1) rfl; have R5 := Lib.hid hO.rd; have F5 := Lib.hid hR; have B5 := Lib.hid hB; have B25 := Lib.hid (below_on' B4.out hB); clear hr hO hR hB)
      | (go_at_call 15; refine (HLk.out _ _ _ (O4.out.rd.later B5.out) Q3.out.1 Q3.out.2).mono ?_; rintro e w6 ⟨rfl, hB⟩; have B26 := Lib.hid (below_on' B25.out hB); have R6 := Lib.hid (R5.out.later hB); have F6 := Lib.hid (F5.out.since hB); have hc6 := (B26.out.cell (p := ⟨g2, k, none⟩) G2.out).trans C2.out; rw [← HY.out] at hc6; clear hB)
      | (go_at_call 19; refine (HS.out _ _ _ _ _ R6.out (R2.out.later B26.out)).mono ?_; rintro e w7 ⟨rfl, nq, rfl⟩)
      | (go_at_call 20; refine (HSF.out _ _ _ _ _ (((F6.out.draws nq).more (Nat.le_refl _)).since (below_al (Below.refl _ (w6.drewN nq)) (fxO ⟨(k : Int), u, y⟩))) (HN1.out (w6.drewN nq))).mono ?_; rintro e w8 ⟨rfl, nq2, rfl⟩))
    go_ret
    exact ⟨rfl, below_draws (below_al (below_draws (below_on' B2.out B26.out) _) _) _⟩

set_option maxRecDepth 100000 in
theorem walk_CodeOne (p : Int) (x : Option Addr) (n cap : Nat) (zs : List Int) (a u : Int) (w : World) (_hp : (Lit.int .u64 p).wf = true) (r : RowIn .u64 w x n cap zs) (ha : (Lit.int .u16 a).wf = true) (hu : (Lit.int .u64 u).wf = true) :
    Calls Try.prog 4 #[.int .u64 p, .slice x n cap, .int .u16 a, .int .u64 u] w fun e w' => e = .returned (.bool true) ∧ Below w.heap.size w w' := by
  obtain ⟨xs, -, hn, hc, hcm, hx, hw⟩ := r.reads
  have hub := bounds_u64 hu
  have hab := bounds_u16 ha
  by_cases h : n ≤ 40
  · by_cases he : Cd.kpE p xs = 0
    · obtain ⟨A, rfl⟩ := Int.eq_ofNat_of_zero_le (show 0 ≤ a by omega)
      exact one_ok p x n cap xs A u w hx hn hw h he (by omega) (by omega) (by omega)
    · exact one_err p x n cap xs a u w hx hn hw h he
  · have HV := Lib.hid (live14_any w)
    have d1 : decide ((40 : Int) < (n : Int)) = true := by simp; omega
    clear r hx hn hw hc hcm ha hu hub hab
    go_enter Try.func4, Try.ntmps4
    go_wp2_with (go_at_call 10; refine HV.out.mono ?_; rintro e w1 ⟨rfl, hb1⟩)
    go_ret
    exact ⟨rfl, hb1⟩

end Go.Proofs.Ytpdiilfpbkmebaa
