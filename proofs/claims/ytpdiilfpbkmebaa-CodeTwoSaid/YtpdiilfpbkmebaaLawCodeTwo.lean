/-
  The walk of CodeTwo: of a codeword of which two words are changed Look is false, and Fix does not take it as it is.
-/
import Derived.Test.YtpdiilfpbkmebaaLawCodeOne
namespace Go.Proofs.Ytpdiilfpbkmebaa
open Go.RowKit

set_option maxRecDepth 100000 in
set_option maxHeartbeats 4000000 in
theorem two_err (p : Int) (x : Option Addr) (n cap : Nat) (xs : List Int) (i j a b : Int) (w : World) (hx : Reads .u64 w w.heap.size x xs) (hn : xs.length = n) (hw : Words xs) (h2 : 2 ≤ n) (h40 : n ≤ 40) (he : Cd.kpE p xs ≠ 0) :
    Calls Try.prog 5 #[.int .u64 p, .slice x n cap, .int .u16 i, .int .u16 j, .int .u64 a, .int .u64 b] w fun e w' => e = .returned (.bool true) ∧ Below w.heap.size w w' := by
  have HV := Lib.hid (live14_any w)
  have d1 : decide ((40 : Int) < (n : Int)) = false := by simp; omega
  have d2 : decide ((n : Int) < 2) = false := by simp; omega
  have hL : Cd.kpL p xs = [] := by unfold Cd.kpL; rw [if_neg he]
  have HP := Lib.hid (fun W (hW : Below w.heap.size w W) => kput_any p x n cap xs W (hx.later hW) hn hw)
  rw [hL] at HP
  have hne : (Cd.kpE p xs != 0) = true := by rw [bne_iff_ne]; exact he
  generalize Cd.kpE p xs = er at HP hne
  clear hx hn hw he hL
  go_enter Try.func5, Try.ntmps5
  go_wp2_with (first
    | (go_at_call 10; refine HV.out.mono ?_; rintro e w1 ⟨rfl, hb1⟩; have B1 := Lib.hid hb1; clear hb1 HV)
    | (go_at_call 13; refine (HP.out _ B1.out).mono ?_; rintro e w2 hr; obtain ⟨x2, c2, rfl, -, -, -, hB⟩ := hr.open (n := 0) rfl; have B2 := Lib.hid (below_on' B1.out hB); clear hr hB))
  go_ret
  exact ⟨rfl, B2.out⟩

set_option maxRecDepth 100000 in
set_option maxHeartbeats 16000000 in
theorem two_still (p : Int) (x : Option Addr) (n cap : Nat) (xs : List Int) (I J : Nat) (a b : Int) (w : World) (hx : Reads .u64 w w.heap.size x xs) (hn : xs.length = n) (hw : Words xs) (h2 : 2 ≤ n) (h40 : n ≤ 40) (he : Cd.kpE p xs = 0)
    (hI : I < 65536) (hJ : J < 65536) (hst : I % n = J % n ∨ (Cd.cw p xs).getD (I % n) 0 = a ∨ (Cd.cw p xs).getD (J % n) 0 = b) :
    Calls Try.prog 5 #[.int .u64 p, .slice x n cap, .int .u16 (I : Int), .int .u16 (J : Int), .int .u64 a, .int .u64 b] w fun e w' => e = .returned (.bool true) ∧ Below w.heap.size w w' := by
  obtain ⟨hk, -, -, -⟩ := Cd.kpE_zero.1 he
  have HV := Lib.hid (live14_any w)
  have d1 : decide ((40 : Int) < (n : Int)) = false := by simp; omega
  have d2 : decide ((n : Int) < 2) = false := by simp; omega
  have hL : Cd.kpL p xs = Cd.cw p xs := by unfold Cd.kpL; rw [if_pos he]
  have HP := Lib.hid (fun W (hW : Below w.heap.size w W) => kput_any p x n cap xs W (hx.later hW) hn hw)
  rw [hL, he] at HP
  have hlen := Cd.cw_len p xs
  have hcw := cw_words hk hw
  obtain ⟨N, hN⟩ : ∃ N, N = n + 6 := ⟨_, rfl⟩
  have hz : (n : Int) + 6 = (N : Int) := by omega
  have hNb : N ≤ 46 := by omega
  have hN0 : 0 < N := by omega
  have hnz : (n : Int) ≠ 0 := by omega
  rw [hn, ← hN] at hlen
  obtain ⟨k, hkd⟩ : ∃ k : Nat, k = I % n := ⟨_, rfl⟩
  obtain ⟨m, hmd⟩ : ∃ m : Nat, m = J % n := ⟨_, rfl⟩
  have hkn : k < n := by rw [hkd]; exact Nat.mod_lt _ (by omega)
  have hmn : m < n := by rw [hmd]; exact Nat.mod_lt _ (by omega)
  have hka : (I : Int) % (n : Int) = (k : Int) := by rw [hkd, ← cast_mod]
  have hmb : (J : Int) % (n : Int) = (m : Int) := by rw [hmd, ← cast_mod]
  have hkN : k < N := by omega
  have hmN : m < N := by omega
  obtain ⟨u, hu⟩ : ∃ u, u = (Cd.cw p xs).getD k 0 := ⟨_, rfl⟩
  obtain ⟨v, hv⟩ : ∃ v, v = (Cd.cw p xs).getD m 0 := ⟨_, rfl⟩
  rw [← hkd, ← hmd, ← hu, ← hv] at hst
  have HLen := Lib.hid hlen
  have HY := Lib.hid (And.intro hu hv)
  generalize Cd.cw p xs = cs at HP HLen HY
  clear hx hn hw he hL hlen hcw hN hkd hmd hu hv hk
  by_cases hkm : k = m
  · have t1 : ((k : Int) == (m : Int)) = true := by rw [beq_iff_eq]; omega
    clear hkm hst
    go_enter Try.func5, Try.ntmps5
    go_wp2_with (first
      | (go_at_call 10; refine HV.out.mono ?_; rintro e w1 ⟨rfl, hb1⟩; have B1 := Lib.hid hb1; clear hb1 HV)
      | (go_at_call 13; refine (HP.out _ B1.out).mono ?_; rintro e w2 hr; obtain ⟨x2, c2, rfl, hO, hc2, hm2, hB⟩ := hr.open HLen.out; obtain ⟨x2', c2', e2, -, -, -, hf2⟩ := hO.form; rw [HLen.out] at e2 hf2; simp only [Value.slice.injEq] at e2; obtain ⟨rfl, -, rfl⟩ := e2; obtain ⟨g2, rfl, hg2, -⟩ := hf2 hN0; have B2 := Lib.hid (below_on' B1.out hB); have C2k := hO.num HLen.out hkN; have C2m := hO.num HLen.out hmN; rw [← HY.out.1] at C2k; rw [← HY.out.2] at C2m;  clear hr hB hO hf2 hg2 hc2 hm2))
    go_ret
    exact ⟨rfl, B2.out⟩
  · have t1 : ((k : Int) == (m : Int)) = false := by rw [beq_eq_false_iff_ne]; omega
    by_cases hua : u = a
    · have t2 : (u == a) = true := by rw [beq_iff_eq]; exact hua
      clear hkm hst hua
      go_enter Try.func5, Try.ntmps5
      go_wp2_with (first
        | (go_at_call 10; refine HV.out.mono ?_; rintro e w1 ⟨rfl, hb1⟩; have B1 := Lib.hid hb1; clear hb1 HV)
        | (go_at_call 13; refine (HP.out _ B1.out).mono ?_; rintro e w2 hr; obtain ⟨x2, c2, rfl, hO, hc2, hm2, hB⟩ := hr.open HLen.out; obtain ⟨x2', c2', e2, -, -, -, hf2⟩ := hO.form; rw [HLen.out] at e2 hf2; simp only [Value.slice.injEq] at e2; obtain ⟨rfl, -, rfl⟩ := e2; obtain ⟨g2, rfl, hg2, -⟩ := hf2 hN0; have B2 := Lib.hid (below_on' B1.out hB); have C2k := hO.num HLen.out hkN; have C2m := hO.num HLen.out hmN; rw [← HY.out.1] at C2k; rw [← HY.out.2] at C2m;  clear hr hB hO hf2 hg2 hc2 hm2))
      go_ret
      exact ⟨rfl, B2.out⟩
    · have t2 : (u == a) = false := by rw [beq_eq_false_iff_ne]; exact hua
      have t3 : (v == b) = true := by rw [beq_iff_eq]; rcases hst with h | h | h; exact absurd h hkm; exact absurd h hua; exact h
      clear hkm hst hua
      go_enter Try.func5, Try.ntmps5
      go_wp2_with (first
        | (go_at_call 10; refine HV.out.mono ?_; rintro e w1 ⟨rfl, hb1⟩; have B1 := Lib.hid hb1; clear hb1 HV)
        | (go_at_call 13; refine (HP.out _ B1.out).mono ?_; rintro e w2 hr; obtain ⟨x2, c2, rfl, hO, hc2, hm2, hB⟩ := hr.open HLen.out; obtain ⟨x2', c2', e2, -, -, -, hf2⟩ := hO.form; rw [HLen.out] at e2 hf2; simp only [Value.slice.injEq] at e2; obtain ⟨rfl, -, rfl⟩ := e2; obtain ⟨g2, rfl, hg2, -⟩ := hf2 hN0; have B2 := Lib.hid (below_on' B1.out hB); have C2k := hO.num HLen.out hkN; have C2m := hO.num HLen.out hmN; rw [← HY.out.1] at C2k; rw [← HY.out.2] at C2m;  clear hr hB hO hf2 hg2 hc2 hm2))
      go_ret
      exact ⟨rfl, B2.out⟩

set_option maxRecDepth 100000 in
set_option maxHeartbeats 16000000 in
theorem two_main (p : Int) (x : Option Addr) (n cap : Nat) (xs : List Int) (I J : Nat) (a b : Int) (w : World) (hx : Reads .u64 w w.heap.size x xs) (hn : xs.length = n) (hw : Words xs) (h2 : 2 ≤ n) (h40 : n ≤ 40) (he : Cd.kpE p xs = 0)
    (hI : I < 65536) (hJ : J < 65536) (a0 : 0 ≤ a) (a1 : a < 18446744073709551616) (b0 : 0 ≤ b) (b1 : b < 18446744073709551616) (hkm : ¬ I % n = J % n) (hua : ¬ (Cd.cw p xs).getD (I % n) 0 = a) (hvb : ¬ (Cd.cw p xs).getD (J % n) 0 = b) :
    Calls Try.prog 5 #[.int .u64 p, .slice x n cap, .int .u16 (I : Int), .int .u16 (J : Int), .int .u64 a, .int .u64 b] w fun e w' => e = .returned (.bool true) ∧ Below w.heap.size w w' := by
  obtain ⟨hk, -, -, -⟩ := Cd.kpE_zero.1 he
  have HV := Lib.hid (live14_any w)
  have d1 : decide ((40 : Int) < (n : Int)) = false := by simp; omega
  have d2 : decide ((n : Int) < 2) = false := by simp; omega
  have hL : Cd.kpL p xs = Cd.cw p xs := by unfold Cd.kpL; rw [if_pos he]
  have HP := Lib.hid (fun W (hW : Below w.heap.size w W) => kput_any p x n cap xs W (hx.later hW) hn hw)
  rw [hL, he] at HP
  have hlen := Cd.cw_len p xs
  have hcw := cw_words hk hw
  obtain ⟨N, hN⟩ : ∃ N, N = n + 6 := ⟨_, rfl⟩
  have hz : (n : Int) + 6 = (N : Int) := by omega
  have hNb : N ≤ 46 := by omega
  have hN0 : 0 < N := by omega
  have hnz : (n : Int) ≠ 0 := by omega
  rw [hn, ← hN] at hlen
  obtain ⟨k, hkd⟩ : ∃ k : Nat, k = I % n := ⟨_, rfl⟩
  obtain ⟨m, hmd⟩ : ∃ m : Nat, m = J % n := ⟨_, rfl⟩
  have hkn : k < n := by rw [hkd]; exact Nat.mod_lt _ (by omega)
  have hmn : m < n := by rw [hmd]; exact Nat.mod_lt _ (by omega)
  have hka : (I : Int) % (n : Int) = (k : Int) := by rw [hkd, ← cast_mod]
  have hmb : (J : Int) % (n : Int) = (m : Int) := by rw [hmd, ← cast_mod]
  have hkN : k < N := by omega
  have hmN : m < N := by omega
  obtain ⟨u, hu⟩ : ∃ u, u = (Cd.cw p xs).getD k 0 := ⟨_, rfl⟩
  obtain ⟨v, hv⟩ : ∃ v, v = (Cd.cw p xs).getD m 0 := ⟨_, rfl⟩
  rw [← hkd, ← hmd] at hkm
  rw [← hkd, ← hu] at hua
  rw [← hmd, ← hv] at hvb
  have hxm : (Cd.cw p xs).getD m 0 = xs.getD m 0 := app_left (by omega)
  have hlk := Cd.look_two (a := a) he hw (k := k) (m := m) (by omega) (by omega) hkm b0 (by rw [← hxm, ← hv]; exact fun e => hvb e.symm)
  have hln : Cd.lnE p N = 0 := by have := Cd.cw_lnE he; rw [hlen] at this; exact this
  have hw2 : Words (((Cd.cw p xs).set k a).set m b) := Words.put (Words.put hcw k a0 a1) m b0 b1
  have hl2 : (((Cd.cw p xs).set k a).set m b).length = N := by rw [List.length_set, List.length_set]; exact hlen
  have HF := Lib.hid (fun W x c (hr : Reads .u64 W W.heap.size x (((Cd.cw p xs).set k a).set m b)) hc hm => kfix_any p x N c (((Cd.cw p xs).set k a).set m b) W hr hl2 hc hm hw2)
  have HLk := Lib.hid (fun W x c (hr : Reads .u64 W W.heap.size x (((Cd.cw p xs).set k a).set m b)) hc hm => klook_any p x N c (((Cd.cw p xs).set k a).set m b) W hr hl2 hc hm hw2)
  rw [hlk, hln] at HLk
  have hfx := Cd.lk_fix (p := p) (c := ((Cd.cw p xs).set k a).set m b)
  rw [hlk] at hfx
  have hcs := Cd.fiE_cases (p := p) (c := ((Cd.cw p xs).set k a).set m b) (by rw [hl2]; exact hln)
  have HLen := Lib.hid hlen
  have HLenS : Hid (((Cd.cw p xs).set k a).length = N) := Lib.hid (by rw [List.length_set]; exact hlen)
  have HY := Lib.hid (And.intro hu hv)
  generalize Cd.fiE p (((Cd.cw p xs).set k a).set m b) = fe at HF hfx hcs
  generalize Cd.fiF p (((Cd.cw p xs).set k a).set m b) = ff at HF hfx
  generalize Cd.fiL p (((Cd.cw p xs).set k a).set m b) = fl at HF
  generalize Cd.cw p xs = cs at HP HLen HLenS HY HF HLk
  have t1 : ((k : Int) == (m : Int)) = false := by rw [beq_eq_false_iff_ne]; omega
  have t2 : (u == a) = false := by rw [beq_eq_false_iff_ne]; exact hua
  have t3 : (v == b) = false := by rw [beq_eq_false_iff_ne]; exact hvb
  rcases hcs with rfl | rfl
  · have t4 : decide (0 < ff.length) = true := by
      have : ff ≠ [] := fun e => by have := hfx.2 ⟨rfl, e⟩; cases this
      have := List.length_pos_iff.2 this
      simp; omega
    clear hx hn hw he hL hlen hcw hN hkd hmd hu hv hk hkm hua hvb hxm hlk hln hw2 hl2 hfx a0 a1 b0 b1
    go_enter Try.func5, Try.ntmps5
    go_wp2_with (first
      | (go_at_call 10; refine HV.out.mono ?_; rintro e w1 ⟨rfl, hb1⟩; have B1 := Lib.hid hb1; clear hb1 HV)
      | (go_at_call 13; refine (HP.out _ B1.out).mono ?_; rintro e w2 hr; obtain ⟨x2, c2, rfl, hO, hc2, hm2, hB⟩ := hr.open HLen.out; obtain ⟨x2', c2', e2, -, -, -, hf2⟩ := hO.form; rw [HLen.out] at e2 hf2; simp only [Value.slice.injEq] at e2; obtain ⟨rfl, -, rfl⟩ := e2; obtain ⟨g2, rfl, hg2, -⟩ := hf2 hN0; have B2 := Lib.hid (below_on' B1.out hB); have C2k := hO.num HLen.out hkN; have C2m := hO.num HLen.out hmN; rw [← HY.out.1] at C2k; rw [← HY.out.2] at C2m; have hkm' : (w2.setCell ⟨g2, k, none⟩ (.int .u64 a)).cell? ⟨g2, m, none⟩ = _ := (hO.put HLen.out k a).num (HLenS.out) hmN; have z1 := hO.melt HLen.out k; have z2 := (hO.put HLen.out k a).melt HLenS.out m; have z3 := hO.melt HLen.out m; have O4 := Lib.hid ((hO.put HLen.out k a).put HLenS.out m b); have B4 := Lib.hid (below_on' B1.out ((hB.setCell (p := ⟨g2, k, none⟩) hg2 (.int .u64 a)).setCell (p := ⟨g2, m, none⟩) hg2 (.int .u64 b))); have Q2 := Lib.hid (And.intro hc2 hm2); clear hr hB hO hf2 hg2 hc2 hm2)
      | (go_at_call 15; refine (HLk.out _ _ _ O4.out.rd Q2.out.1 Q2.out.2).mono ?_; rintro e w5 ⟨rfl, hB⟩; have B5 := Lib.hid (below_on' B4.out hB); have R5 := Lib.hid (O4.out.rd.later hB); clear hB)
      | (go_at_call 17; refine (HF.out _ _ _ R5.out Q2.out.1 Q2.out.2).mono ?_; rintro e w6 hr; obtain ⟨x6, c6, y6, d6, rfl, -, -, -, -, hB⟩ := hr.open rfl rfl; have B6 := Lib.hid (below_on' B5.out hB); clear hr hB))
    go_ret
    exact ⟨rfl, B6.out⟩
  · clear hx hn hw he hL hlen hcw hN hkd hmd hu hv hk hkm hua hvb hxm hlk hln hw2 hl2 hfx a0 a1 b0 b1
    go_enter Try.func5, Try.ntmps5
    go_wp2_with (first
      | (go_at_call 10; refine HV.out.mono ?_; rintro e w1 ⟨rfl, hb1⟩; have B1 := Lib.hid hb1; clear hb1 HV)
      | (go_at_call 13; refine (HP.out _ B1.out).mono ?_; rintro e w2 hr; obtain ⟨x2, c2, rfl, hO, hc2, hm2, hB⟩ := hr.open HLen.out; obtain ⟨x2', c2', e2, -, -, -, hf2⟩ := hO.form; rw [HLen.out] at e2 hf2; simp only [Value.slice.injEq] at e2; obtain ⟨rfl, -, rfl⟩ := e2; obtain ⟨g2, rfl, hg2, -⟩ := hf2 hN0; have B2 := Lib.hid (below_on' B1.out hB); have C2k := hO.num HLen.out hkN; have C2m := hO.num HLen.out hmN; rw [← HY.out.1] at C2k; rw [← HY.out.2] at C2m; have hkm' : (w2.setCell ⟨g2, k, none⟩ (.int .u64 a)).cell? ⟨g2, m, none⟩ = _ := (hO.put HLen.out k a).num (HLenS.out) hmN; have z1 := hO.melt HLen.out k; have z2 := (hO.put HLen.out k a).melt HLenS.out m; have z3 := hO.melt HLen.out m; have O4 := Lib.hid ((hO.put HLen.out k a).put HLenS.out m b); have B4 := Lib.hid (below_on' B1.out ((hB.setCell (p := ⟨g2, k, none⟩) hg2 (.int .u64 a)).setCell (p := ⟨g2, m, none⟩) hg2 (.int .u64 b))); have Q2 := Lib.hid (And.intro hc2 hm2); clear hr hB hO hf2 hg2 hc2 hm2)
      | (go_at_call 15; refine (HLk.out _ _ _ O4.out.rd Q2.out.1 Q2.out.2).mono ?_; rintro e w5 ⟨rfl, hB⟩; have B5 := Lib.hid (below_on' B4.out hB); have R5 := Lib.hid (O4.out.rd.later hB); clear hB)
      | (go_at_call 17; refine (HF.out _ _ _ R5.out Q2.out.1 Q2.out.2).mono ?_; rintro e w6 hr; obtain ⟨x6, c6, y6, d6, rfl, -, -, -, -, hB⟩ := hr.open rfl rfl; have B6 := Lib.hid (below_on' B5.out hB); clear hr hB))
    go_ret
    exact ⟨rfl, B6.out⟩

set_option maxRecDepth 100000 in
theorem walk_CodeTwo (p : Int) (x : Option Addr) (n cap : Nat) (zs : List Int) (i j a b : Int) (w : World) (_hp : (Lit.int .u64 p).wf = true) (r : RowIn .u64 w x n cap zs) (hi : (Lit.int .u16 i).wf = true) (hj : (Lit.int .u16 j).wf = true) (ha : (Lit.int .u64 a).wf = true) (hb : (Lit.int .u64 b).wf = true) :
    Calls Try.prog 5 #[.int .u64 p, .slice x n cap, .int .u16 i, .int .u16 j, .int .u64 a, .int .u64 b] w fun e w' => e = .returned (.bool true) ∧ Below w.heap.size w w' := by
  obtain ⟨xs, -, hn, hc, hcm, hx, hw⟩ := r.reads
  have hab := bounds_u64 ha
  have hbb := bounds_u64 hb
  have hib := bounds_u16 hi
  have hjb := bounds_u16 hj
  have HV := Lib.hid (live14_any w)
  by_cases h : n ≤ 40
  · by_cases h2 : 2 ≤ n
    · by_cases he : Cd.kpE p xs = 0
      · obtain ⟨I, rfl⟩ := Int.eq_ofNat_of_zero_le (show 0 ≤ i by omega)
        obtain ⟨J, rfl⟩ := Int.eq_ofNat_of_zero_le (show 0 ≤ j by omega)
        by_cases hst : I % n = J % n ∨ (Cd.cw p xs).getD (I % n) 0 = a ∨ (Cd.cw p xs).getD (J % n) 0 = b
        · exact two_still p x n cap xs I J a b w hx hn hw h2 h he (by omega) (by omega) hst
        · exact two_main p x n cap xs I J a b w hx hn hw h2 h he (by omega) (by omega) (by omega) (by omega) (by omega) (by omega) (fun e => hst (.inl e)) (fun e => hst (.inr (.inl e))) (fun e => hst (.inr (.inr e)))
      · exact two_err p x n cap xs i j a b w hx hn hw h2 h he
    · have d1 : decide ((40 : Int) < (n : Int)) = false := by simp; omega
      have d2 : decide ((n : Int) < 2) = true := by simp; omega
      clear r hx hn hw hc hcm hi hj ha hb hab hbb hib hjb
      go_enter Try.func5, Try.ntmps5
      go_wp2_with (go_at_call 10; refine HV.out.mono ?_; rintro e w1 ⟨rfl, hb1⟩)
      go_ret
      exact ⟨rfl, hb1⟩
  · have d1 : decide ((40 : Int) < (n : Int)) = true := by simp; omega
    clear r hx hn hw hc hcm hi hj ha hb hab hbb hib hjb
    go_enter Try.func5, Try.ntmps5
    go_wp2_with (go_at_call 10; refine HV.out.mono ?_; rintro e w1 ⟨rfl, hb1⟩)
    go_ret
    exact ⟨rfl, hb1⟩

end Go.Proofs.Ytpdiilfpbkmebaa
