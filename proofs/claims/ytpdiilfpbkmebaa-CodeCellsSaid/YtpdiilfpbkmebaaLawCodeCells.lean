/-
  The walk of CodeCells: of each sum one cell may be whatever it may, and all words as they are: the codeword is told.
-/
import Derived.Test.YtpdiilfpbkmebaaLawCodeOne
namespace Go.Proofs.Ytpdiilfpbkmebaa
open Go.RowKit

set_option maxRecDepth 100000 in
set_option maxHeartbeats 4000000 in
theorem cells14_err (p : Int) (x : Option Addr) (n cap : Nat) (xs : List Int) (i j a b : Int) (w : World) (hx : Reads .u64 w w.heap.size x xs) (hn : xs.length = n) (hw : Words xs) (h40 : n ≤ 40) (he : Cd.kpE p xs ≠ 0) :
    Calls Try.prog 9 #[.int .u64 p, .slice x n cap, .int .u8 i, .int .u8 j, .int .u64 a, .int .u64 b] w fun e w' => e = .returned (.bool true) ∧ Below w.heap.size w w' := by
  have HV := Lib.hid (live14_any w)
  have d1 : decide ((40 : Int) < (n : Int)) = false := by simp; omega
  have hL : Cd.kpL p xs = [] := by unfold Cd.kpL; rw [if_neg he]
  have HP := Lib.hid (fun W (hW : Below w.heap.size w W) => kput_any p x n cap xs W (hx.later hW) hn hw)
  rw [hL] at HP
  have hne : (Cd.kpE p xs != 0) = true := by rw [bne_iff_ne]; exact he
  generalize Cd.kpE p xs = er at HP hne
  clear hx hn hw he hL
  go_enter Try.func9, Try.ntmps9
  go_wp2_with (first
    | (go_at_call 10; refine HV.out.mono ?_; rintro e w1 ⟨rfl, hb1⟩; have B1 := Lib.hid hb1; clear hb1 HV)
    | (go_at_call 13; refine (HP.out _ B1.out).mono ?_; rintro e w2 hr; obtain ⟨x2, c2, rfl, -, -, -, hB⟩ := hr.open (n := 0) rfl; have B2 := Lib.hid (below_on' B1.out hB); clear hr hB))
  go_ret
  exact ⟨rfl, B2.out⟩

set_option maxRecDepth 100000 in
set_option maxHeartbeats 16000000 in
theorem cells14_ok (p : Int) (x : Option Addr) (n cap : Nat) (xs : List Int) (I J : Nat) (a b : Int) (w : World) (hx : Reads .u64 w w.heap.size x xs) (hn : xs.length = n) (hw : Words xs) (h40 : n ≤ 40) (he : Cd.kpE p xs = 0)
    (hI : I < 256) (hJ : J < 256) (a0 : 0 ≤ a) (a1 : a < 18446744073709551616) (b0 : 0 ≤ b) (b1 : b < 18446744073709551616) :
    Calls Try.prog 9 #[.int .u64 p, .slice x n cap, .int .u8 (I : Int), .int .u8 (J : Int), .int .u64 a, .int .u64 b] w fun e w' => e = .returned (.bool true) ∧ Below w.heap.size w w' := by
  obtain ⟨hk, h1, -, -⟩ := Cd.kpE_zero.1 he
  have HV := Lib.hid (live14_any w)
  obtain ⟨i0, hi, hz0, hz1, hz2⟩ := info_parts info_u64
  have d1 : decide ((40 : Int) < (n : Int)) = false := by simp; omega
  have hL : Cd.kpL p xs = Cd.cw p xs := by unfold Cd.kpL; rw [if_pos he]
  have HP := Lib.hid (fun W (hW : Below w.heap.size w W) => kput_any p x n cap xs W (hx.later hW) hn hw)
  rw [hL, he] at HP
  have hlen := Cd.cw_len p xs
  have hcw := cw_words hk hw
  obtain ⟨N, hN⟩ : ∃ N, N = n + 6 := ⟨_, rfl⟩
  have hz : (n : Int) + 6 = (N : Int) := by omega
  have hNb : N ≤ 46 := by omega
  have hN0 : 0 < N := by omega
  rw [hn, ← hN] at hlen
  obtain ⟨r, hr⟩ : ∃ r : Nat, r = I % 3 := ⟨_, rfl⟩
  obtain ⟨s, hs⟩ : ∃ s : Nat, s = J % 3 := ⟨_, rfl⟩
  have hra : (I : Int) % 3 = (r : Int) := by omega
  have hsb : (J : Int) % 3 = (s : Int) := by omega
  have hr3 : r < 3 := by omega
  have hs3 : s < 3 := by omega
  obtain ⟨k, hkd⟩ : ∃ k : Nat, k = n + r := ⟨_, rfl⟩
  obtain ⟨m, hmd⟩ : ∃ m : Nat, m = n + 3 + s := ⟨_, rfl⟩
  obtain ⟨n3, hn3⟩ : ∃ n3 : Nat, n3 = n + 3 := ⟨_, rfl⟩
  have hz3 : (n : Int) + 3 = (n3 : Int) := by omega
  have hzk : (n : Int) + (r : Int) = (k : Int) := by omega
  have hzm : (n3 : Int) + (s : Int) = (m : Int) := by omega
  have hkN : k < N := by omega
  have hmN : m < N := by omega
  have hn3b : n3 ≤ 43 := by omega
  obtain ⟨f1, f2, f3⟩ := Cd.fix_cells he hr3 hs3 a b
  rw [hn, ← hkd, ← hmd] at f1 f2 f3
  have hw2 : Words (((Cd.cw p xs).set k a).set m b) := Words.put (Words.put hcw k a0 a1) m b0 b1
  have hl2 : (((Cd.cw p xs).set k a).set m b).length = N := by rw [List.length_set, List.length_set]; exact hlen
  have HF := Lib.hid (fun W x c (hr : Reads .u64 W W.heap.size x (((Cd.cw p xs).set k a).set m b)) hc hm => kfix_any p x N c (((Cd.cw p xs).set k a).set m b) W hr hl2 hc hm hw2)
  rw [f1, f2, f3, hlen] at HF
  have HS := Lib.hid (fun W x y c c' (h1 : Reads .u64 W W.heap.size x (Cd.cw p xs)) (h2 : Reads .u64 W W.heap.size y (Cd.cw p xs)) => sameW_any x y N N c c' (Cd.cw p xs) (Cd.cw p xs) W W.heap.size h1 h2 hlen hlen (by omega) (by omega))
  rw [decide_eq_true rfl] at HS
  have HLen := Lib.hid hlen
  have HLenS : Hid (((Cd.cw p xs).set k a).length = N) := Lib.hid (by rw [List.length_set]; exact hlen)
  have HL2 := Lib.hid hl2
  generalize Cd.cw p xs = cs at HP HF HS HLen HLenS HL2
  have HDL : Hid (∀ t, (Cd.dif ((cs.set k a).set m b) cs t).length ≤ t) := Lib.hid (fun _ => Cd.dif_len _ _ _)
  clear hx hn hw he hL hlen hcw hN hr hs hr3 hs3 hkd hmd hn3 f1 f2 f3 hw2 hl2 a0 a1 b0 b1 hk
  go_enter Try.func9, Try.ntmps9
  go_wp2_with (first
    | (go_at_call 10; refine HV.out.mono ?_; rintro e w1 ⟨rfl, hb1⟩; have B1 := Lib.hid hb1; clear hb1 HV)
    | (go_at_call 13; refine (HP.out _ B1.out).mono ?_; rintro e w2 hr; obtain ⟨x2, c2, rfl, hO, -, -, hB⟩ := hr.open HLen.out; obtain ⟨x2', c2', e2, -, -, hr2, hf2⟩ := hO.form; rw [HLen.out] at e2 hf2; simp only [Value.slice.injEq] at e2; obtain ⟨rfl, -, rfl⟩ := e2; obtain ⟨g2, rfl, -, hg2⟩ := hf2 hN0; have B2 := Lib.hid (below_on' B1.out hB); have S2 := Lib.hid (hO.source HLen.out); have R2 := Lib.hid hr2; have G2 := Lib.hid hg2; have C2 := Lib.hid (fun j (hj : j < N) => hO.num HLen.out hj); clear hr hB hO hr2 hf2 hg2)
    | (at_builtin; refine wpList_copy_new rfl _ _ 23 rfl 22 i0 .u64 8 Try.underlying23 hi hz0 hz1 hz2 _ N c2 cs rfl rfl S2.out (by unfold maxLen; omega) (by omega) ?_; intro v3 w3 hO hB; obtain ⟨x3, c3, rfl, hc3, hm3, -, hf3⟩ := hO.form; rw [HLen.out] at hO hc3 hf3 ⊢; obtain ⟨g3, rfl, hg3, -⟩ := hf3 hN0; have ho3 := hO.num HLen.out hkN; have z1 := hO.melt HLen.out k; have z3 := hO.melt HLen.out m; have z2 := (hO.put HLen.out k a).melt HLenS.out m; have ho4 := (hO.put HLen.out k a).num HLenS.out hmN; have O4 := Lib.hid ((hO.put HLen.out k a).put HLenS.out m b); have B4 := Lib.hid ((hB.setCell (p := ⟨g3, k, none⟩) hg3 (.int .u64 a)).setCell (p := ⟨g3, m, none⟩) hg3 (.int .u64 b)); have Q3 := Lib.hid (And.intro hc3 hm3); clear hO hB hf3 hc3 hm3 hg3)
    | (go_at_call 17; refine (HF.out _ _ _ O4.out.rd Q3.out.1 Q3.out.2).mono ?_; rintro e w5 hr; obtain ⟨x5, c5, y5, d5, rfl, hO, -, -, -, hB⟩ := hr.open HLen.out rfl; have R5 := Lib.hid hO.rd; have B5 := Lib.hid hB; have B25 := Lib.hid (below_on' B4.out hB); clear hr hO hB))
  have HCc := Lib.hid (fun j (hj : j < N) => (B25.out.cell (p := ⟨g2, j, none⟩) G2.out).trans (C2.out j hj))
  have HCs := Lib.hid (fun j (hj : j < N) => (B5.out.cell (p := ⟨g3, j, none⟩) (O4.out.inside rfl).2).trans (O4.out.num HL2.out hj))
  clear HF HP O4 B4 B5 C2 S2 ho3 ho4 z1 z2 z3 G2
  generalize (cs.set k a).set m b = st at HCs HDL HL2
  go_loopw [19, 73] (fun c i wr => ∃ (t q : Nat) (o : Int), t ≤ N ∧ i = .int .i64 (t : Int) ∧ c = .int .i64 o ∧ Hid (o = ((Cd.dif st cs t).length : Int)) ∧ wr = w5.drewN q) (fun _ i _ => N - (intOf i).toNat)
  case atStart => exact ⟨0, 0, 0, Nat.zero_le _, rfl, rfl, Lib.hid rfl, rfl⟩
  case round =>
    obtain ⟨t, q, o, ht, rfl, rfl, HO, rfl⟩ := hrel
    by_cases hlt : t < N
    · have hdk : decide (t < N) = true := by simpa using hlt
      have k1 := HCc.out t hlt
      have k2 := HCs.out t hlt
      have ho : 0 ≤ o ∧ o ≤ (t : Int) := by have := HDL.out t; have := HO.out; omega
      obtain ⟨ho0, ho1⟩ := ho
      have HD := Lib.hid (Cd.dif_succ st cs t)
      obtain ⟨y, hy⟩ : ∃ y, y = cs.getD t 0 := ⟨_, rfl⟩
      obtain ⟨z, hz⟩ : ∃ z, z = st.getD t 0 := ⟨_, rfl⟩
      rw [← hy] at k1 HD
      rw [← hz] at k2 HD
      clear hy hz
      by_cases hyz : z = y
      · have t1 : (y != z) = false := by rw [hyz]; simp
        rw [if_pos hyz] at HD
        clear hyz
        go_wp2
        go_quiet (fail)
        go_wp2
        go_roundw
        case rel => exact ⟨t + 1, _, o, by omega, by go_num, rfl, Lib.hid (by rw [HD.out]; exact HO.out), rfl⟩
        case measure => simp [intOf]; omega
      · have t1 : (y != z) = true := by rw [bne_iff_ne]; exact fun e => hyz e.symm
        rw [if_neg hyz] at HD
        clear hyz
        go_wp2
        go_quiet (fail)
        go_wp2
        go_roundw
        case rel => exact ⟨t + 1, _, o + 1, by omega, by go_num, by go_num, Lib.hid (by rw [HD.out, List.length_append]; have := HO.out; simp; omega), rfl⟩
        case measure => simp [intOf]; omega
    · obtain rfl : t = N := by omega
      have hdk : decide (t < t) = false := by simp
      have t1 : (((Cd.dif st cs t).length : Int) == o) = true := by rw [beq_iff_eq]; exact HO.out.symm
      generalize (Cd.dif st cs t) = fs at t1
      go_wp2_with (go_at_call 19; refine (HS.out _ _ _ _ _ (R5.out.draws q) ((R2.out.later B25.out).draws q)).mono ?_; rintro e w7 ⟨rfl, nq, rfl⟩)
      go_ret
      exact ⟨rfl, below_draws (below_on' B2.out B25.out) _⟩

set_option maxRecDepth 100000 in
theorem walk_CodeCells (p : Int) (x : Option Addr) (n cap : Nat) (zs : List Int) (i j a b : Int) (w : World) (_hp : (Lit.int .u64 p).wf = true) (r : RowIn .u64 w x n cap zs) (hi : (Lit.int .u8 i).wf = true) (hj : (Lit.int .u8 j).wf = true) (ha : (Lit.int .u64 a).wf = true) (hb : (Lit.int .u64 b).wf = true) :
    Calls Try.prog 9 #[.int .u64 p, .slice x n cap, .int .u8 i, .int .u8 j, .int .u64 a, .int .u64 b] w fun e w' => e = .returned (.bool true) ∧ Below w.heap.size w w' := by
  obtain ⟨xs, -, hn, hc, hcm, hx, hw⟩ := r.reads
  have hab := bounds_u64 ha
  have hbb := bounds_u64 hb
  have hib := bounds_u8 hi
  have hjb := bounds_u8 hj
  have HV := Lib.hid (live14_any w)
  by_cases h : n ≤ 40
  · by_cases he : Cd.kpE p xs = 0
    · obtain ⟨I, rfl⟩ := Int.eq_ofNat_of_zero_le (show 0 ≤ i by omega)
      obtain ⟨J, rfl⟩ := Int.eq_ofNat_of_zero_le (show 0 ≤ j by omega)
      exact cells14_ok p x n cap xs I J a b w hx hn hw h he (by omega) (by omega) (by omega) (by omega) (by omega) (by omega)
    · exact cells14_err p x n cap xs i j a b w hx hn hw h he
  · have d1 : decide ((40 : Int) < (n : Int)) = true := by simp; omega
    clear r hx hn hw hc hcm hi hj ha hb hab hbb hib hjb
    go_enter Try.func9, Try.ntmps9
    go_wp2_with (go_at_call 10; refine HV.out.mono ?_; rintro e w1 ⟨rfl, hb1⟩)
    go_ret
    exact ⟨rfl, hb1⟩

end Go.Proofs.Ytpdiilfpbkmebaa
