/-
  The walk of VoteAgain: with its fixes made no more is to be fixed, and the same words are told.
-/
import Derived.Test.YtnonoemhefjliaaVoteOpen
import Derived.Test.YtnonoemhefjliaaOwnTwo
namespace Go.Proofs.Ytnonoemhefjliaa
open Go.RowKit

/-- The place of the fix ahead of number k. -/
def lastAd (X : List Fx) (k : Nat) : Int := if k = 0 then -1 else (X.getD (k - 1) noFx).ad
theorem lastAd_next (X : List Fx) (k : Nat) : lastAd X (k + 1) = (X.getD k noFx).ad := by unfold lastAd; rw [if_neg (by omega), Nat.add_sub_cancel]

theorem fix_take (X : List Fx) (k : Nat) (h : k < X.length) : X.take (k + 1) = X.take k ++ [X.getD k noFx] := by
  rw [List.take_add_one, List.getElem?_eq_getElem h, List.getD_eq_getElem?_getD, List.getElem?_eq_getElem h]; rfl

/-- What the fix number k is, when those ahead of it are made. -/
theorem fix_here {L : List Int} {m k : Nat} (hl : L.length = 3 * m) (hk : k < (fxs L m).length) :
    ∃ (a : Nat) (b g : Int), (fxs L m).getD k noFx = ⟨(a : Int), b, g⟩ ∧ a < 3 * m ∧ lastAd (fxs L m) k < (a : Int) ∧ -1 ≤ lastAd (fxs L m) k ∧ (mend L ((fxs L m).take k)).getD a 0 = b ∧ b ≠ g := by
  have hmem : (fxs L m).getD k noFx ∈ fxs L m := by rw [List.getD_eq_getElem?_getD, List.getElem?_eq_getElem hk]; exact List.getElem_mem _
  obtain ⟨q, p, hq, hp, hpl, hs⟩ := fxs_mem hmem
  have hpw := fxs_rise L m
  rw [List.pairwise_iff_getElem] at hpw
  have hrise : ∀ j, j < k → ((fxs L m).getD j noFx).ad < ((fxs L m).getD k noFx).ad := fun j hj => by
    have := hpw j k (by omega) hk hj
    rw [List.getD_eq_getElem?_getD, List.getD_eq_getElem?_getD, List.getElem?_eq_getElem (show j < (fxs L m).length by omega), List.getElem?_eq_getElem hk]
    exact this
  refine ⟨3 * q + p, L.getD (3 * q + p) 0, wd L q, hs, by omega, ?_, ?_, ?_, pl_other hpl⟩
  · unfold lastAd
    split
    · omega
    · have := hrise (k - 1) (by omega)
      rw [hs] at this
      exact this
  · unfold lastAd
    split
    · omega
    · have hm1 : (fxs L m).getD (k - 1) noFx ∈ fxs L m := by rw [List.getD_eq_getElem?_getD, List.getElem?_eq_getElem (show k - 1 < (fxs L m).length by omega)]; exact List.getElem_mem _
      have := (fxs_bd hm1).1
      omega
  · refine mend_far _ _ _ (fun s hs' => ?_)
    have hin := List.mem_of_mem_take hs'
    have hb := fxs_bd hin
    refine ⟨hb.1, by omega, ?_⟩
    obtain ⟨j, hj, e⟩ := List.mem_iff_getElem.1 hs'
    rw [List.length_take] at hj
    have h1 := hrise j (by omega)
    rw [List.getElem_take] at e
    rw [List.getD_eq_getElem?_getD, List.getElem?_eq_getElem (show j < (fxs L m).length by omega)] at h1
    simp only [Option.getD_some] at h1
    rw [e, hs] at h1
    dsimp only at h1
    omega

set_option maxRecDepth 100000 in
set_option maxHeartbeats 4000000 in
theorem again_no (x1 : Option Addr) (n cap : Nat) (L : List Int) (w : World) (hx : Reads .u64 w w.heap.size x1 L) (hn : L.length = n) (hc : n ≤ cap) (hm : cap ≤ maxLen) (hl : n ≤ 90) (hE : clE L ≠ 0) :
    Calls Try.prog 7 #[.slice x1 n cap] w fun e w' => e = .returned (.bool true) ∧ Below w.heap.size w w' := by
  have HV := Lib.hid (live13_any w)
  have d1 : decide ((90 : Int) < (n : Int)) = false := by simp; omega
  have P1 := Lib.hid (fun W (hB : Below w.heap.size w W) => cells_any x1 n cap L W (hx.later hB) hn hc hm)
  rw [clW_no hE, clF_no hE] at P1
  obtain ⟨r3, hr3⟩ : ∃ r3 : Nat, (n : Int) % 3 = (r3 : Int) := ⟨n % 3, by omega⟩
  have hE2 : (clE L = 6 ∧ ((r3 : Int) != 0) = true) ∨ (clE L = 10 ∧ ((r3 : Int) != 0) = false) := by
    by_cases h3 : L.length % 3 = 0
    · refine .inr ⟨?_, by simp; omega⟩
      unfold clE at hE ⊢
      rw [if_neg (by omega), if_neg (by omega)] at hE ⊢
      split
      · rename_i c; rw [if_pos c] at hE; exact absurd rfl hE
      · rfl
    · exact .inl ⟨clE_cut (by omega) h3, by rw [bne_iff_ne]; omega⟩
  clear hx hn hm hE
  obtain ⟨h6, h7⟩ | ⟨h6, h7⟩ := hE2
  · rw [h6] at P1
    clear h6
    go_enter Try.func7, Try.ntmps7
    go_wp2_with (first
      | (go_at_call 9; refine HV.out.mono ?_; rintro e w1 ⟨rfl, hb1⟩; have B1 := Lib.hid hb1; clear hb1 HV)
      | (go_at_call 14; refine (P1.out w1 B1.out).mono ?_; rintro e w2 hr; obtain ⟨xa, ca, ya, da, rfl, -, -, -, -, hB⟩ := hr.open rfl rfl; have B2 := Lib.hid (below_on' B1.out hB); clear hr hB P1 B1))
    go_ret
    exact ⟨rfl, B2.out⟩
  · rw [h6] at P1
    clear h6
    go_enter Try.func7, Try.ntmps7
    go_wp2_with (first
      | (go_at_call 9; refine HV.out.mono ?_; rintro e w1 ⟨rfl, hb1⟩; have B1 := Lib.hid hb1; clear hb1 HV)
      | (go_at_call 14; refine (P1.out w1 B1.out).mono ?_; rintro e w2 hr; obtain ⟨xa, ca, ya, da, rfl, -, -, -, -, hB⟩ := hr.open rfl rfl; have B2 := Lib.hid (below_on' B1.out hB); clear hr hB P1 B1))
    go_ret
    exact ⟨rfl, B2.out⟩

set_option maxRecDepth 100000 in
set_option maxHeartbeats 8000000 in
theorem again_ok (x1 : Option Addr) (n cap : Nat) (L : List Int) (w : World) (hx : Reads .u64 w w.heap.size x1 L) (hs : Src .u64 w x1 n cap L) (hc : n ≤ cap) (hm : cap ≤ maxLen) (hl : n ≤ 90) (hE : clE L = 0) :
    Calls Try.prog 7 #[.slice x1 n cap] w fun e w' => e = .returned (.bool true) ∧ Below w.heap.size w w' := by
  have HV := Lib.hid (live13_any w)
  have hn := hs.1
  have d1 : decide ((90 : Int) < (n : Int)) = false := by simp; omega
  obtain ⟨i0, hi, hz0, hz1, hz2⟩ := info_parts info_u64
  obtain ⟨-, h3, hall⟩ := clE_zero hE
  obtain ⟨m, hmm⟩ : ∃ m, n = 3 * m := ⟨n / 3, by omega⟩
  have hq : L.length / 3 = m := by omega
  have P1 := Lib.hid (fun W (hB : Below w.heap.size w W) => cells_any x1 n cap L W (hx.later hB) hn hc hm)
  rw [hE, clW_yes hE, clF_yes hE, hq] at P1
  obtain ⟨A, hA⟩ : ∃ A, A = wds L m := ⟨_, rfl⟩
  obtain ⟨X, hX⟩ : ∃ X, X = fxs L m := ⟨_, rfl⟩
  have hlA : A.length = m := by rw [hA, wds_len]
  obtain ⟨t0, tW, tF⟩ := cl_thrice (ws := A) (by omega)
  obtain ⟨T, hT⟩ : ∃ T, T = thrice A := ⟨_, rfl⟩
  have hlT : T.length = n := by rw [hT, thrice_len]; omega
  have HM : Hid (mend L X = T) := Lib.hid (by rw [hX, hT, hA]; exact mend_all (by omega) (fun k hk => hall k (by omega)))
  have HF : Hid (∀ k, k < X.length → ∃ (a : Nat) (b g : Int), X.getD k noFx = ⟨(a : Int), b, g⟩ ∧ a < n ∧ lastAd X k < (a : Int) ∧ -1 ≤ lastAd X k ∧ (mend L (X.take k)).getD a 0 = b ∧ b ≠ g) := Lib.hid (fun k hk => by rw [hX] at hk ⊢; rw [hmm]; exact fix_here (by omega) hk)
  have hXl : X.length ≤ 30 := by rw [hX]; have := fxs_len L m; omega
  rw [← hA, ← hX] at P1
  have P2 := Lib.hid (fun W x c (hR : Reads .u64 W W.heap.size x T) hc hm => cells_any x n c T W hR hlT hc hm)
  rw [hT, t0, tW, tF, ← hT] at P2
  have P3 := Lib.hid (fun W x c (hR : Reads .u64 W W.heap.size x A) => put_any x m c A W hR hlA)
  unfold ptL ptE at P3
  rw [if_neg (by omega), if_neg (by omega), ← hT] at P3
  have S1 := Lib.hid (fun W x y c c' (hx : Reads .u64 W W.heap.size x A) (hy : Reads .u64 W W.heap.size y A) => sameW_any x y m m c c' A A W W.heap.size hx hy hlA hlA (by omega) (by omega))
  have S2 := Lib.hid (fun W x y c c' (hx : Reads .u64 W W.heap.size x T) (hy : Reads .u64 W W.heap.size y T) => sameW_any x y n n c c' T T W W.heap.size hx hy hlT hlT (by omega) (by omega))
  rw [decide_eq_true rfl] at S1 S2
  have HSL := Lib.hid (fun W (hB : Below w.heap.size w W) => hs.keep hB)
  obtain ⟨nx, hnx⟩ : ∃ nx, X.length = nx := ⟨_, rfl⟩
  have HX := Lib.hid hnx
  have HA := Lib.hid hlA
  have HT := Lib.hid hlT
  have HN := Lib.hid hn
  have hnxb : nx ≤ 30 := by omega
  have hmb : m ≤ 30 := by omega
  clear hx hs hm hn hE h3 hall hmm hq hA hX hlA t0 tW tF hT hlT hnx hXl
  go_enter Try.func7, Try.ntmps7
  go_wp2_with (first
    | (go_at_call 9; refine HV.out.mono ?_; rintro e w1 ⟨rfl, hb1⟩; have B1 := Lib.hid hb1; clear hb1 HV)
    | (go_at_call 14; refine (P1.out w1 B1.out).mono ?_; rintro e w2 hr; obtain ⟨xa, ca, ya, da, rfl, hO, -, -, hR, hB⟩ := hr.open HA.out HX.out; have B2 := Lib.hid (below_on' B1.out hB); have OA := Lib.hid hO; have RX := Lib.hid hR; clear hr hB hO hR P1 B1)
    | (at_builtin; have _t := B2; refine wpList_append_nums (by rfl) (.const (.slice none 0 0)) (.tmp 43) 22 (by rfl) w2.heap.size 27 i0 .u64 8 Try.underlying22 hi hz0 hz1 hz2 (.slice none 0 0) [] (by rfl) Owns.nil x1 n cap L (by rfl) (HSL.out _ B2.out) (by unfold maxLen; simp; omega) (by simp; omega) (Nat.le_refl _) ?_; intro v4 w4 hO4 hg4; rw [List.nil_append] at hO4; have T4 := Lib.hid ((Below.refl w2.heap.size w2).grown hg4 (Nat.le_refl _) (fun g e => by cases e)); obtain ⟨xc, cc, rfl, hcc1, hcc2, -, -⟩ := hO4.form; have HQ := Lib.hid (And.intro hcc1 hcc2); rw [HN.out] at HQ hO4 ⊢; have O4 := Lib.hid hO4; clear hO4 hg4 HSL hcc1 hcc2))
  go_loopw [7, 47] (fun v i wr => ∃ (k : Nat) (la : Int), k ≤ nx ∧ i = .int .i64 (k : Int) ∧ v = .int .i64 la ∧ Hid (la = lastAd X k) ∧ Hid (Owns .u64 27 wr w2.heap.size (.slice xc n cc) (mend L (X.take k)) ∧ Below w2.heap.size w2 wr)) (fun _ i _ => nx - (intOf i).toNat)
  case atStart => exact ⟨0, _, Nat.zero_le _, rfl, rfl, Lib.hid rfl, Lib.hid ⟨O4.out, T4.out⟩⟩
  case round =>
    clear T4 O4
    obtain ⟨k, la, hk, rfl, rfl, HLa, HI⟩ := hrel
    by_cases hlt : k < nx
    · obtain ⟨a, b, g, hs, ha, h1, h2, h4, h5⟩ := HF.out k (by have := HX.out; omega)
      obtain ⟨bz, oz, rfl, -, hcz⟩ := (RX.out.since HI.out.2) (by have := HX.out; omega)
      have hcu := hcz k (by have := HX.out; omega)
      rw [hs] at hcu
      have hML : (mend L (X.take k)).length = n := by rw [mend_len, HN.out]
      obtain ⟨x', c', e', -, -, -, hf⟩ := HI.out.1.form
      simp only [Value.slice.injEq] at e'
      obtain ⟨rfl, -, rfl⟩ := e'
      obtain ⟨gc, rfl, hg1, hg2⟩ := hf (by omega)
      have hca := HI.out.1.num hML (j := a) ha
      have hfa := HI.out.1.melt hML a
      rw [h4] at hca
      have HMD : Hid (mend L (X.take (k + 1)) = (mend L (X.take k)).set a g) := Lib.hid (by rw [fix_take X k (by have := HX.out; omega), mend_snoc, hs, Int.toNat_natCast])
      have HLn : Hid ((a : Int) = lastAd X (k + 1)) := Lib.hid (by rw [lastAd_next, hs])
      rw [← HLa.out] at h1 h2
      have t1 : decide ((a : Int) ≤ la) = false := by simp; omega
      have t2 : decide (n ≤ a) = false := by simp; omega
      have t3' : (b == g) = false := by simpa using h5
      have hBx := below_al (Below.refl _ wr) (fxO ⟨(a : Int), b, g⟩)
      have HB6 := Lib.hid (below_al HI.out.2 (fxO ⟨(a : Int), b, g⟩))
      have HO6 := Lib.hid (HI.out.1.alloc (fxO ⟨(a : Int), b, g⟩))
      have hca6 := (hBx.cell (p := ⟨gc, a, none⟩) hg2).trans hca
      have hfa6 := (hBx.frozen (p := ⟨gc, a, none⟩) hg2).trans hfa
      have HG := Lib.hid hg1
      have HML := Lib.hid hML
      obtain ⟨q0, q1, q2⟩ := hcu
      unfold fxO at HB6 HO6 hca6 hfa6
      dsimp only at q0 q1 q2 HB6 HO6 hca6 hfa6
      have ha' : (a : Int) < (n : Int) := by omega
      clear hcz hs h4 h5 hf hML hBx hca hfa hg1 hg2 HI HLa h1
      go_wp2
      obtain ⟨W6, hW6⟩ : ∃ W6, W6 = wr.alloc (.cells #[.int .i64 (a : Int), .int .u64 b, .int .u64 g] 40) := ⟨_, rfl⟩
      have s0 : W6.cell? ⟨wr.heap.size, 0, none⟩ = some (.int .i64 (a : Int)) := by rw [hW6]; simp
      have s1 : W6.cell? ⟨wr.heap.size, 1, none⟩ = some (.int .u64 b) := by rw [hW6]; simp
      have s2 : W6.cell? ⟨wr.heap.size, 2, none⟩ = some (.int .u64 g) := by rw [hW6]; simp
      rw [← hW6] at HB6 HO6 hca6 hfa6 ⊢
      clear hW6 q0 q1 q2
      go_quiet (fail)
      go_wp2
      go_roundw
      case rel => exact ⟨k + 1, _, by omega, by go_num, rfl, HLn, Lib.hid ⟨by rw [HMD.out]; exact (HO6.out.draws nq).put HML.out a g, (below_draws HB6.out nq).setCell (p := ⟨gc, a, none⟩) HG.out _⟩⟩
      case measure => simp [intOf]; omega
    · have hke : X.take k = X := List.take_of_length_le (by have := HX.out; omega)
      have hO := HI.out.1
      rw [hke, HM.out] at hO
      have OC := Lib.hid hO
      have BW := Lib.hid HI.out.2
      have BR := Lib.hid (below_on' B2.out HI.out.2)
      clear hke hO HI HLa HF HM RX
      go_wp2_with (first
        | (go_at_call 14; refine (P2.out wr xc cc OC.out.rd HQ.out.1 HQ.out.2).mono ?_; rintro e w6 hr; obtain ⟨x6, c6, y6, d6, rfl, hO, -, -, -, hB⟩ := hr.open HA.out rfl; have T6 := Lib.hid hB; have O6 := Lib.hid hO; clear hr hB hO P2)
        | (go_at_call 10; refine (P3.out w6 xa ca (OA.out.rd.later (below_on' BW.out T6.out))).mono ?_; rintro e w7 hr; obtain ⟨x7, c7, rfl, hO, -, -, hB⟩ := hr.open HT.out; have T7 := Lib.hid hB; have O7 := Lib.hid hO; clear hr hB hO P3)
        | (go_at_call 16; have _t := S1; refine (S1.out w7 x6 xa c6 ca (O6.out.rd.later T7.out) (OA.out.rd.later (below_on' (below_on' BW.out T6.out) T7.out))).mono ?_; rintro e w8 ⟨rfl, nd, rfl⟩; clear S1)
        | (go_at_call 16; refine (S2.out (w7.drewN nd) x7 xc c7 cc (O7.out.rd.draws nd) ((OC.out.rd.later (below_on' T6.out T7.out)).draws nd)).mono ?_; rintro e w9 ⟨rfl, nd2, rfl⟩))
      go_ret
      exact ⟨rfl, below_draws (below_on' (below_on' BR.out T6.out) T7.out) _⟩

set_option maxRecDepth 100000 in
set_option maxHeartbeats 1000000 in
theorem walk_VoteAgain (x1 : Option Addr) (n1 cap1 : Nat) (zs1 : List Int) (w : World) (r1 : RowIn .u64 w x1 n1 cap1 zs1) :
    Calls Try.prog 7 #[.slice x1 n1 cap1] w fun e w' => e = .returned (.bool true) ∧ Below w.heap.size w w' := by
  have s1 := r1.src
  obtain ⟨L, hL, l1, c1, m1, a1, -⟩ := r1.reads
  rw [← hL] at s1
  by_cases h1 : n1 ≤ 90
  · by_cases e1 : clE L = 0
    · exact again_ok x1 n1 cap1 L w a1 s1 c1 m1 h1 e1
    · exact again_no x1 n1 cap1 L w a1 l1 c1 m1 h1 e1
  · have d1 : decide ((90 : Int) < (n1 : Int)) = true := by simp; omega
    have HV := Lib.hid (live13_any w)
    clear r1 s1 hL l1 c1 m1 a1
    go_enter Try.func7, Try.ntmps7
    go_wp2_with (go_at_call 9; refine HV.out.mono ?_; rintro e w1 ⟨rfl, hb1⟩)
    go_ret
    exact ⟨rfl, hb1⟩

end Go.Proofs.Ytnonoemhefjliaa
