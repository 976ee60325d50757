/-
  The walk of VoteParts: the words of two rows of threes, one behind the other, are those of both.
-/
import Derived.Test.YtnonoemhefjliaaVoteOpen
import Derived.Test.YtnonoemhefjliaaOwnTwo
namespace Go.Proofs.Ytnonoemhefjliaa
open Go.RowKit

set_option maxRecDepth 100000 in
set_option maxHeartbeats 4000000 in
/-- One of both is not told. -/
theorem parts_no (x1 : Option Addr) (n1 cap1 : Nat) (L : List Int) (x2 : Option Addr) (n2 cap2 : Nat) (M : List Int) (w : World) (hx1 : Reads .u64 w w.heap.size x1 L) (hx2 : Reads .u64 w w.heap.size x2 M) (hn1 : L.length = n1) (hn2 : M.length = n2)
    (hc1 : n1 ≤ cap1) (hm1 : cap1 ≤ maxLen) (hc2 : n2 ≤ cap2) (hm2 : cap2 ≤ maxLen) (h1 : n1 ≤ 60) (h2 : n2 ≤ 60) (hE : clE L ≠ 0 ∨ clE M ≠ 0) :
    Calls Try.prog 8 #[.slice x1 n1 cap1, .slice x2 n2 cap2] w fun e w' => e = .returned (.bool true) ∧ Below w.heap.size w w' := by
  have HV := Lib.hid (live13_any w)
  have d1 : decide ((60 : Int) < (n1 : Int)) = false := by simp; omega
  have d2 : decide ((60 : Int) < (n2 : Int)) = false := by simp; omega
  have P1 := Lib.hid (fun W (hB : Below w.heap.size w W) => cells_any x1 n1 cap1 L W (hx1.later hB) hn1 hc1 hm1)
  have P2 := Lib.hid (fun W (hB : Below w.heap.size w W) => cells_any x2 n2 cap2 M W (hx2.later hB) hn2 hc2 hm2)
  have HW1 := Lib.hid (fun (h : clE L ≠ 0) => clW_no h)
  clear hx1 hx2 hn1 hn2 hm1 hm2
  obtain ⟨e1, he1⟩ : ∃ e1, e1 = clE L := ⟨_, rfl⟩
  obtain ⟨e2, he2⟩ : ∃ e2, e2 = clE M := ⟨_, rfl⟩
  rw [← he1] at P1 HW1 hE
  rw [← he2] at P2 hE
  clear he1 he2
  by_cases h0 : e1 = 0
  · have h3 : (e2 != 0) = true := by rw [bne_iff_ne]; exact hE.resolve_left (fun c => c h0)
    subst h0
    obtain ⟨na, hna⟩ : ∃ na, (clW L).length = na := ⟨_, rfl⟩
    have HA := Lib.hid hna
    clear hE HW1 hna
    cases h5 : ((na : Int) == 0)
    · go_enter Try.func8, Try.ntmps8
      go_wp2_with (first
        | (go_at_call 9; refine HV.out.mono ?_; rintro e w1 ⟨rfl, hb1⟩; have B1 := Lib.hid hb1; clear hb1 HV)
        | (go_at_call 14; refine (P1.out w1 B1.out).mono ?_; rintro e w2 hr; obtain ⟨xa, ca, ya, da, rfl, -, -, -, -, hB⟩ := hr.open HA.out rfl; have B2 := Lib.hid (below_on' B1.out hB); clear hr hB P1 B1)
        | (go_at_call 14; refine (P2.out w2 B2.out).mono ?_; rintro e w3 hr; obtain ⟨xb, cb, yb, db, rfl, -, -, -, -, hB⟩ := hr.open rfl rfl; have B3 := Lib.hid (below_on' B2.out hB); clear hr hB P2 B2))
      go_ret
      exact ⟨rfl, B3.out⟩
    · go_enter Try.func8, Try.ntmps8
      go_wp2_with (first
        | (go_at_call 9; refine HV.out.mono ?_; rintro e w1 ⟨rfl, hb1⟩; have B1 := Lib.hid hb1; clear hb1 HV)
        | (go_at_call 14; refine (P1.out w1 B1.out).mono ?_; rintro e w2 hr; obtain ⟨xa, ca, ya, da, rfl, -, -, -, -, hB⟩ := hr.open HA.out rfl; have B2 := Lib.hid (below_on' B1.out hB); clear hr hB P1 B1)
        | (go_at_call 14; refine (P2.out w2 B2.out).mono ?_; rintro e w3 hr; obtain ⟨xb, cb, yb, db, rfl, -, -, -, -, hB⟩ := hr.open rfl rfl; have B3 := Lib.hid (below_on' B2.out hB); clear hr hB P2 B2))
      go_ret
      exact ⟨rfl, B3.out⟩
  · have h3 : (e1 != 0) = true := by rw [bne_iff_ne]; exact h0
    have HA : Hid ((clW L).length = 0) := Lib.hid (by rw [HW1.out h0]; rfl)
    clear hE HW1 h0
    go_enter Try.func8, Try.ntmps8
    go_wp2_with (first
      | (go_at_call 9; refine HV.out.mono ?_; rintro e w1 ⟨rfl, hb1⟩; have B1 := Lib.hid hb1; clear hb1 HV)
      | (go_at_call 14; refine (P1.out w1 B1.out).mono ?_; rintro e w2 hr; obtain ⟨xa, ca, ya, da, rfl, -, -, -, -, hB⟩ := hr.open HA.out rfl; have B2 := Lib.hid (below_on' B1.out hB); clear hr hB P1 B1)
      | (go_at_call 14; refine (P2.out w2 B2.out).mono ?_; rintro e w3 hr; obtain ⟨xb, cb, yb, db, rfl, -, -, -, -, hB⟩ := hr.open rfl rfl; have B3 := Lib.hid (below_on' B2.out hB); clear hr hB P2 B2))
    go_ret
    exact ⟨rfl, B3.out⟩

set_option maxRecDepth 100000 in
set_option maxHeartbeats 8000000 in
/-- Both are told. -/
theorem parts_ok (x1 : Option Addr) (n1 cap1 : Nat) (L : List Int) (x2 : Option Addr) (n2 cap2 : Nat) (M : List Int) (w : World) (hx1 : Reads .u64 w w.heap.size x1 L) (hx2 : Reads .u64 w w.heap.size x2 M) (hs1 : Src .u64 w x1 n1 cap1 L) (hs2 : Src .u64 w x2 n2 cap2 M)
    (hc1 : n1 ≤ cap1) (hm1 : cap1 ≤ maxLen) (hc2 : n2 ≤ cap2) (hm2 : cap2 ≤ maxLen) (h1 : n1 ≤ 60) (h2 : n2 ≤ 60) (hE1 : clE L = 0) (hE2 : clE M = 0) :
    Calls Try.prog 8 #[.slice x1 n1 cap1, .slice x2 n2 cap2] w fun e w' => e = .returned (.bool true) ∧ Below w.heap.size w w' := by
  have HV := Lib.hid (live13_any w)
  have hn1 := hs1.1
  have hn2 := hs2.1
  obtain ⟨c0, cW, cF⟩ := cl_app hE1 hE2 (by omega)
  have hbd : ∀ s ∈ clF M, 0 ≤ s.ad ∧ s.ad < 60 := fun s hs => by
    rw [clF_yes hE2] at hs
    have := fxs_bd hs
    omega
  have d1 : decide ((60 : Int) < (n1 : Int)) = false := by simp; omega
  have d2 : decide ((60 : Int) < (n2 : Int)) = false := by simp; omega
  obtain ⟨i0, hi, hz0, hz1, hz2⟩ := info_parts info_u64
  have P1 := Lib.hid (fun W (hB : Below w.heap.size w W) => cells_any x1 n1 cap1 L W (hx1.later hB) hn1 hc1 hm1)
  have P2 := Lib.hid (fun W (hB : Below w.heap.size w W) => cells_any x2 n2 cap2 M W (hx2.later hB) hn2 hc2 hm2)
  have P3 := Lib.hid (fun W x n c (hR : Reads .u64 W W.heap.size x (L ++ M)) hn hc hm => cells_any x n c (L ++ M) W hR hn hc hm)
  rw [hE1] at P1
  rw [hE2] at P2
  rw [c0, cW, cF, hn1] at P3
  have hlA : (clW L).length ≤ 60 := by rw [clW_yes hE1, wds_len]; omega
  have hlB : (clW M).length ≤ 60 := by rw [clW_yes hE2, wds_len]; omega
  have hlX : (clF L).length ≤ 60 := by rw [clF_yes hE1]; have := fxs_len L (L.length / 3); omega
  have hlY : (clF M).length ≤ 60 := by rw [clF_yes hE2]; have := fxs_len M (M.length / 3); omega
  have HSL := Lib.hid (fun W (hB : Below w.heap.size w W) => hs1.keep hB)
  have HSM := Lib.hid (fun W (hB : Below w.heap.size w W) => hs2.keep hB)
  have HN1 := Lib.hid hn1
  have HN2 := Lib.hid hn2
  generalize clW L = A at P1 P3 hlA
  generalize clW M = B at P2 P3 hlB
  generalize clF L = X at P1 P3 hlX
  generalize clF M = Y at P2 P3 hlY hbd
  obtain ⟨na, hna⟩ : ∃ na, A.length = na := ⟨_, rfl⟩
  obtain ⟨nb, hnb⟩ : ∃ nb, B.length = nb := ⟨_, rfl⟩
  obtain ⟨nx, hnx⟩ : ∃ nx, X.length = nx := ⟨_, rfl⟩
  obtain ⟨ny, hny⟩ : ∃ ny, Y.length = ny := ⟨_, rfl⟩
  obtain ⟨nc, hnc⟩ : ∃ nc, nc = na + nb := ⟨_, rfl⟩
  obtain ⟨nz, hnz⟩ : ∃ nz, nz = nx + ny := ⟨_, rfl⟩
  obtain ⟨n3, hn3⟩ : ∃ n3, n3 = n1 + n2 := ⟨_, rfl⟩
  rw [hna] at hlA
  rw [hnb] at hlB
  rw [hnx] at hlX
  rw [hny] at hlY
  have HA := Lib.hid hna
  have HB := Lib.hid hnb
  have HX := Lib.hid hnx
  have HY := Lib.hid hny
  have HC : Hid ((A ++ B).length = nc) := Lib.hid (by rw [List.length_append]; omega)
  have HZ : Hid ((X ++ Y.map (mv n1)).length = nz) := Lib.hid (by rw [List.length_append, List.length_map]; omega)
  have H3 : Hid ((L ++ M).length = n3) := Lib.hid (by rw [List.length_append]; omega)
  have hncb : nc ≤ 120 := by omega
  have HSa := Lib.hid (fun W x y c c' (hx : Reads .u64 W W.heap.size x (A ++ B)) (hy : Reads .u64 W W.heap.size y (A ++ B)) => sameW_any x y nc nc c c' (A ++ B) (A ++ B) W W.heap.size hx hy HC.out HC.out (by omega) (by omega))
  rw [decide_eq_true rfl] at HSa
  have hzz : (nx : Int) + (ny : Int) = (nz : Int) := by omega
  have hzb : nz ≤ 120 := by omega
  have HBD := Lib.hid hbd
  have HNZ := Lib.hid hnz
  clear hx1 hx2 hs1 hs2 hn1 hn2 hm1 hm2 hE1 hE2 c0 cW cF hna hnb hnx hny hnc hnz hn3 hbd
  go_enter Try.func8, Try.ntmps8
  go_wp2_with (first
    | (go_at_call 9; refine HV.out.mono ?_; rintro e w1 ⟨rfl, hb1⟩; have B1 := Lib.hid hb1; clear hb1 HV)
    | (go_at_call 14; refine (P1.out w1 B1.out).mono ?_; rintro e w2 hr; obtain ⟨xa, ca, ya, da, rfl, hO, -, -, hR, hB⟩ := hr.open HA.out HX.out; have B2 := Lib.hid (below_on' B1.out hB); have OA := Lib.hid hO; have RX := Lib.hid hR; clear hr hB hO hR P1 B1)
    | (go_at_call 14; refine (P2.out w2 B2.out).mono ?_; rintro e w3 hr; obtain ⟨xb, cb, yb, db, rfl, hO, -, -, hR, hB⟩ := hr.open HB.out HY.out; have B3 := Lib.hid (below_on' B2.out hB); have OA3 := Lib.hid (OA.out.below hB); have RX3 := Lib.hid (RX.out.since hB); have OB := Lib.hid hO; have RY := Lib.hid hR; clear hr hB hO hR P2 B2 OA RX)
    | (at_builtin; have _t := B3; refine wpList_append_nums (by rfl) (.const (.slice none 0 0)) (.tmp 52) 22 (by rfl) w3.heap.size 27 i0 .u64 8 Try.underlying22 hi hz0 hz1 hz2 (.slice none 0 0) [] (by rfl) Owns.nil x1 n1 cap1 L (by rfl) (HSL.out _ B3.out) (by unfold maxLen; simp; omega) (by simp; omega) (Nat.le_refl _) ?_; intro v4 w4 hO4 hg4; rw [List.nil_append] at hO4; have T4 := Lib.hid ((Below.refl w3.heap.size w3).grown hg4 (Nat.le_refl _) (fun g e => by cases e)); have O4 := Lib.hid hO4; have Bf3 := B3; clear hO4 hg4 B3 HSL)
    | (at_builtin; refine wpList_append_nums (by rfl) (.tmp 53) (.tmp 54) 22 (by rfl) w3.heap.size 27 i0 .u64 8 Try.underlying22 hi hz0 hz1 hz2 v4 L (by rfl) O4.out x2 n2 cap2 M (by rfl) (HSM.out _ (below_on' Bf3.out T4.out)) (by rw [HN1.out]; unfold maxLen; omega) (by rw [HN1.out]; omega) T4.out.size ?_; intro v5 w5 hO5 hg5; have T5 := Lib.hid (T4.out.grown hg5 T4.out.size (fun g e => O4.out.ownBlock g e)); obtain ⟨x5, c5, rfl, q1, q2, hR5, -⟩ := hO5.form; rw [H3.out] at q1 ⊢; have R5 := Lib.hid hR5; have Q5 := Lib.hid (And.intro q1 q2); clear hO5 hg5 hR5 q1 q2 T4 O4 HSM)
    | (go_at_call 14; refine (P3.out w5 x5 n3 c5 R5.out H3.out Q5.out.1 Q5.out.2).mono ?_; rintro e w6 hr; obtain ⟨xc, cc, yz, dz, rfl, hO, -, -, hR, hB⟩ := hr.open HC.out HZ.out; have T6 := Lib.hid (below_on' T5.out hB); have OC := Lib.hid hO; have RZ := Lib.hid hR; clear hr hB hO hR P3 T5 R5 Q5 H3)
    | (at_builtin; have _t := T6; refine wpList_append_nums (by rfl) (.const (.slice none 0 0)) (.tmp 64) 22 (by rfl) w6.heap.size 27 i0 .u64 8 Try.underlying22 hi hz0 hz1 hz2 (.slice none 0 0) [] (by rfl) Owns.nil xa na ca A (by rfl) ((OA3.out.below T6.out).source HA.out) (by unfold maxLen; simp; omega) (by simp; omega) (Nat.le_refl _) ?_; intro v7 w7 hO7 hg7; rw [List.nil_append] at hO7; have T7 := Lib.hid ((Below.refl w6.heap.size w6).grown hg7 (Nat.le_refl _) (fun g e => by cases e)); have O7 := Lib.hid hO7; clear hO7 hg7 OA3)
    | (at_builtin; refine wpList_append_nums (by rfl) (.tmp 65) (.tmp 66) 22 (by rfl) w6.heap.size 27 i0 .u64 8 Try.underlying22 hi hz0 hz1 hz2 v7 A (by rfl) O7.out xb nb cb B (by rfl) ((OB.out.below (below_on' T6.out T7.out)).source HB.out) (by rw [HA.out]; unfold maxLen; omega) (by rw [HA.out]; omega) T7.out.size ?_; intro v8 w8 hO8 hg8; have T8 := Lib.hid (T7.out.grown hg8 T7.out.size (fun g e => O7.out.ownBlock g e)); obtain ⟨x8, c8, rfl, -, -, hR8, -⟩ := hO8.form; rw [HC.out]; have R8 := Lib.hid hR8; clear hO8 hg8 hR8 T7 O7 OB)
    | (go_at_call 16; refine (HSa.out w8 xc x8 cc c8 (OC.out.rd.later T8.out) R8.out).mono ?_; rintro e w' ⟨rfl, nd, rfl⟩))
  obtain ⟨W9, hW9⟩ : ∃ W9, W9 = w8.drewN nd := ⟨_, rfl⟩
  rw [← hW9]
  have B9 : Hid (Below w.heap.size w W9) := Lib.hid (by rw [hW9]; exact below_draws (below_on' (below_on' Bf3.out T6.out) T8.out) nd)
  have Z9 : Hid (ReadsF W9 W9.heap.size yz (X ++ Y.map (mv n1))) := Lib.hid (by rw [hW9]; exact (RZ.out.since T8.out).draws nd)
  have X9 : Hid (ReadsF W9 W9.heap.size ya X) := Lib.hid (by rw [hW9]; exact ((RX3.out.since T6.out).since T8.out).draws nd)
  have Y9 : Hid (ReadsF W9 W9.heap.size yb Y) := Lib.hid (by rw [hW9]; exact ((RY.out.since T6.out).since T8.out).draws nd)
  clear hW9 RZ RX3 RY T8 R8 OC T6 Bf3 HSa
  go_loopw [83] (fun i wr => ∃ k : Nat, k ≤ nz ∧ i = .int .i64 (k : Int) ∧ Hid (Below W9.heap.size W9 wr)) (fun i _ => nz - (intOf i).toNat)
  case atStart => exact ⟨0, Nat.zero_le _, rfl, Lib.hid (Below.refl _ _)⟩
  case round =>
    obtain ⟨k, hk, rfl, HI⟩ := hrel
    by_cases hlt : k < nz
    · obtain ⟨bz, oz, rfl, -, hcz⟩ := (Z9.out.since HI.out) (by have := HZ.out; omega)
      have hcu := hcz k (by have := HZ.out; omega)
      obtain ⟨u, hu⟩ : ∃ u, u = (X ++ Y.map (mv n1)).getD k noFx := ⟨_, rfl⟩
      rw [← hu] at hcu
      have hne := fun w => neq_fx u u w
      rw [decide_eq_true rfl] at hne
      have g1 := run_eqGuard_agg (P := Try.prog) (hm := fx_guard)
      have hBx := below_al (Below.refl _ wr) (fxO u)
      have HB6 := Lib.hid (below_al HI.out (fxO u))
      by_cases hkx : k < nx
      · obtain ⟨bx, ox, rfl, hbx, hcx⟩ := (X9.out.since HI.out) (by have := HX.out; omega)
        have hcv := (hcx k (by have := HX.out; omega)).below hBx
        have hv : X.getD k noFx = u := by
          rw [hu, List.getD_eq_getElem?_getD, List.getD_eq_getElem?_getD, List.getElem?_append_left (by have := HX.out; omega)]
        rw [hv] at hcv
        have d3 : decide (k < nx) = true := by simpa using hkx
        have d4 : decide (nx ≤ k) = false := by simp; omega
        clear hcz hcx hu hv HI hBx
        obtain ⟨u1, u2, u3⟩ := u
        obtain ⟨q0, q1, q2⟩ := hcu
        obtain ⟨p0, p1, p2⟩ := hcv
        unfold fxO at p0 p1 p2 HB6
        unfold fxV at hne
        dsimp only at q0 q1 q2 p0 p1 p2 hne HB6
        go_wp2
        obtain ⟨W6, hW6⟩ : ∃ W6, W6 = wr.alloc (.cells #[.int .i64 u1, .int .u64 u2, .int .u64 u3] 40) := ⟨_, rfl⟩
        have s0 : W6.cell? ⟨wr.heap.size, 0, none⟩ = some (.int .i64 u1) := by rw [hW6]; simp
        have s1 : W6.cell? ⟨wr.heap.size, 1, none⟩ = some (.int .u64 u2) := by rw [hW6]; simp
        have s2 : W6.cell? ⟨wr.heap.size, 2, none⟩ = some (.int .u64 u3) := by rw [hW6]; simp
        rw [← hW6] at p0 p1 p2 HB6 ⊢
        clear hW6 q0 q1 q2
        go_quiet (fail)
        go_wp2
        go_quiet (fail)
        go_wp2
        go_roundw
        case rel => exact ⟨k + 1, by omega, by go_num, Lib.hid (below_draws HB6.out _)⟩
        case measure => simp [intOf]; omega
      · obtain ⟨j, hj⟩ : ∃ j, j = k - nx := ⟨_, rfl⟩
        have hjz : (k : Int) - (nx : Int) = (j : Int) := by omega
        have hjy : j < ny := by have := HNZ.out; omega
        obtain ⟨bx, ox, rfl, hbx, hcx⟩ := (Y9.out.since HI.out) (by have := HY.out; omega)
        have hcv := (hcx j (by have := HY.out; omega)).below hBx
        obtain ⟨v, hv⟩ : ∃ v, v = Y.getD j noFx := ⟨_, rfl⟩
        have hvm : v ∈ Y := by rw [hv, List.getD_eq_getElem?_getD, List.getElem?_eq_getElem (by have := HY.out; omega)]; exact List.getElem_mem _
        obtain ⟨v0, v1⟩ := HBD.out v hvm
        have huv : u = mv n1 v := by
          rw [hu, hv, List.getD_eq_getElem?_getD, List.getD_eq_getElem?_getD, List.getElem?_append_right (by have := HX.out; omega), HX.out, ← hj, List.getElem?_map, List.getElem?_eq_getElem (by have := HY.out; omega)]
          rfl
        rw [← hv] at hcv
        have d3 : decide (k < nx) = false := by simp; omega
        have d4 : decide (nx ≤ k) = true := by simp; omega
        have hj7 : (j : Int) < (ny : Int) := by omega
        clear hcz hcx hu hv HI hBx hj hvm hkx
        subst huv
        obtain ⟨a1, a2, a3⟩ := v
        unfold mv at hne HB6 hcu hcv
        dsimp only at v0 v1 hne HB6 hcu hcv
        obtain ⟨u1, hu1⟩ : ∃ u1, u1 = a1 + (n1 : Int) := ⟨_, rfl⟩
        have hau : a1 + (n1 : Int) = u1 := hu1.symm
        rw [← hu1] at hne HB6 hcu hcv
        obtain ⟨q0, q1, q2⟩ := hcu
        obtain ⟨p0, p1, p2⟩ := hcv
        unfold fxO at p0 p1 p2 HB6
        unfold fxV at hne
        dsimp only at q0 q1 q2 p0 p1 p2 hne HB6
        have u1a : -9223372036854775808 ≤ u1 := by omega
        have u1b : u1 ≤ 9223372036854775807 := by omega
        clear hu1
        go_wp2
        obtain ⟨W6, hW6⟩ : ∃ W6, W6 = wr.alloc (.cells #[.int .i64 u1, .int .u64 a2, .int .u64 a3] 40) := ⟨_, rfl⟩
        have s0 : W6.cell? ⟨wr.heap.size, 0, none⟩ = some (.int .i64 u1) := by rw [hW6]; simp
        have s1 : W6.cell? ⟨wr.heap.size, 1, none⟩ = some (.int .u64 a2) := by rw [hW6]; simp
        have s2 : W6.cell? ⟨wr.heap.size, 2, none⟩ = some (.int .u64 a3) := by rw [hW6]; simp
        rw [← hW6] at p0 p1 p2 HB6 ⊢
        clear hW6 q0 q1 q2
        go_quiet (fail)
        go_wp2
        go_quiet (fail)
        go_wp2
        go_roundw
        case rel => exact ⟨k + 1, by omega, by go_num, Lib.hid (below_draws HB6.out _)⟩
        case measure => simp [intOf]; omega
    · clear Z9 X9 Y9
      go_wp2
      go_ret
      exact ⟨rfl, below_on' B9.out HI.out⟩

set_option maxRecDepth 100000 in
set_option maxHeartbeats 1000000 in
theorem walk_VoteParts (x1 : Option Addr) (n1 cap1 : Nat) (zs1 : List Int) (x2 : Option Addr) (n2 cap2 : Nat) (zs2 : List Int) (w : World) (r1 : RowIn .u64 w x1 n1 cap1 zs1) (r2 : RowIn .u64 w x2 n2 cap2 zs2) :
    Calls Try.prog 8 #[.slice x1 n1 cap1, .slice x2 n2 cap2] w fun e w' => e = .returned (.bool true) ∧ Below w.heap.size w w' := by
  have s1 := r1.src
  have s2 := r2.src
  obtain ⟨L, hL, l1, c1, m1, a1, -⟩ := r1.reads
  obtain ⟨M, hM, l2, c2, m2, a2, -⟩ := r2.reads
  rw [← hL] at s1
  rw [← hM] at s2
  by_cases h1 : n1 ≤ 60
  · by_cases h2 : n2 ≤ 60
    · by_cases e1 : clE L = 0
      · by_cases e2 : clE M = 0
        · exact parts_ok x1 n1 cap1 L x2 n2 cap2 M w a1 a2 s1 s2 c1 m1 c2 m2 h1 h2 e1 e2
        · exact parts_no x1 n1 cap1 L x2 n2 cap2 M w a1 a2 l1 l2 c1 m1 c2 m2 h1 h2 (.inr e2)
      · exact parts_no x1 n1 cap1 L x2 n2 cap2 M w a1 a2 l1 l2 c1 m1 c2 m2 h1 h2 (.inl e1)
    · have d1 : decide ((60 : Int) < (n1 : Int)) = false := by simp; omega
      have d2 : decide ((60 : Int) < (n2 : Int)) = true := by simp; omega
      have HV := Lib.hid (live13_any w)
      clear r1 r2 s1 s2 hL hM l1 l2 c1 c2 m1 m2 a1 a2
      go_enter Try.func8, Try.ntmps8
      go_wp2_with (go_at_call 9; refine HV.out.mono ?_; rintro e w1 ⟨rfl, hb1⟩)
      go_ret
      exact ⟨rfl, hb1⟩
  · have d1 : decide ((60 : Int) < (n1 : Int)) = true := by simp; omega
    have HV := Lib.hid (live13_any w)
    clear r1 r2 s1 s2 hL hM l1 l2 c1 c2 m1 m2 a1 a2
    go_enter Try.func8, Try.ntmps8
    go_wp2_with (go_at_call 9; refine HV.out.mono ?_; rintro e w1 ⟨rfl, hb1⟩)
    go_ret
    exact ⟨rfl, hb1⟩

end Go.Proofs.Ytnonoemhefjliaa
