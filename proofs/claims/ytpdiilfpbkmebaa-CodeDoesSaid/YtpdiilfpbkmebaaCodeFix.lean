/-
  What code.changes and code.Fix come to.
-/
import Derived.Test.YtpdiilfpbkmebaaCodeMend
import Derived.Test.YtpdiilfpbkmebaaCallHead
namespace Go.Proofs.Ytpdiilfpbkmebaa
open Go.RowKit

/-- What a call returns that makes a row of fixes. -/
def RetF (w : World) (fs : List Fx) (e : Ending) (w' : World) : Prop := ∃ v, e = .returned v ∧ OwnsF w' w.heap.size v fs ∧ Below w.heap.size w w'

set_option maxRecDepth 100000 in
set_option maxHeartbeats 4000000 in
theorem changes_any (x y : Option Addr) (n cap cap' : Nat) (xs ys : List Int) (w : World) (hx : Reads .u64 w w.heap.size x xs) (hy : Reads .u64 w w.heap.size y ys) (hn : xs.length = n) (hm : ys.length = n) (hl : n ≤ 999999) :
    Calls Try.prog 39 #[.slice x n cap, .slice y n cap'] w (RetF w (Cd.dif xs ys n)) := by
  have HX := Lib.hid hx
  have HY := Lib.hid hy
  have HN := Lib.hid hn
  have HM := Lib.hid hm
  clear hx hy hn hm
  go_enter Try.func39, Try.ntmps39
  go_wp2
  go_loopw [5, 10] (fun v i wr => ∃ (k : Nat) (o : Value), k ≤ n ∧ i = .int .i64 (k : Int) ∧ o = v ∧ Hid (OwnsF wr w.heap.size o (Cd.dif xs ys k) ∧ Below w.heap.size w wr)) (fun _ i _ => n - (intOf i).toNat)
  case atStart => exact ⟨0, _, Nat.zero_le _, rfl, rfl, Lib.hid ⟨OwnsF.nil, Below.refl _ _⟩⟩
  case round =>
    obtain ⟨k, o, hk, rfl, rfl, HI⟩ := hrel
    by_cases hlt : k < n
    · have hdk : decide (k < n) = true := by simpa using hlt
      obtain ⟨b, off, rfl, hb, hc⟩ := (HX.out.below HI.out.2) (by have := HN.out; omega)
      obtain ⟨b', off', rfl, hb', hc'⟩ := (HY.out.below HI.out.2) (by have := HM.out; omega)
      have c1 := hc k (by have := HN.out; omega)
      have c2 := hc' k (by have := HM.out; omega)
      have HD := Lib.hid (Cd.dif_succ xs ys k)
      have HDL := Lib.hid (Cd.dif_len xs ys k)
      obtain ⟨u, hu⟩ : ∃ u, u = xs.getD k 0 := ⟨_, rfl⟩
      obtain ⟨v, hv⟩ : ∃ v, v = ys.getD k 0 := ⟨_, rfl⟩
      rw [← hu] at c1 HD
      rw [← hv] at c2 HD
      clear hc hc' hu hv
      by_cases he : u = v
      · have t1 : (u != v) = false := by rw [he]; simp
        rw [if_pos he] at HD
        clear he
        go_wp2
        go_roundw
        case rel => exact ⟨k + 1, o, by omega, by go_num, rfl, Lib.hid (by rw [HD.out]; exact HI.out)⟩
        case measure => simp [intOf]; omega
      · have t1 : (u != v) = true := by rw [bne_iff_ne]; exact he
        rw [if_neg he] at HD
        have HS : Hid (w.heap.size ≤ wr.heap.size) := Lib.hid HI.out.2.size
        clear he
        go_wp2_with (at_builtin; refine wpList_append_fx rfl _ _ rfl w.heap.size o _ rfl (HI.out.1.alloc _) ⟨wr.heap.size, 0, none⟩ 1 ⟨(k : Int), u, v⟩ rfl (cell_fx_new wr ⟨(k : Int), u, v⟩) (by have := HDL.out; omega) (by have := HS.out; simp; omega) ?_; intro v5 w5 hO5 hg5 hat5)
        have H5 : Hid (OwnsF w5 w.heap.size v5 (Cd.dif xs ys (k + 1)) ∧ Below w.heap.size w w5) := Lib.hid ⟨by rw [HD.out]; exact hO5, (below_al HI.out.2 _).grown hg5 (by have := HS.out; simp; omega) (fun g e => (HI.out.1.inside e).1)⟩
        clear hO5 hg5 hat5
        go_roundw
        case rel => exact ⟨k + 1, v5, by omega, by go_num, rfl, H5⟩
        case measure => simp [intOf]; omega
    · obtain rfl : k = n := by omega
      have hdk : decide (k < k) = false := by simp
      go_wp2
      go_ret
      exact ⟨_, rfl, HI.out.1, HI.out.2⟩

theorem kfix_no (p : Int) (x : Option Addr) (n cap : Nat) (w : World) (er : Int) (her : er = 2 ∨ er = 6) (hC : Cd.lnE p n = er) :
    Calls Try.prog 17 #[.int .u64 p, .slice x n cap] w (RetC w [] [] er) := by
  have HC := Lib.hid (ccheck_any p x n cap w)
  rw [hC] at HC
  clear hC
  rcases her with rfl | rfl
  all_goals
    go_enter Try.func17, Try.ntmps17
    go_wp2_with (go_at_call 35; refine HC.out.mono ?_; rintro e w' ⟨rfl, rfl⟩)
    go_ret3
    exact ⟨_, _, rfl, Owns.nil, OwnsF.nil, (fun g e => by cases e), Below.refl _ _⟩

theorem clE_six {l : List Int} (h : l.length = 6) : clE l = 0 ∨ clE l = 10 := by
  unfold clE
  rw [if_neg (by omega), if_neg (by omega)]
  split
  · exact .inl rfl
  · exact .inr rfl

set_option maxRecDepth 100000 in
set_option maxHeartbeats 4000000 in
theorem kfix_cells (p : Int) (x : Option Addr) (n cap : Nat) (xs : List Int) (w : World) (hx : Reads .u64 w w.heap.size x xs) (hn : xs.length = n) (hc : n ≤ cap) (hcm : cap ≤ maxLen) (hC : Cd.lnE p n = 0) (hL : clE (Cd.tl xs) = 10) :
    Calls Try.prog 17 #[.int .u64 p, .slice x n cap] w (RetC w [] [] 10) := by
  obtain ⟨-, h7, h8⟩ := Cd.lnE_zero.1 hC
  have hcm' : cap ≤ 9223372036854775807 := hcm
  have HC := Lib.hid (ccheck_any p x n cap w)
  rw [hC] at HC
  obtain ⟨b, off, rfl, hb, hcx⟩ := hx (by omega)
  obtain ⟨m, hm⟩ : ∃ m : Nat, m = n - 6 := ⟨_, rfl⟩
  have hz : (n : Int) - 6 = (m : Int) := by omega
  have hnm : n = m + 6 := by omega
  have htl : Cd.tl xs = xs.drop m := by unfold Cd.tl; rw [hn, ← hm]
  have HT := Lib.hid (fun c (h1 : 6 ≤ c) (h2 : c ≤ maxLen) => cells_any (some ⟨b, off + m, none⟩) 6 c (xs.drop m) w (hx.drop m) (by rw [List.length_drop]; omega) h1 h2)
  rw [htl] at hL
  rw [clW_no (by rw [hL]; decide), clF_no (by rw [hL]; decide), hL] at HT
  have hsc : ¬ cap = m := by omega
  have hmc : m ≤ cap := by omega
  have hsub : cap - m ≤ maxLen := by omega
  clear hx hn hm htl hL hC hb hcx
  subst hnm
  go_enter Try.func17, Try.ntmps17
  go_wp2_with (first
    | (go_at_call 35; refine HC.out.mono ?_; rintro e w' ⟨rfl, rfl⟩)
    | (go_at_call 37; refine (HT.out _ (by omega) hsub).mono ?_; rintro e w2 hr; obtain ⟨x2, c2, y2, d2, rfl, -, -, -, -, hB⟩ := hr.open (n := 0) (m := 0) rfl rfl; have B2 := Lib.hid hB; clear hr hB))
  go_ret3
  exact ⟨_, _, rfl, Owns.nil, OwnsF.nil, (fun g e => by cases e), B2.out⟩

theorem RetM.open {w w' : World} {n : Nat} {o : Option (List Int)} {e : Ending} (h : RetM w n o e w') :
    ∃ (x : Option Addr) (l c : Nat) (er : Int), e = .returned (.tuple #[.slice x l c, .int .i64 er]) ∧ ((o = none ∧ er = 10) ∨ (∃ ys, o = some ys ∧ er = 0 ∧ l = n ∧ n ≤ c ∧ c ≤ maxLen ∧ Reads .u64 w' w'.heap.size x ys)) ∧ Below w.heap.size w w' := by
  unfold RetM at h
  cases o with
  | none => exact ⟨none, 0, 0, 10, h.1, .inl ⟨rfl, rfl⟩, h.2⟩
  | some ys =>
    obtain ⟨⟨x, c, rfl, h1, h2, h3⟩, hB⟩ := h
    exact ⟨x, n, c, 0, rfl, .inr ⟨ys, rfl, rfl, rfl, h1, h2, h3⟩, hB⟩

set_option maxRecDepth 100000 in
set_option maxHeartbeats 8000000 in
theorem kfix_ok (p : Int) (x : Option Addr) (n cap : Nat) (xs : List Int) (w : World) (hx : Reads .u64 w w.heap.size x xs) (hn : xs.length = n) (hc : n ≤ cap) (hcm : cap ≤ maxLen) (hw : Words xs) (hC : Cd.lnE p n = 0) (hL : clE (Cd.tl xs) = 0) :
    Calls Try.prog 17 #[.int .u64 p, .slice x n cap] w (RetC w (Cd.fiL p xs) (Cd.fiF p xs) (Cd.fiE p xs)) := by
  obtain ⟨hk, h7, h8⟩ := Cd.lnE_zero.1 hC
  have hmx : Try.prog.follows .mixedOrders = true := by kernel_rfl
  have hcm' : cap ≤ 9223372036854775807 := hcm
  have HC := Lib.hid (ccheck_any p x n cap w)
  rw [hC] at HC
  obtain ⟨b, off, rfl, hb, hcx⟩ := hx (by omega)
  obtain ⟨m, hm⟩ : ∃ m : Nat, m = n - 6 := ⟨_, rfl⟩
  have hz : (n : Int) - 6 = (m : Int) := by omega
  have hnm : n = m + 6 := by omega
  have htl : Cd.tl xs = xs.drop m := by unfold Cd.tl; rw [hn, ← hm]
  have hhd : Cd.hd xs = xs.take m := by unfold Cd.hd; rw [hn, ← hm]
  have htlen : (Cd.tl xs).length = 6 := Cd.tl_len (by omega)
  obtain ⟨cw1, cw2, -⟩ := Cd.cl6 htlen hL
  have HT := Lib.hid (fun c (h1 : 6 ≤ c) (h2 : c ≤ maxLen) => cells_any (some ⟨b, off + m, none⟩) 6 c (xs.drop m) w (hx.drop m) (by rw [List.length_drop]; omega) h1 h2)
  rw [← htl, hL, cw1] at HT
  have hwt : Words (xs.take m) := fun j => by
    by_cases hj : j < m
    · rw [List.getD_eq_getElem?_getD, List.getElem?_take, if_pos hj, ← List.getD_eq_getElem?_getD]; exact hw j
    · rw [List.getD_eq_getElem?_getD, List.getElem?_take, if_neg hj]; simp
  have hwtl : Words (Cd.tl xs) := fun j => by
    rw [htl, List.getD_eq_getElem?_getD, List.getElem?_drop, ← List.getD_eq_getElem?_getD]; exact hw _
  have hg : 0 ≤ wd (Cd.tl xs) 0 ∧ wd (Cd.tl xs) 0 < 18446744073709551616 := t3_bd (hwtl _) (hwtl _) (hwtl _)
  have hh : 0 ≤ wd (Cd.tl xs) 1 ∧ wd (Cd.tl xs) 1 < 18446744073709551616 := t3_bd (hwtl _) (hwtl _) (hwtl _)
  have htk : (xs.take m).length = m := by rw [List.length_take]; omega
  have HM := Lib.hid (fun W (hW : Below w.heap.size w W) => mend_any p (some ⟨b, off, none⟩) m cap (xs.take m) (wd (Cd.tl xs) 0) (wd (Cd.tl xs) 1) W hk ((hx.take m).later hW) htk (by omega) hcm (by omega) (by omega) hwt hg.1 hg.2 hh.1 hh.2)
  have HO : Hid (Cd.fiO p xs = Cd.mn p (xs.take m) (wd (Cd.tl xs) 0) (wd (Cd.tl xs) 1)) := Lib.hid (by rw [Cd.fiO_mn (by rw [hn]; exact hC) hL, hhd])
  have HSome : Hid (∀ ys, Cd.mn p (xs.take m) (wd (Cd.tl xs) 0) (wd (Cd.tl xs) 1) = some ys → Cd.kpE p ys = 0 ∧ ys.length = m ∧ Words ys ∧ Cd.fiE p xs = 0 ∧ Cd.fiL p xs = Cd.cw p ys ∧ Cd.fiF p xs = Cd.dif xs (Cd.cw p ys) n) := Lib.hid (fun ys hys => by
    rw [← hhd] at hys
    obtain ⟨a1, a2, a3, a4, a5⟩ := Cd.fi_some (by rw [hn]; exact hC) hL hys
    rw [hn] at a2 a5
    refine ⟨a1, by omega, ?_, a3, a4, a5⟩
    rw [hhd] at hys
    obtain ⟨-, ⟨rfl, -⟩ | ⟨-, i, -, rfl⟩⟩ := Cd.mn_some hys
    · exact hwt
    · have := Cd.nx_bd hk (xs.take m) (wd (Cd.tl xs) 0) i
      exact Words.put hwt i this.1 (by have := Fp.kn_bd hk; omega))
  have HNone : Hid (Cd.mn p (xs.take m) (wd (Cd.tl xs) 0) (wd (Cd.tl xs) 1) = none → Cd.fiE p xs = 10 ∧ Cd.fiL p xs = [] ∧ Cd.fiF p xs = []) := Lib.hid (fun hys => Cd.fiE_lost (by rw [hn]; exact hC) (HO.out.trans hys))
  have HX := Lib.hid (fun W (hW : Below w.heap.size w W) => hx.later hW)
  have HN := Lib.hid hn
  obtain ⟨g, hgd⟩ : ∃ g, g = wd (Cd.tl xs) 0 := ⟨_, rfl⟩
  obtain ⟨h, hhh⟩ : ∃ h, h = wd (Cd.tl xs) 1 := ⟨_, rfl⟩
  rw [← hgd, ← hhh] at HT HM HSome HNone
  generalize Cd.mn p (xs.take m) g h = o at HM HSome HNone
  have hfl : (clF (Cd.tl xs)).length ≤ 2 := by rw [cw2]; exact fxs_len _ 2
  generalize clF (Cd.tl xs) = fz at HT hfl
  have hsc : ¬ cap = m := by omega
  have hmc : m ≤ cap := by omega
  have hsub : cap - m ≤ maxLen := by omega
  have hmb : m ≤ 4096 := by omega
  clear hx hn hm htl hhd hL hC hb hcx htlen cw1 cw2 hwt hwtl hg hh htk HO hgd hhh hw hk
  subst hnm
  unfold arV at HM
  go_enter Try.func17, Try.ntmps17
  go_wp2_with (first
    | (go_at_call 35; refine HC.out.mono ?_; rintro e w' ⟨rfl, rfl⟩)
    | (go_at_call 37; refine (HT.out _ (by omega) hsub).mono ?_; rintro e w2 hr; obtain ⟨x2, c2, y2, d2, rfl, hO2, hc2, hcm2, -, hB⟩ := hr.open (n := 2) (m := fz.length) rfl rfl; obtain ⟨b2, o2, rfl, -, hcx2⟩ := hO2.rd (by simp); have k0 : w2.cell? ⟨b2, o2, none⟩ = some (.int .u64 g) := hcx2 0 (by simp); have k1 : w2.cell? ⟨b2, o2 + 1, none⟩ = some (.int .u64 h) := hcx2 1 (by simp); have B2 := Lib.hid hB; clear hr hB hO2 hcx2 HT))
  refine region_call 11 hmx (by kernel_rfl) ?_
  simp only [List.take_succ_cons, List.take_zero]
  repeat (go_big_quiet_step (fail))
  refine wpQuiet_nil ?_
  rintro w' ⟨nq, rfl⟩
  refine any_one1 (i := 11) (by kernel_rfl) (wpOp_of_list rfl ?_)
  go_wp2_with fail
  refine (HM.out _ (below_draws B2.out nq)).mono ?_
  intro e w4 hr
  obtain ⟨x4, l4, c4, er4, rfl, hr4, hB⟩ := hr.open
  have B4 := Lib.hid (below_on' (below_draws B2.out nq) hB)
  have HR := Lib.hid hr4
  clear hr hB hr4 HM k0 k1
  go_wp2
  refine ⟨rfl, ?_⟩
  refine any_one1 (i := 12) (by kernel_rfl) (wpOp_of_list rfl ?_)
  go_wp2
  refine ⟨rfl, ?_⟩
  refine any_two (i := 13) (j := 14) (by kernel_rfl) (wpOp_of_list rfl ?ga) (wpOp_of_list rfl ?gb)
  case' gb =>
    go_wp2
    refine ⟨rfl, ?_⟩
    refine any_one1 (i := 13) (by kernel_rfl) (wpOp_of_list rfl ?_)
    go_wp2
    refine ⟨rfl, ?_⟩
    refine any_one1 (i := 15) (by kernel_rfl) (wpOp_of_list rfl ?_)
    go_wp2
    refine ⟨rfl, ?_⟩
    refine any_one1 (i := 16) (by kernel_rfl) (wpOp_of_list rfl ?_)
    go_wp2
    refine ⟨rfl, ?_⟩
    refine any_end (by kernel_rfl) ?_
  case' ga =>
    go_wp2
    refine ⟨rfl, ?_⟩
    refine any_two (i := 14) (j := 15) (by kernel_rfl) (wpOp_of_list rfl ?gc) (wpOp_of_list rfl ?gd)
  case' gd =>
    go_wp2
    refine ⟨rfl, ?_⟩
    refine any_one1 (i := 14) (by kernel_rfl) (wpOp_of_list rfl ?_)
    go_wp2
    refine ⟨rfl, ?_⟩
    refine any_one1 (i := 16) (by kernel_rfl) (wpOp_of_list rfl ?_)
    go_wp2
    refine ⟨rfl, ?_⟩
    refine any_end (by kernel_rfl) ?_
  case' gc =>
    go_wp2
    refine ⟨rfl, ?_⟩
    refine any_one1 (i := 15) (by kernel_rfl) (wpOp_of_list rfl ?_)
    go_wp2
    refine ⟨rfl, ?_⟩
    refine any_one1 (i := 16) (by kernel_rfl) (wpOp_of_list rfl ?_)
    go_wp2
    refine ⟨rfl, ?_⟩
    refine any_end (by kernel_rfl) ?_
  all_goals
    rcases HR.out with ⟨ho, he⟩ | ⟨ys, ho, he, hl, h1, h2, h3⟩
    · subst he
      have HN := Lib.hid (HNone.out ho)
      clear HR HSome HNone ho
      go_wp2
      go_ret3
      rw [HN.out.1, HN.out.2.1, HN.out.2.2]
      exact ⟨_, _, rfl, Owns.nil, OwnsF.nil, (fun g e => by cases e), B4.out⟩
    · subst he
      subst hl
      obtain ⟨z1, z2, z3, z4, z5, z6⟩ := HSome.out ys ho
      have HP := Lib.hid (kput_any p x4 l4 c4 ys w4 h3 z2 z3)
      have e4 : Cd.kpL p ys = Cd.cw p ys := by unfold Cd.kpL; rw [if_pos z1]
      have hlen : (Cd.cw p ys).length = l4 + 6 := by rw [Cd.cw_len]; omega
      rw [e4, z1] at HP
      have HZ := Lib.hid (And.intro z4 (And.intro z5 z6))
      generalize Cd.cw p ys = rs at HP hlen HZ
      have HL := Lib.hid hlen
      have HCh := Lib.hid (fun W y c (hW : Below w.heap.size w W) (hy : Reads .u64 W W.heap.size y rs) => changes_any (some ⟨b, off, none⟩) y (l4 + 6) cap c xs rs W (HX.out W hW) hy HN.out HL.out (by omega))
      generalize Cd.dif xs rs (l4 + 6) = fs at HCh HZ
      clear HR HSome HNone ho h1 h2 h3 z1 z2 z3 z4 z5 z6 e4 hlen
      go_wp2_with (first
        | (go_at_call 13; refine HP.out.mono ?_; rintro e w5 hr; obtain ⟨x5, c5, rfl, hO, -, -, hB⟩ := hr.open HL.out; have B5 := Lib.hid (below_on' B4.out hB); have O5 := Lib.hid hO; clear hr hO hB)
        | (go_at_call 39; refine (HCh.out w5 x5 c5 B5.out O5.out.rd).mono ?_; rintro e w6 ⟨v6, rfl, hO6, hB6⟩; have O6 := Lib.hid hO6; have B6 := Lib.hid hB6; clear hO6 hB6))
      go_ret3
      rw [HZ.out.1, HZ.out.2.1, HZ.out.2.2]
      refine ⟨_, _, rfl, (O5.out.mono B4.out.size).below B6.out, O6.out.mono B5.out.size, fun g e1 e2 => ?_, below_on' B5.out B6.out⟩
      have := (O5.out.inside e1).2
      have := (O6.out.inside e2).1
      omega

/-- Fix, of whatever words. -/
theorem kfix_any (p : Int) (x : Option Addr) (n cap : Nat) (xs : List Int) (w : World) (hx : Reads .u64 w w.heap.size x xs) (hn : xs.length = n) (hc : n ≤ cap) (hcm : cap ≤ maxLen) (hw : Words xs) :
    Calls Try.prog 17 #[.int .u64 p, .slice x n cap] w (RetC w (Cd.fiL p xs) (Cd.fiF p xs) (Cd.fiE p xs)) := by
  have no : ∀ er, Cd.lnE p n = er → er ≠ 0 → Cd.fiE p xs = er ∧ Cd.fiL p xs = [] ∧ Cd.fiF p xs = [] := fun er h1 h2 => by
    have := Cd.fiE_no (p := p) (c := xs) (by rw [hn, h1]; exact h2)
    rw [hn, h1] at this
    exact this
  rcases Cd.lnE_cases p n with h | h | h
  · obtain ⟨-, h7, -⟩ := Cd.lnE_zero.1 h
    rcases clE_six (Cd.tl_len (c := xs) (by omega)) with h1 | h1
    · exact kfix_ok p x n cap xs w hx hn hc hcm hw h h1
    · obtain ⟨e1, e2, e3⟩ := Cd.fiE_lost (p := p) (c := xs) (by rw [hn]; exact h) (Cd.fiO_cells (by rw [h1]; decide))
      rw [e1, e2, e3]
      exact kfix_cells p x n cap xs w hx hn hc hcm h h1
  · obtain ⟨e1, e2, e3⟩ := no 2 h (by decide)
    rw [e1, e2, e3]
    exact kfix_no p x n cap w 2 (.inl rfl) h
  · obtain ⟨e1, e2, e3⟩ := no 6 h (by decide)
    rw [e1, e2, e3]
    exact kfix_no p x n cap w 6 (.inr rfl) h

end Go.Proofs.Ytpdiilfpbkmebaa
