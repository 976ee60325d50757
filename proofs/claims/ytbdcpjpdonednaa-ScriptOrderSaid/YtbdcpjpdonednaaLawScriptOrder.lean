/-
  The walk of ScriptOrder: in whatever order events stand they strike the same, are sparse, are quiet, and are as many of each window.
-/
import Derived.Test.YtbdcpjpdonednaaLawScriptParts
import Derived.Test.YtbdcpjpdonednaaLawScriptBack
namespace Go.Proofs.Ytbdcpjpdonednaa
open Go.RowKit

/-- The events from place k on, around, and the other way round: the first m of them. -/
def oth (es : List Ev) (k m : Nat) : List Ev := (List.range m).map fun i => es.getD ((k + es.length - i) % es.length) noEv
theorem oth_len (es : List Ev) (k m : Nat) : (oth es k m).length = m := by simp [oth]
theorem oth_snoc (es : List Ev) (k m : Nat) : oth es k (m + 1) = oth es k m ++ [es.getD ((k + es.length - m) % es.length) noEv] := by simp [oth, List.range_succ]
theorem oth_ok {es : List Ev} (h : EvsOk es) (k m : Nat) : EvsOk (oth es k m) := fun s hs => by
  obtain ⟨i, _, rfl⟩ := List.mem_map.1 hs
  exact h.at _
theorem oth_all {es : List Ev} {k : Nat} (hk : k < es.length) : oth es k es.length = (es.take (k + 1)).reverse ++ (es.drop (k + 1)).reverse := by
  apply List.ext_getElem
  · simp [oth]; omega
  · intro i h1 h2
    have hi : i < es.length := by simpa [oth] using h1
    have hl : (es.take (k + 1)).reverse.length = k + 1 := by simp; omega
    have e1 : (oth es k es.length)[i] = es.getD ((k + es.length - i) % es.length) noEv := by simp [oth]
    rw [e1]
    by_cases c : i < k + 1
    · rw [List.getElem_append_left (by omega), List.getElem_reverse, List.getElem_take]
      have e2 : (k + es.length - i) % es.length = k - i := by
        rw [show k + es.length - i = (k - i) + es.length by omega, Nat.add_mod_right, Nat.mod_eq_of_lt (by omega)]
      rw [e2, List.getD_eq_getElem?_getD, List.getElem?_eq_getElem (by omega)]
      simp only [Option.getD_some]
      congr 1
      simp
      omega
    · rw [List.getElem_append_right (by omega), List.getElem_reverse, List.getElem_drop]
      rw [Nat.mod_eq_of_lt (by omega), List.getD_eq_getElem?_getD, List.getElem?_eq_getElem (by omega)]
      simp only [Option.getD_some]
      congr 1
      simp
      omega
theorem oth_perm {es : List Ev} {k : Nat} (hk : k < es.length) : (oth es k es.length).Perm es := by
  rw [oth_all hk]
  refine ((List.reverse_perm _).append (List.reverse_perm _)).trans ?_
  rw [List.take_append_drop]

theorem ints_unique : ∀ (xs ys : List Int), xs.Pairwise (fun a b => a ≤ b) → ys.Pairwise (fun a b => a ≤ b) → xs.Perm ys → xs = ys
  | [], ys, _, _, h => h.symm.eq_nil.symm
  | x :: xs, [], _, _, h => absurd h.length_eq (by simp)
  | x :: xs, y :: ys, hx, hy, h => by
    obtain ⟨x1, x2⟩ := List.pairwise_cons.1 hx
    obtain ⟨y1, y2⟩ := List.pairwise_cons.1 hy
    have a1 : y ≤ x := by
      rcases List.mem_cons.1 (h.mem_iff.1 (List.mem_cons_self (a := x) (l := xs))) with e | hm
      · omega
      · exact y1 x hm
    have a2 : x ≤ y := by
      rcases List.mem_cons.1 (h.mem_iff.2 (List.mem_cons_self (a := y) (l := ys))) with e | hm
      · omega
      · exact x1 y hm
    obtain rfl : x = y := by omega
    rw [ints_unique xs ys x2 y2 h.cons_inv]
theorem ofW_ticks {es es' : List Ev} (h : es.Perm es') (a b c : Int) : (ofW es a b c).map (·.tk) = (ofW es' a b c).map (·.tk) := by
  refine ints_unique _ _ ?_ ?_ ?_
  · rw [List.pairwise_map]; exact stl_srt _
  · rw [List.pairwise_map]; exact stl_srt _
  · exact (((ofW_perm es a b c).trans (h.filter _)).trans (ofW_perm es' a b c).symm).map _
theorem ofW_same_len {es es' : List Ev} (h : es.Perm es') (a b c : Int) : (ofW es a b c).length = (ofW es' a b c).length := by
  have := congrArg List.length (ofW_ticks h a b c)
  simpa using this
theorem ofW_tick_at {es es' : List Ev} (h : es.Perm es') (a b c : Int) {j : Nat} (hj : j < (ofW es a b c).length) : ((ofW es a b c).getD j noEv).tk = ((ofW es' a b c).getD j noEv).tk := by
  have hj' : j < (ofW es' a b c).length := by rw [← ofW_same_len h]; exact hj
  have := congrArg (fun l => l[j]?) (ofW_ticks h a b c)
  simp only [List.getElem?_map, List.getElem?_eq_getElem hj, List.getElem?_eq_getElem hj', Option.map_some, Option.some.injEq] at this
  simpa [hj, hj'] using this

set_option maxRecDepth 100000 in
set_option maxHeartbeats 8000000 in
theorem order_in (b0 off len cap : Nat) (es : List Ev) (y : Option Addr) (m cap' : Nat) (ws : List Int) (t : Nat) (a b c : Int) (w : World) (k : Nat) (ht : t < 256) (hk : (t : Int) % (len : Int) = (k : Int)) (hkl : k < len) (hl : len ≤ 60) (hm60 : m ≤ 60) (hn : es.length = len) (hx : ReadsE w w.heap.size (some ⟨b0, off, none⟩) es) (ho : EvsOk es) (hm : ws.length = m) (hy : Src .u64 w y m cap' ws) (hw : Words ws) :
    Calls Try.prog 5 #[.slice (some ⟨b0, off, none⟩) len cap, .slice y m cap', .int .u8 (t : Int), .int .i64 a, .int .i64 b, .int .i64 c] w fun e w' => e = .returned (.bool true) ∧ Below w.heap.size w w' := by
  have HV := Lib.hid (live10_any w)
  have d1 : decide ((60 : Int) < (len : Int)) = false := by simp; omega
  have d2 : decide ((60 : Int) < (m : Int)) = false := by simp; omega
  have d3 : ((len : Int) == 0) = false := by simp; omega
  have d4 : (len : Int) ≠ 0 := by omega
  have hP := oth_perm (es := es) (k := k) (by omega)
  rw [hn] at hP
  obtain ⟨ot, hot⟩ : ∃ ot, ot = oth es k len := ⟨_, rfl⟩
  have hotl : ot.length = len := by rw [hot, oth_len]
  have hoto : EvsOk ot := by rw [hot]; exact oth_ok ho k len
  rw [← hot] at hP
  have HOT := Lib.hid hot
  have HOL := Lib.hid hotl
  have HX := Lib.hid hx
  have HN := Lib.hid hn
  have HM := Lib.hid hm
  have K1 := Lib.hid (fun W (hB : Below w.heap.size w W) => Strike_ok (some ⟨b0, off, none⟩) len cap es y m cap' ws W (hx.since hB) hn ho (by omega) (hy.keep hB) hw (by omega))
  have K2 := Lib.hid (fun W x' cap2 (hB : Below w.heap.size w W) (hR : ReadsE W W.heap.size x' ot) => Strike_ok x' len cap2 ot y m cap' ws W hR hotl hoto (by omega) (hy.keep hB) hw (by omega))
  rw [← strike_perm hP.symm ws] at K2
  have P1 := Lib.hid (fun W (hB : Below w.heap.size w W) => Sparse_any (some ⟨b0, off, none⟩) len cap es W (hx.since hB) hn ho)
  have P2 := Lib.hid (fun W x' cap2 (hR : ReadsE W W.heap.size x' ot) => Sparse_any x' len cap2 ot W hR hotl hoto)
  rw [spB_ok (by omega), chk_ok (by omega)] at P1
  rw [spB_ok (by omega), chk_ok (by omega), sparse_perm hP] at P2
  have Q1 := Lib.hid (fun W (hB : Below w.heap.size w W) => Quiet_any (some ⟨b0, off, none⟩) len cap es (m : Int) W (hx.since hB) hn ho (by omega))
  have Q2 := Lib.hid (fun W x' cap2 (hR : ReadsE W W.heap.size x' ot) => Quiet_any x' len cap2 ot (m : Int) W hR hotl hoto (by omega))
  rw [qtB_ok (by omega), chk_ok (by omega)] at Q1
  rw [qtB_ok (by omega), chk_ok (by omega), quiet_perm hP] at Q2
  have O1 := Lib.hid (fun W (hB : Below w.heap.size w W) => Of_ok (some ⟨b0, off, none⟩) len cap es a b c W (hx.since hB) hn (by omega))
  have O2 := Lib.hid (fun W x' cap2 (hR : ReadsE W W.heap.size x' ot) => Of_ok x' len cap2 ot a b c W hR hotl (by omega))
  obtain ⟨m5, hm5⟩ : ∃ m5, m5 = (ofW es a b c).length := ⟨_, rfl⟩
  have HL1 : Hid ((ofW es a b c).length = m5) := Lib.hid hm5.symm
  have HL2 : Hid ((ofW ot a b c).length = m5) := Lib.hid ((ofW_same_len hP a b c).trans hm5.symm)
  have HTK : Hid (∀ j, j < m5 → ((ofW es a b c).getD j noEv).tk = ((ofW ot a b c).getD j noEv).tk) := Lib.hid (fun j hj => ofW_tick_at hP.symm a b c (by omega))
  have hm5b : m5 ≤ 60 := by have := own_len es a b c; have := ofW_len es a b c; omega
  have HSL : Hid ((strike es ws).length = m) := Lib.hid (by rw [strike_len, hm])
  obtain ⟨st, hst⟩ : ∃ st, st = strike es ws := ⟨_, rfl⟩
  rw [← hst] at K1 K2 HSL
  obtain ⟨sp, hsp⟩ : ∃ sp, sp = sparse es := ⟨_, rfl⟩
  rw [← hsp] at P1 P2
  obtain ⟨qu, hqu⟩ : ∃ qu, qu = quiet es (m : Int) := ⟨_, rfl⟩
  rw [← hqu] at Q1 Q2
  obtain ⟨x1, hx1⟩ : ∃ x1, x1 = ofW es a b c := ⟨_, rfl⟩
  obtain ⟨x2, hx2⟩ : ∃ x2, x2 = ofW ot a b c := ⟨_, rfl⟩
  rw [← hx1] at O1 HL1 HTK
  rw [← hx2] at O2 HL2 HTK
  clear hx hn ho hm hy hw hP hot hotl hoto hm5 hst hsp hqu hx1 hx2
  go_enter Try.func5, Try.ntmps5
  go_wp2_with (go_at_call 9; refine HV.out.mono ?_; rintro e w1 ⟨rfl, hb1⟩; have B1 := Lib.hid hb1; clear hb1)
  rw [hk]
  clear HV
  go_loopw [14, 55] (fun v i wr => ∃ (i' : Nat) (o : Value), i' ≤ len ∧ i = .int .i64 (i' : Int) ∧ o = v ∧ Hid (OwnsE wr w.heap.size o (oth es k i') ∧ Below w.heap.size w wr)) (fun _ i _ => len - (intOf i).toNat)
  case atStart => exact ⟨0, _, Nat.zero_le _, rfl, rfl, Lib.hid ⟨OwnsE.nil, B1.out⟩⟩
  case round =>
    obtain ⟨i, o, hi, rfl, rfl, HI⟩ := hrel
    by_cases hlt : i < len
    · obtain ⟨bk, of1, e0, hb, hc⟩ := (HX.out.since HI.out.2) (by have := HN.out; omega)
      cases e0
      obtain ⟨s1, hs1⟩ : ∃ s1, s1 = k + len := ⟨_, rfl⟩
      obtain ⟨s2, hs2⟩ : ∃ s2, s2 = s1 - i := ⟨_, rfl⟩
      obtain ⟨j, hj⟩ : ∃ j, j = s2 % len := ⟨_, rfl⟩
      have hjl : j < len := by rw [hj]; exact Nat.mod_lt _ (by omega)
      have g1 : (k : Int) + (len : Int) = (s1 : Int) := by omega
      have g2 : (s1 : Int) - (i : Int) = (s2 : Int) := by omega
      have g3 : (s2 : Int) % (len : Int) = (j : Int) := by rw [hj]; simp
      have gb1 : s1 ≤ 120 := by omega
      have gb2 : s2 ≤ 120 := by omega
      have hcu := hc j (by have := HN.out; omega)
      obtain ⟨u, hu⟩ : ∃ u, u = es.getD j noEv := ⟨_, rfl⟩
      have HT : Hid (oth es k (i + 1) = oth es k i ++ [u]) := Lib.hid (by rw [oth_snoc, HN.out, ← hs1, ← hs2, ← hj, hu])
      rw [← hu] at hcu
      have HOwn := Lib.hid HI.out.1.ownBlock
      have HLo := Lib.hid (oth_len es k i)
      clear hc hu hs1 hs2 hj
      have HS1 := Lib.hid (SrcE.one wr u)
      obtain ⟨e1, e2, e3, e4, e5, e6⟩ := u
      obtain ⟨c0, c1, c2, c3, c4, c5⟩ := hcu
      unfold evO at HS1
      dsimp only at HS1 c0 c1 c2 c3 c4 c5
      go_wp2_with (at_builtin; refine wpList_append_ev rfl _ _ rfl w.heap.size o _ rfl (HI.out.1.alloc _) _ 1 1 _ rfl HS1.out (by rw [HLo.out]; omega) (below_al HI.out.2 _).size ?_; intro v' w3 hO3 hg3)
      go_roundw
      case rel => exact ⟨i + 1, v', by omega, by go_num, rfl, Lib.hid ⟨by rw [HT.out]; exact hO3, (below_al HI.out.2 _).grown hg3 (below_al HI.out.2 _).size HOwn.out⟩⟩
      case measure => simp [intOf]; omega
    · obtain rfl : len = i := by omega
      have hI := HI.out
      rw [← HOT.out] at hI
      obtain ⟨yo, co, rfl, -, -, hRo, -⟩ := hI.1.form
      rw [HOL.out]
      have B2 := Lib.hid hI.2
      have RO := Lib.hid hRo
      clear HI hI hRo HOT B1
      go_wp2_with (first
        | (go_at_call 16; refine (K1.out _ B2.out).mono ?_; rintro e w3 hr3; obtain ⟨xa, ca, rfl, hRa, -, -, hb3⟩ := hr3.open; rw [HSL.out]; have RA := Lib.hid (fun W (h : Below w3.heap.size w3 W) => (hRa.below h).more h.size); have B3 := Lib.hid (below_on B2.out hb3); have D3 := Lib.hid hb3; clear hr3 hRa hb3 K1)
        | (go_at_call 16; refine (K2.out _ _ _ B3.out (RO.out.since D3.out)).mono ?_; rintro e w4 hr4; obtain ⟨xb, cb, rfl, hRb, -, -, hb4⟩ := hr4.open; rw [HSL.out]; have RB := Lib.hid (fun W (h : Below w4.heap.size w4 W) => (hRb.below h).more h.size); have B4 := Lib.hid (below_on B3.out hb4); have D4 := Lib.hid (below_on D3.out hb4); have F4 := Lib.hid hb4; clear hr4 hRb hb4 K2)
        | (go_at_call 12; refine (P1.out _ B4.out).mono ?_; rintro e w5 ⟨rfl, hb5⟩; have B5 := Lib.hid (below_on B4.out hb5); have D5 := Lib.hid (below_on D4.out hb5); have F5 := Lib.hid hb5; clear hb5 P1)
        | (go_at_call 12; refine (P2.out _ _ _ (RO.out.since D5.out)).mono ?_; rintro e w6 ⟨rfl, hb6⟩; have B6 := Lib.hid (below_on B5.out hb6); have D6 := Lib.hid (below_on D5.out hb6); have F6 := Lib.hid (below_on F5.out hb6); clear hb6 P2)
        | (go_at_call 14; refine (Q1.out _ B6.out).mono ?_; rintro e w7 ⟨rfl, hb7⟩; have B7 := Lib.hid (below_on B6.out hb7); have D7 := Lib.hid (below_on D6.out hb7); have F7 := Lib.hid (below_on F6.out hb7); clear hb7 Q1)
        | (go_at_call 14; refine (Q2.out _ _ _ (RO.out.since D7.out)).mono ?_; rintro e w8 ⟨rfl, hb8⟩; have B8 := Lib.hid (below_on B7.out hb8); have D8 := Lib.hid (below_on D7.out hb8); have F8 := Lib.hid (below_on F7.out hb8); clear hb8 Q2)
        | (go_at_call 10; refine (O1.out _ B8.out).mono ?_; rintro e w9 hr9; obtain ⟨xc, cc, rfl, hRc, -, -, hb9⟩ := hr9.open; rw [HL1.out]; have RC := Lib.hid hRc; have B9 := Lib.hid (below_on B8.out hb9); have D9 := Lib.hid (below_on D8.out hb9); have F9 := Lib.hid (below_on F8.out hb9); clear hb9 hr9 hRc O1)
        | (go_at_call 10; refine (O2.out _ _ _ (RO.out.since D9.out)).mono ?_; rintro e w10 hr10; obtain ⟨xd, cd, rfl, hRd, -, -, hb10⟩ := hr10.open; rw [HL2.out]; have RD := Lib.hid hRd; have RC' := Lib.hid (RC.out.since hb10); have B10 := Lib.hid (below_on B9.out hb10); have D10 := Lib.hid (below_on D9.out hb10); have F10 := Lib.hid (below_on F9.out hb10); clear hb10 hr10 hRd O2))
      have HA := Lib.hid (RA.out w10 (below_on F4.out F10.out))
      have HB := Lib.hid (RB.out w10 F10.out)
      clear RO RC HX
      go_loopw [163] (fun i wr => ∃ j : Nat, j ≤ m5 ∧ i = .int .i64 (j : Int) ∧ Hid (Below w10.heap.size w10 wr)) (fun i _ => m5 - (intOf i).toNat)
      case atStart => exact ⟨0, Nat.zero_le _, rfl, Lib.hid (Below.refl _ _)⟩
      case round =>
        obtain ⟨j, hj, rfl, HI⟩ := hrel
        by_cases hltj : j < m5
        · obtain ⟨bc, oc, rfl, hbc, hcc⟩ := (RC'.out.since HI.out) (by have := HL1.out; omega)
          obtain ⟨bd, od, rfl, hbd, hcd⟩ := (RD.out.since HI.out) (by have := HL2.out; omega)
          have k1 := (hcc j (by have := HL1.out; omega)).2.2.2.1
          have k2 := (hcd j (by have := HL2.out; omega)).2.2.2.1
          have htk := HTK.out j hltj
          rw [← htk] at k2
          obtain ⟨tk, htk'⟩ : ∃ tk, tk = (x1.getD j noEv).tk := ⟨_, rfl⟩
          rw [← htk'] at k1 k2
          clear hcc hcd htk htk'
          go_wp2
          go_quiet (fail)
          go_wp2
          go_roundw
          case rel => exact ⟨j + 1, by omega, by go_num, Lib.hid (below_draws HI.out _)⟩
          case measure => simp [intOf]; omega
        · have HE : Hid (Below w.heap.size w wr) := Lib.hid (below_on B10.out HI.out)
          have HSm := Lib.hid (sameW_any xa xb m m ca cb st st wr wr.heap.size ((HA.out.below HI.out).more HI.out.size) ((HB.out.below HI.out).more HI.out.size) HSL.out HSL.out (by omega) (by omega))
          rw [decide_eq_true rfl] at HSm
          clear RC' RD HI
          go_wp2_with (go_at_call 19; refine HSm.out.mono ?_; rintro e w11 ⟨rfl, nd, rfl⟩)
          go_ret
          exact ⟨by simp, below_draws HE.out _⟩

set_option maxRecDepth 100000 in
set_option maxHeartbeats 1000000 in
theorem walk_ScriptOrder (x : Option Addr) (len cap : Nat) (es : List Ev) (y : Option Addr) (m cap' : Nat) (zs : List Int) (t a b c : Int) (w : World) (hE : EventIn w x len cap es) (_hlb : len ≤ 2932031007403) (hr : RowIn .u64 w y m cap' zs) (ht : (Lit.int .u8 t).wf = true) (_ha : (Lit.int .i64 a).wf = true) (_hb : (Lit.int .i64 b).wf = true) (_hc : (Lit.int .i64 c).wf = true) :
    Calls Try.prog 5 #[.slice x len cap, .slice y m cap', .int .u8 t, .int .i64 a, .int .i64 b, .int .i64 c] w fun e w' => e = .returned (.bool true) ∧ Below w.heap.size w w' := by
  obtain ⟨hn, hc1, hc2, hx, ho⟩ := hE
  obtain ⟨ws, hws, hm, hcp, hml, hy, hw⟩ := hr.reads
  have hsy := hr.src
  rw [← hws] at hsy
  have HV := Lib.hid (live10_any w)
  by_cases h1 : 60 < len
  · have hd : decide (60 < (len : Int)) = true := by simp; omega
    clear hx ho hy hw hsy hr hws
    go_enter Try.func5, Try.ntmps5
    go_wp2_with (go_at_call 9; refine HV.out.mono ?_; rintro e w1 ⟨rfl, hb1⟩)
    go_ret
    exact ⟨rfl, hb1⟩
  · have hd : decide (60 < (len : Int)) = false := by simp; omega
    by_cases h2 : 60 < m
    · have hd2 : decide (60 < (m : Int)) = true := by simp; omega
      clear hx ho hy hw hsy hr hws
      go_enter Try.func5, Try.ntmps5
      go_wp2_with (go_at_call 9; refine HV.out.mono ?_; rintro e w1 ⟨rfl, hb1⟩)
      go_ret
      exact ⟨rfl, hb1⟩
    · have hd2 : decide (60 < (m : Int)) = false := by simp; omega
      by_cases h3 : len = 0
      · have hd3 : ((len : Int) == 0) = true := by simp; omega
        clear hx ho hy hw hsy hr hws hn h3
        go_enter Try.func5, Try.ntmps5
        go_wp2_with (go_at_call 9; refine HV.out.mono ?_; rintro e w1 ⟨rfl, hb1⟩)
        go_ret
        exact ⟨rfl, hb1⟩
      · obtain ⟨t0, t1⟩ := u8_of ht
        obtain ⟨tn, rfl⟩ : ∃ tn : Nat, t = (tn : Int) := ⟨t.toNat, by omega⟩
        obtain ⟨b0, off, rfl, -, -⟩ := hx (by omega)
        exact order_in b0 off len cap es y m cap' ws tn a b c w (tn % len) (by omega) (by simp) (Nat.mod_lt _ (by omega)) (by omega) (by omega) hn hx ho hm hsy hw

end Go.Proofs.Ytbdcpjpdonednaa
