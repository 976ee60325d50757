/-
  The walk of ScriptFar: of sparse events each window has one at the most, and none if the window ahead has one; without one of them they are sparse as well; with one of them twice they are not.
-/
import Derived.Test.YtbdcpjpdonednaaMathFar
import Derived.Test.YtbdcpjpdonednaaRefOf
import Derived.Test.YtbdcpjpdonednaaScriptLive
import Derived.Deep.RegionLaw
import Derived.Deep.CutRange
namespace Go.Proofs.Ytbdcpjpdonednaa
open Go.RowKit Go.Shelf

/-- append(xs, ys...) where it comes up in a region that draws its order: xs a row of the call's own, ys a slice with an address. -/
theorem step_append_ev {w : World} {ops : Array Oper} {o : Oper} {a : Act} {K : Act → World → Prop} {Q : Exit → Act → World → Prop} {E : Prop} (hw : Region.wanted o (yielded ops a.tmps) = true) (s x : Operand)
    (ho : o.op = .call { callee := .builtin .append, args := #[s, x], argTypes := #[22, 22] }) (base : Nat)
    (v : Value) (es : List Ev) (hs : a.eval s = v) (hown : OwnsE w base v es) (ad : Addr) (n cap : Nat) (ys : List Ev) (hx : a.eval x = .slice (some ad) n cap) (hsrc : SrcE w (some ad) n cap ys) (hb : es.length + n ≤ 1000000) (hbase : base ≤ w.heap.size)
    (h : ∀ v' w', OwnsE w' base v' (es ++ ys) → w.grownBy w' v.ownBlock → K (a.put o.dst v') w') : if Region.wanted o (yielded ops a.tmps) = true then Oper.wp Try.prog o a w K Q else E := by
  rw [if_pos hw]
  obtain ⟨i0, hi, hz0, hz1, hz2⟩ := info_parts info_ev
  obtain ⟨rfl, ⟨h0, _⟩ | ⟨ad', e', hc⟩⟩ := hsrc
  · cases h0
  · cases e'
    refine wp_append_own w s x _ ho base 38 i0 (.agg #[.int .i64 0, .int .i64 0, .int .i64 0, .int .i64 0, .int .i64 0, .int .u64 0]) 6 48 Try.underlying22 hi hz0 hz1 hz2 rfl (by decide) v es.length (es.flatMap evc) hs hown ad ys.length cap (ys.flatMap evc) hx (flatE_len ys) hc (one_evc ys) (by unfold maxLen; omega) (by omega) hbase ?_
    intro v' w' hown' hg _
    refine h v' w' ?_ hg
    unfold OwnsE
    rw [List.length_append, List.flatMap_append]
    exact hown'

set_option maxRecDepth 100000 in
set_option maxHeartbeats 16000000 in
theorem far_in (b0 off len cap : Nat) (es : List Ev) (t : Nat) (w : World) (k : Nat) (ht : t < 256) (hk : (t : Int) % (len : Int) = (k : Int)) (hkl : k < len) (hl : len ≤ 60) (hcap : len ≤ cap) (hcm : cap ≤ maxLen) (hn : es.length = len) (hx : ReadsE w w.heap.size (some ⟨b0, off, none⟩) es) (ho : EvsOk es) :
    Calls Try.prog 7 #[.slice (some ⟨b0, off, none⟩) len cap, .int .u8 (t : Int)] w fun e w' => e = .returned (.bool true) ∧ Below w.heap.size w w' := by
  have HV := Lib.hid (live10_any w)
  have d1 : decide ((60 : Int) < (len : Int)) = false := by simp; omega
  have d3 : ((len : Int) == 0) = false := by simp; omega
  have d4 : (len : Int) ≠ 0 := by omega
  have HX := Lib.hid hx
  have HN := Lib.hid hn
  have P1 := Lib.hid (fun W (hB : Below w.heap.size w W) => Sparse_any (some ⟨b0, off, none⟩) len cap es W (hx.since hB) hn ho)
  rw [spB_ok (by omega), chk_ok (by omega)] at P1
  obtain ⟨sp, hsp⟩ : ∃ sp, sp = sparse es := ⟨_, rfl⟩
  rw [← hsp] at P1
  have HSP := Lib.hid hsp
  obtain ⟨u, hu⟩ : ∃ u, u = es.getD k noEv := ⟨_, rfl⟩
  have hmem : u ∈ es := by rw [hu, List.getD_eq_getElem?_getD, List.getElem?_eq_getElem (by omega)]; exact List.getElem_mem _
  obtain ⟨n1, hn1⟩ : ∃ n1, n1 = len + 1 := ⟨_, rfl⟩
  have HL1 : Hid (([] ++ es ++ [u]).length = n1) := Lib.hid (by simp [hn, hn1])
  have P2 := Lib.hid (fun W x' cap2 (hR : ReadsE W W.heap.size x' ([] ++ es ++ [u])) => Sparse_any x' n1 cap2 ([] ++ es ++ [u]) W hR HL1.out (by
    intro s hs
    simp at hs
    rcases hs with h | h
    · exact ho s h
    · rw [h]; exact ho u hmem))
  rw [spB_ok (by rw [HL1.out]; omega), chk_ok (by omega), List.nil_append, sparse_twice hmem] at P2
  have HAt : Hid (∀ W, Below w.heap.size w W → EvAt W b0 (off + k * 6) u) := Lib.hid (fun W hB => by
    obtain ⟨b', o', e, hb', hc⟩ := (hx.since hB) (by omega)
    cases e
    rw [hu]
    exact hc k (by omega))
  have HSx : Hid (∀ W, Below w.heap.size w W → SrcE W (some ⟨b0, off, none⟩) len cap es) := Lib.hid (fun W hB => SrcE.addr (hx.since hB) hn)
  have HO := Lib.hid ho
  have HCP := Lib.hid (show len ≤ cap ∧ cap ≤ maxLen from ⟨hcap, hcm⟩)
  have hn1b : n1 ≤ 61 := by omega
  clear hx hn ho hsp hu hmem hn1 hcm
  obtain ⟨e1, e2, e3, e4, e5, e6⟩ := u
  go_enter Try.func7, Try.ntmps7
  go_wp2_with (first
    | (go_at_call 9; refine HV.out.mono ?_; rintro e w1 ⟨rfl, hb1⟩; have B1 := Lib.hid hb1; clear hb1)
    | (go_at_call 12; refine (P1.out _ B1.out).mono ?_; rintro e w2 ⟨rfl, hb2⟩; have B2 := Lib.hid (below_on B1.out hb2); clear hb2 P1))
  try rw [hk]
  clear hk HV B1
  have HBd := Lib.hid (below_draws B2.out 1)
  have HBa := Lib.hid (below_al HBd.out (.cells #[.int .i64 e1, .int .i64 e2, .int .i64 e3, .int .i64 e4, .int .i64 e5, .int .u64 e6] 38))
  go_cut [8, 9] from 40 to 51 (fun v v' wx => v = .bool false ∧ v' = .int .i64 0 ∧ Hid (Below w.heap.size w wx))
  case first =>
    obtain ⟨c0, c1, c2, c3, c4, c5⟩ := HAt.out _ B2.out
    dsimp only at c0 c1 c2 c3 c4 c5
    have kn : ((k : Int)).toNat = k := by omega
    have kw : IntKind.i64.wrap ((k : Int)) = (k : Int) := by rw [IntKind.wrap_i64]; omega
    have kl : (k : Int) < (len : Int) := by omega
    clear HCP HO HX HSP d1 d3 d4
    go_region_law (first
      | (refine step_append_ev (by rfl) (.const (.slice none 0 0)) (.tmp 41) (by rfl) w.heap.size (.slice none 0 0) [] (by rfl) OwnsE.nil ⟨b0, off, none⟩ len cap es (by rfl) (HSx.out _ (by first | exact HBd.out | exact HBa.out)) (by simp; omega) (by first | exact HBd.out.size | exact HBa.out.size) ?_; intro v3 w3 hO3 hg3; have HO3 := Lib.hid hO3; have HB3 : Hid (Below w.heap.size w w3) := Lib.hid (by first | exact HBd.out.grown hg3 HBd.out.size (fun g e => by cases e) | exact HBa.out.grown hg3 HBa.out.size (fun g e => by cases e)); have HG3 := Lib.hid hg3; obtain ⟨q0, q1, q2, q3, q4, q5⟩ := HAt.out _ HB3.out; dsimp only at q0 q1 q2 q3 q4 q5; clear hO3 hg3)
      | (refine step_append_ev (by rfl) (.tmp 42) (.tmp 47) (by rfl) w.heap.size v3 _ (by rfl) (HO3.out.alloc _) ⟨w3.heap.size, 0, none⟩ 1 1 [⟨e1, e2, e3, e4, e5, e6⟩] (by rfl) (SrcE.one w3 ⟨e1, e2, e3, e4, e5, e6⟩) (by have := HN.out; simp; omega) (below_al HB3.out _).size ?_; intro v5 w5 hO5 hg5; have HB5 := Lib.hid ((below_al HB3.out (evO ⟨e1, e2, e3, e4, e5, e6⟩)).grown hg5 (below_al HB3.out _).size HO3.out.ownBlock); obtain ⟨y5, k5, rfl, -, -, hR5, -⟩ := hO5.form; rw [HL1.out]; have R5 := Lib.hid hR5; clear hR5 hO5 hg5)
      | (refine step_append_ev (by rfl) (.tmp 42) (.tmp 47) (by rfl) w.heap.size v3 _ (by rfl) HO3.out ⟨w2.heap.size, 0, none⟩ 1 1 [⟨e1, e2, e3, e4, e5, e6⟩] (by rfl) ((SrcE.one w2.drew ⟨e1, e2, e3, e4, e5, e6⟩).keep ((Below.refl _ _).grown HG3.out (Nat.le_refl _) (fun g e => by cases e))) (by have := HN.out; simp; omega) HB3.out.size ?_; intro v5 w5 hO5 hg5; have HB5 := Lib.hid (HB3.out.grown hg5 HB3.out.size HO3.out.ownBlock); obtain ⟨y5, k5, rfl, -, -, hR5, -⟩ := hO5.form; rw [HL1.out]; have R5 := Lib.hid hR5; clear hR5 hO5 hg5)
      | (go_simp; go_at_call 12; refine (P2.out _ _ _ R5.out).mono ?_; rintro e w6 ⟨rfl, hb6⟩; have B6 := Lib.hid (below_on HB5.out hb6); clear hb6))
    all_goals
      go_wp2
      go_meet
      case rel => exact ⟨rfl, rfl, B6⟩
  case rest =>
    obtain ⟨rfl, rfl, B6⟩ := hcut
    clear HBd HBa HAt HSx HL1 P2 B2
    cases sp with
    | false =>
      clear HX HO HCP
      go_wp2
      go_ret
      exact ⟨rfl, B6.out⟩
    | true =>
      have HS : Hid (Sparse es) := Lib.hid (sparse_iff.1 HSP.out.symm)
      obtain ⟨k1, hk1⟩ : ∃ k1, k1 = k + 1 := ⟨_, rfl⟩
      have ek : (k : Int) + 1 = (k1 : Int) := by omega
      obtain ⟨n2, hn2⟩ : ∃ n2, n2 = len - 1 := ⟨_, rfl⟩
      have HL2 : Hid (([] ++ es.take k ++ es.drop k1).length = n2) := Lib.hid (by have := HN.out; simp; omega)
      have P3 := Lib.hid (fun W x' cap2 (hR : ReadsE W W.heap.size x' ([] ++ es.take k ++ es.drop k1)) => Sparse_any x' n2 cap2 ([] ++ es.take k ++ es.drop k1) W hR HL2.out (by
        intro s hs
        simp at hs
        rcases hs with h | h
        · exact HO.out s (List.mem_of_mem_take h)
        · exact HO.out s (List.mem_of_mem_drop h)))
      rw [spB_ok (by rw [HL2.out]; omega), chk_ok (by omega), List.nil_append, hk1, sparse_less k HSP.out.symm, ← hk1] at P3
      have hkc : k ≤ cap := by omega
      have hk1c : k1 ≤ cap := by omega
      have hk1l : k1 ≤ len := by omega
      have hkk : k ≤ len := by omega
      have HS1 : Hid (∀ W, Below w.heap.size w W → SrcE W (some ⟨b0, off, none⟩) k cap (es.take k)) := Lib.hid (fun W hB => SrcE.addr ((HX.out.since hB).take k) (by rw [List.length_take]; have := HN.out; omega))
      obtain ⟨ad2, hif⟩ : ∃ ad2, (if cap = k1 then some (⟨b0, off, none⟩ : Addr) else some ⟨b0, off + k1 * 6, none⟩) = some ad2 := by
        split
        · exact ⟨_, rfl⟩
        · exact ⟨_, rfl⟩
      have HS2 : Hid (∀ W, Below w.heap.size w W → SrcE W (some ad2) (len - k1) (cap - k1) (es.drop k1)) := Lib.hid (fun W hB => by
        have h := (HX.out.since hB).behind (cap := cap) (by have := HN.out; omega) k1
        rw [hif] at h
        exact SrcE.addr h (by rw [List.length_drop, HN.out]))
      have HKL : Hid ((es.take k).length = k ∧ k1 = k + 1) := Lib.hid ⟨by rw [List.length_take]; have := HN.out; omega, hk1⟩
      have hcb : cap ≤ 9223372036854775807 := HCP.out.2
      clear hk1 hn2
      go_wp2
      have HBd := Lib.hid (below_draws B6.out 1)
      go_cut [10, 11] from 59 to 71 (fun v v' wx => v = .bool true ∧ v' = .int .i64 0 ∧ Hid (Below w.heap.size w wx))
      case first =>
        have kw1 : IntKind.i64.wrap ((k1 : Int)) = (k1 : Int) := by rw [IntKind.wrap_i64]; omega
        have kn1 : ((k1 : Int)).toNat = k1 := by omega
        have kp1 : (0 : Int) ≤ (k1 : Int) := by omega
        have kl1 : (k1 : Int) ≤ (len : Int) := by omega
        clear HCP HO HX HSP d1 d3 d4 HS
        go_region_law (first
          | (refine step_append_ev (by rfl) (.const (.slice none 0 0)) (.tmp 62) (by rfl) w.heap.size (.slice none 0 0) [] (by rfl) OwnsE.nil ⟨b0, off, none⟩ k cap (es.take k) (by rfl) (HS1.out _ HBd.out) (by simp; omega) HBd.out.size ?_; intro v3 w3 hO3 hg3; have HO3 := Lib.hid hO3; have HB3 : Hid (Below w.heap.size w w3) := Lib.hid (HBd.out.grown hg3 HBd.out.size (fun g e => by cases e)); clear hO3 hg3)
          | (refine step_append_ev (by rfl) (.tmp 63) (.tmp 67) (by rfl) w.heap.size v3 _ (by rfl) HO3.out ad2 (len - k1) (cap - k1) (es.drop k1) (by rfl) (HS2.out _ HB3.out) (by have := HKL.out; simp only [List.nil_append]; omega) HB3.out.size ?_; intro v5 w5 hO5 hg5; have HB5 := Lib.hid (HB3.out.grown hg5 HB3.out.size HO3.out.ownBlock); obtain ⟨y5, k5, rfl, -, -, hR5, -⟩ := hO5.form; rw [HL2.out]; have R5 := Lib.hid hR5; clear hR5 hO5 hg5)
          | (go_simp; go_at_call 12; refine (P3.out _ _ _ R5.out).mono ?_; rintro e w6 ⟨rfl, hb6⟩; have B7 := Lib.hid (below_on HB5.out hb6); clear hb6))
        all_goals
          go_wp2
          go_meet
          case rel => exact ⟨rfl, rfl, B7⟩
      case rest =>
        obtain ⟨rfl, rfl, B7⟩ := hcut
        clear HBd HS1 HS2 HL2 P3 HKL hif HCP HSP B6
        have HOf := Lib.hid (fun p q r W (hB : Below w.heap.size w W) => Of_ok (some ⟨b0, off, none⟩) len cap es p q r W (HX.out.since hB) HN.out (by omega))
        go_wp2
        go_loopw [80] (fun i wr => ∃ j : Nat, j ≤ len ∧ i = .int .i64 (j : Int) ∧ Hid (Below w.heap.size w wr)) (fun i _ => len - (intOf i).toNat)
        case atStart => exact ⟨0, Nat.zero_le _, rfl, B7⟩
        case round =>
          clear B7
          obtain ⟨j, hj, rfl, HI⟩ := hrel
          by_cases hlt : j < len
          · obtain ⟨b', o', e0, hb', hc⟩ := (HX.out.since HI.out) (by have := HN.out; omega)
            cases e0
            have hcu := hc j (by have := HN.out; omega)
            obtain ⟨u, hu⟩ : ∃ u, u = es.getD j noEv := ⟨_, rfl⟩
            have hmem : u ∈ es := by rw [hu, List.getD_eq_getElem?_getD, List.getElem?_eq_getElem (by have := HN.out; omega)]; exact List.getElem_mem _
            rw [← hu] at hcu
            have HC1 := Lib.hid (HOf.out u.it u.tr u.wn (wr.alloc (evO u)) (below_al HI.out _))
            rw [ofW_one HS.out hmem] at HC1
            have HC2 := Lib.hid (fun W (hB : Below w.heap.size w W) => HOf.out u.it u.tr (u.wn + 1) W hB)
            rw [ofW_next HS.out hmem] at HC2
            have hok := (HO.out u hmem).2.2.1
            have HBx0 : Hid (∀ W, Below (wr.alloc (evO u)).heap.size (wr.alloc (evO u)) W → EvAt W wr.heap.size 0 u) := Lib.hid (fun W hB => (EvAt.new wr u 38).below hB)
            have HBB : Hid (∀ W, Below (wr.alloc (evO u)).heap.size (wr.alloc (evO u)) W → Below w.heap.size w W) := Lib.hid (fun W hB => below_on (below_al HI.out _) hB)
            have hne := fun w => neq_ev u u w
            rw [decide_eq_true rfl] at hne
            have g1 := run_eqGuard_agg (P := Try.prog) (hm := ev_guard)
            clear hc hu hmem HI
            obtain ⟨a1, a2, a3, a4, a5, a6⟩ := u
            obtain ⟨c0, c1, c2, c3, c4, c5⟩ := hcu
            unfold evO at HC1 HBx0 HBB
            unfold evV at hne
            dsimp only at HC1 HC2 HBx0 HBB c0 c1 c2 c3 c4 c5 hok hne
            obtain ⟨ok1, ok2⟩ := hok
            go_wp2_with (go_at_call 10; refine HC1.out.mono ?_; rintro e w5 hr5; obtain ⟨y5, k5, rfl, hR5, -, -, hb5⟩ := hr5.open; obtain ⟨b5, o5, rfl, -, hc5⟩ := hR5 (by simp); obtain ⟨q0, q1, q2, q3, q4, q5⟩ := hc5 0 (by simp); obtain ⟨p0, p1, p2, p3, p4, p5⟩ := HBx0.out _ hb5; have B5 := Lib.hid (HBB.out _ hb5); clear hb5 hR5 hr5 hc5 HBB HBx0 HC1)
            simp only [List.getD_cons_zero, Nat.zero_mul, Nat.add_zero, Nat.zero_add] at q0 q1 q2 q3 q4 q5 p0 p1 p2 p3 p4 p5
            go_quiet (fail)
            obtain ⟨W6, hW6⟩ : ∃ W6, W6 = w5.drewN nq := ⟨_, rfl⟩
            have B6 := Lib.hid (below_draws B5.out nq)
            rw [← hW6] at B6 ⊢
            have p0' : W6.cell? ⟨wr.heap.size, 0, none⟩ = some (.int .i64 a1) := by rw [hW6]; exact p0
            have p1' : W6.cell? ⟨wr.heap.size, 1, none⟩ = some (.int .i64 a2) := by rw [hW6]; exact p1
            have p2' : W6.cell? ⟨wr.heap.size, 2, none⟩ = some (.int .i64 a3) := by rw [hW6]; exact p2
            clear hW6 p0 p1 p2 p3 p4 p5 q0 q1 q2 q3 q4 q5 hne g1 B5 c0 c1 c2 c3 c4 c5
            by_cases hmax : a3 < 9223372036854775807
            · have HC3 := Lib.hid (HC2.out W6 B6.out)
              clear HC2
              go_wp2_with (go_at_call 10; refine HC3.out.mono ?_; rintro e w7 hr7; obtain ⟨y7, k7, rfl, -, -, -, hb7⟩ := hr7.open; have B8 := Lib.hid (below_on B6.out hb7); clear hb7 hr7)
              go_roundw
              case rel => exact ⟨j + 1, by omega, by go_num, B8⟩
              case measure => simp [intOf]; omega
            · clear HC2
              go_wp2
              go_roundw
              case rel => exact ⟨j + 1, by omega, by go_num, B6⟩
              case measure => simp [intOf]; omega
          · clear HX HOf
            go_wp2
            go_ret
            exact ⟨rfl, HI.out⟩

set_option maxRecDepth 100000 in
set_option maxHeartbeats 1000000 in
theorem walk_ScriptFar (x : Option Addr) (len cap : Nat) (es : List Ev) (t : Int) (w : World) (hE : EventIn w x len cap es) (_hlb : len ≤ 2932031007403) (ht : (Lit.int .u8 t).wf = true) :
    Calls Try.prog 7 #[.slice x len cap, .int .u8 t] w fun e w' => e = .returned (.bool true) ∧ Below w.heap.size w w' := by
  obtain ⟨hn, hc1, hc2, hx, ho⟩ := hE
  have HV := Lib.hid (live10_any w)
  by_cases h1 : 60 < len
  · have hd : decide (60 < (len : Int)) = true := by simp; omega
    clear hx ho
    go_enter Try.func7, Try.ntmps7
    go_wp2_with (go_at_call 9; refine HV.out.mono ?_; rintro e w1 ⟨rfl, hb1⟩)
    go_ret
    exact ⟨rfl, hb1⟩
  · have hd : decide (60 < (len : Int)) = false := by simp; omega
    by_cases h3 : len = 0
    · have hd3 : ((len : Int) == 0) = true := by simp; omega
      clear hx ho hn h3
      go_enter Try.func7, Try.ntmps7
      go_wp2_with (go_at_call 9; refine HV.out.mono ?_; rintro e w1 ⟨rfl, hb1⟩)
      go_ret
      exact ⟨rfl, hb1⟩
    · obtain ⟨t0, t1⟩ := u8_of ht
      obtain ⟨tn, rfl⟩ : ∃ tn : Nat, t = (tn : Int) := ⟨t.toNat, by omega⟩
      obtain ⟨b0, off, rfl, -, -⟩ := hx (by omega)
      exact far_in b0 off len cap es tn w (tn % len) (by omega) (by simp) (Nat.mod_lt _ (by omega)) (by omega) hc1.1 hc2 hn hx ho

end Go.Proofs.Ytbdcpjpdonednaa
