/-
  The walk of ScriptParts: each event is in the Of of its own window, as often as it stands there, in order of ticks.
-/
import Derived.Test.YtbdcpjpdonednaaAppE
import Derived.Test.YtbdcpjpdonednaaScriptLive
namespace Go.Proofs.Ytbdcpjpdonednaa
open Go.RowKit

/-- How often y stands in a list. -/
def cnt (y : Ev) (l : List Ev) : Nat := (l.filter fun z => decide (z = y)).length
theorem cnt_snoc (y : Ev) (l : List Ev) (z : Ev) : cnt y (l ++ [z]) = cnt y l + if z = y then 1 else 0 := by
  unfold cnt
  rw [List.filter_append, List.length_append]
  by_cases h : z = y <;> simp [h]
theorem cnt_le (y : Ev) (l : List Ev) : cnt y l ≤ l.length := List.length_filter_le _ _
theorem inW_at {a b c : Int} {y : Ev} (h : inW a b c y = true) : y.it = a ∧ y.tr = b ∧ y.wn = c := by
  unfold inW at h
  simp only [Bool.and_eq_true, beq_iff_eq] at h
  exact ⟨h.1.1, h.1.2, h.2⟩
theorem ofW_in {es : List Ev} {a b c : Int} {y : Ev} (h : y ∈ ofW es a b c) : inW a b c y = true := (List.mem_filter.1 ((ofW_perm es a b c).mem_iff.1 h)).2
theorem ofW_cnt {es : List Ev} {a b c : Int} {y : Ev} (h : y ∈ ofW es a b c) : cnt y (ofW es a b c) = cnt y es := by
  have hi := ofW_in h
  have h1 : cnt y (ofW es a b c) = cnt y (own es a b c) := ((ofW_perm es a b c).filter _).length_eq
  rw [h1]
  unfold cnt own
  rw [List.filter_filter]
  congr 2
  funext z
  by_cases e : z = y
  · subst e; simp [hi]
  · simp [e]
theorem getD_mem {l : List Ev} {j : Nat} (h : j < l.length) : l.getD j noEv ∈ l := by
  rw [List.getD_eq_getElem?_getD, List.getElem?_eq_getElem h]
  exact List.getElem_mem h
theorem ofW_tick (es : List Ev) (a b c : Int) {j : Nat} (h0 : 0 < j) (h : j < (ofW es a b c).length) : ((ofW es a b c).getD (j - 1) noEv).tk ≤ ((ofW es a b c).getD j noEv).tk := by
  have hs := stl_srt (own es a b c)
  have := (List.pairwise_iff_getElem.1 hs) (j - 1) j (by show j - 1 < (ofW es a b c).length; omega) h (by omega)
  rw [List.getD_eq_getElem?_getD, List.getD_eq_getElem?_getD, List.getElem?_eq_getElem h, List.getElem?_eq_getElem (show j - 1 < (ofW es a b c).length by omega)]
  exact this

set_option maxRecDepth 100000 in
set_option maxHeartbeats 16000000 in
theorem walk_ScriptParts (x : Option Addr) (len cap : Nat) (es : List Ev) (a b c : Int) (w : World) (hE : EventIn w x len cap es) (_hlb : len ≤ 2932031007403) (_ha : (Lit.int .i64 a).wf = true) (_hb : (Lit.int .i64 b).wf = true) (_hc : (Lit.int .i64 c).wf = true) :
    Calls Try.prog 6 #[.slice x len cap, .int .i64 a, .int .i64 b, .int .i64 c] w fun e w' => e = .returned (.bool true) ∧ Below w.heap.size w w' := by
  have hsrc := hE.src
  obtain ⟨hn, hc1, hc2, hx, ho⟩ := hE
  have HV := Lib.hid (live10_any w)
  clear _hlb _ha _hb _hc hc1 hc2 ho
  by_cases h1 : 60 < len
  · have hd : decide (60 < (len : Int)) = true := by simp; omega
    clear hx hsrc
    go_enter Try.func6, Try.ntmps6
    go_wp2_with (go_at_call 9; refine HV.out.mono ?_; rintro e w1 ⟨rfl, hb1⟩)
    go_ret
    exact ⟨rfl, hb1⟩
  · have hd : decide (60 < (len : Int)) = false := by simp; omega
    have hmx : Try.prog.follows .mixedOrders = true := by kernel_rfl
    have HX := Lib.hid hx
    have HN := Lib.hid hn
    have HSrc := Lib.hid (fun W (hB : Below w.heap.size w W) => hsrc.keep hB)
    have HOf := Lib.hid (fun p q r W (hB : Below w.heap.size w W) => Of_ok x len cap es p q r W (hx.since hB) hn (by omega))
    obtain ⟨n1, hn1⟩ : ∃ n1, n1 = len + 1 := ⟨_, rfl⟩
    have HLen : Hid (([] ++ es ++ [(⟨a, b, c, 0, 0, 0⟩ : Ev)]).length = n1) := Lib.hid (by simp [hn, hn1])
    obtain ⟨L, hL⟩ : ∃ L, L = [] ++ es ++ [(⟨a, b, c, 0, 0, 0⟩ : Ev)] := ⟨_, rfl⟩
    have HLL := Lib.hid hL
    rw [← hL] at HLen
    have hn1b : n1 ≤ 61 := by omega
    clear hx hsrc hn hn1 hL
    go_enter Try.func6, Try.ntmps6
    go_wp2_with (first
      | (go_at_call 9; refine HV.out.mono ?_; rintro e w1 ⟨rfl, hb1⟩; have B1 := Lib.hid hb1; clear hb1)
      | (at_builtin; refine wpList_append_ev rfl _ _ rfl w.heap.size _ [] rfl OwnsE.nil x len cap es rfl (HSrc.out _ B1.out) (by simp; omega) B1.out.size ?_; intro v2 w2 hO2 hg2; have O2 := Lib.hid hO2; have B2 := Lib.hid (B1.out.grown hg2 B1.out.size (fun g e => by cases e)); clear hO2 hg2 HSrc B1)
      | (at_builtin; refine wpList_append_ev rfl _ _ rfl w.heap.size v2 _ rfl (O2.out.alloc _) _ 1 1 _ rfl (SrcE.one w2 ⟨a, b, c, 0, 0, 0⟩) (by have := HN.out; simp; omega) (below_al B2.out _).size ?_; intro v3 w3 hO3 hg3; have B3 := Lib.hid ((below_al B2.out (evO ⟨a, b, c, 0, 0, 0⟩)).grown hg3 (below_al B2.out _).size O2.out.ownBlock); rw [← HLL.out] at hO3; obtain ⟨y3, k3, rfl, -, -, hR3, -⟩ := hO3.form; rw [HLen.out]; have R3 := Lib.hid hR3; clear hR3 hO3 hg3 O2 B2))
    clear HV HLL
    go_loopw [38] (fun i wr => ∃ k : Nat, k ≤ n1 ∧ i = .int .i64 (k : Int) ∧ Hid (Below w3.heap.size w3 wr)) (fun i _ => n1 - (intOf i).toNat)
    case atStart => exact ⟨0, Nat.zero_le _, rfl, Lib.hid (Below.refl _ _)⟩
    case round =>
      obtain ⟨k, hk, rfl, HI⟩ := hrel
      by_cases hlt : k < n1
      · obtain ⟨b2, o2, rfl, hb2, hcc⟩ := (R3.out.since HI.out) (by have := HLen.out; omega)
        have hcu := hcc k (by have := HLen.out; omega)
        obtain ⟨u, hu⟩ : ∃ u, u = L.getD k noEv := ⟨_, rfl⟩
        rw [← hu] at hcu
        have HC := Lib.hid (HOf.out u.it u.tr u.wn (wr.alloc (evO u)) (below_al (below_on B3.out HI.out) _))
        have HBx0 : Hid (∀ W, Below (wr.alloc (evO u)).heap.size (wr.alloc (evO u)) W → EvAt W wr.heap.size 0 u) := Lib.hid (fun W hB => (EvAt.new wr u 38).below hB)
        have HBB : Hid (∀ W, Below (wr.alloc (evO u)).heap.size (wr.alloc (evO u)) W → Below w3.heap.size w3 W) := Lib.hid (fun W hB => below_on (below_al HI.out _) hB)
        clear hcc hu HI
        obtain ⟨e1, e2, e3, e4, e5, e6⟩ := u
        obtain ⟨c0, c1, c2, c3, c4, c5⟩ := hcu
        unfold evO at HC HBx0 HBB
        dsimp only at HC HBx0 HBB c0 c1 c2 c3 c4 c5
        obtain ⟨os, hos⟩ : ∃ os, os = ofW es e1 e2 e3 := ⟨_, rfl⟩
        have HM : Hid ((own (es.take len) e1 e2 e3).length = os.length ∧ os.length ≤ len) := Lib.hid (by
          have h1 := own_len es e1 e2 e3
          have h2 := HN.out
          rw [List.take_of_length_le (by omega), hos, ofW_len]
          omega)
        have HTk : Hid (∀ j, 0 < j → j < os.length → (os.getD (j - 1) noEv).tk ≤ (os.getD j noEv).tk) := Lib.hid (fun j h0 h => by rw [hos] at h ⊢; exact ofW_tick es e1 e2 e3 h0 h)
        have HIn : Hid (∀ j, j < os.length → (os.getD j noEv).it = e1 ∧ (os.getD j noEv).tr = e2 ∧ (os.getD j noEv).wn = e3) := Lib.hid (fun j h => by rw [hos] at h ⊢; exact inW_at (ofW_in (getD_mem h)))
        have HCt : Hid (∀ j, j < os.length → cnt (os.getD j noEv) os = cnt (os.getD j noEv) es) := Lib.hid (fun j h => by rw [hos] at h ⊢; exact ofW_cnt (getD_mem h))
        rw [← hos] at HC
        clear hos
        obtain ⟨m5, hm5⟩ : ∃ m5, m5 = os.length := ⟨_, rfl⟩
        rw [← hm5] at HM HTk HIn HCt
        have HM5 : Hid (os.length = m5) := Lib.hid hm5.symm
        have hm5b : m5 ≤ 61 := by have := HM.out; omega
        clear hm5
        go_wp2_with (go_at_call 10; refine HC.out.mono ?_; rintro e w5 hr5; obtain ⟨y5, k5, rfl, hR5, -, -, hb5⟩ := hr5.open; rw [HM5.out]; have B5 := Lib.hid (HBB.out _ hb5); have R5 := Lib.hid hR5; have HBx := Lib.hid (fun W (hB : Below w5.heap.size w5 W) => HBx0.out W (below_on hb5 hB)); clear hb5 hR5 hr5 HBB HBx0 HC)
        go_loopw [13, 57] (fun v i wr => ∃ k2 : Nat, k2 ≤ len ∧ i = .int .i64 (k2 : Int) ∧ v = .int .i64 ((own (es.take k2) e1 e2 e3).length : Int) ∧ Hid (Below w5.heap.size w5 wr)) (fun _ i _ => len - (intOf i).toNat)
        case atStart => exact ⟨0, Nat.zero_le _, rfl, rfl, Lib.hid (Below.refl _ _)⟩
        case round =>
          obtain ⟨k2, hk2, rfl, rfl, HI⟩ := hrel
          by_cases hlt2 : k2 < len
          · obtain ⟨bk, off, rfl, hbk, hcc⟩ := (HX.out.since (below_on (below_on B3.out B5.out) HI.out)) (by have := HN.out; omega)
            have hcu := hcc k2 (by have := HN.out; omega)
            have hT := take_getD es k2 (by have := HN.out; omega)
            obtain ⟨z, hz⟩ : ∃ z, z = es.getD k2 noEv := ⟨_, rfl⟩
            rw [← hz] at hcu hT
            have HT := Lib.hid (own_take e1 e2 e3 hT)
            have hP := HBx.out _ (below_al HI.out (evO z))
            have HB' := Lib.hid (below_al HI.out (evO z))
            obtain ⟨mm, hmm⟩ : ∃ mm, mm = (own (es.take k2) e1 e2 e3).length := ⟨_, rfl⟩
            have hmb : mm ≤ 61 := by have := own_len (es.take k2) e1 e2 e3; rw [List.length_take] at this; omega
            rw [← hmm]
            have HMM := Lib.hid hmm
            clear hcc hz hT hmm HI HX
            obtain ⟨z1, z2, z3, z4, z5, z6⟩ := z
            obtain ⟨q0, q1, q2, q3, q4, q5⟩ := hcu
            obtain ⟨p0, p1, p2, p3, p4, p5⟩ := hP
            unfold evO at p0 p1 p2 p3 p4 p5 HB'
            dsimp only at p0 p1 p2 p3 p4 p5 HB' q0 q1 q2 q3 q4 q5
            unfold inW at HT
            dsimp only at HT
            by_cases g1 : z1 = e1
            · have t1 : (z1 == e1) = true := by simpa using g1
              rw [t1] at HT
              by_cases g2 : z2 = e2
              · have t2 : (z2 == e2) = true := by simpa using g2
                rw [t2] at HT
                by_cases g3 : z3 = e3
                · have t3 : (z3 == e3) = true := by simpa using g3
                  rw [t3, if_pos (by decide)] at HT
                  clear g1 g2 g3
                  go_wp2
                  go_roundw
                  case rel => exact ⟨k2 + 1, by omega, by go_num, by rw [HT.out, List.length_append, ← HMM.out]; simp, HB'⟩
                  case measure => simp [intOf]; omega
                · have t3 : (z3 == e3) = false := by simpa using g3
                  rw [t3, if_neg (by decide)] at HT
                  clear g1 g2 g3
                  go_wp2
                  go_roundw
                  case rel => exact ⟨k2 + 1, by omega, by go_num, by rw [HT.out, ← HMM.out], HB'⟩
                  case measure => simp [intOf]; omega
              · have t2 : (z2 == e2) = false := by simpa using g2
                rw [t2, if_neg (by simp)] at HT
                clear g1 g2
                go_wp2
                go_roundw
                case rel => exact ⟨k2 + 1, by omega, by go_num, by rw [HT.out, ← HMM.out], HB'⟩
                case measure => simp [intOf]; omega
            · have t1 : (z1 == e1) = false := by simpa using g1
              rw [t1, if_neg (by simp)] at HT
              clear g1
              go_wp2
              go_roundw
              case rel => exact ⟨k2 + 1, by omega, by go_num, by rw [HT.out, ← HMM.out], HB'⟩
              case measure => simp [intOf]; omega
          · obtain rfl : len = k2 := by omega
            have HI2 := HI
            clear HI
            rw [HM.out.1]
            go_wp2
            go_loopw [89] (fun i wr => ∃ j : Nat, j ≤ m5 ∧ i = .int .i64 (j : Int) ∧ Hid (Below w5.heap.size w5 wr)) (fun i _ => m5 - (intOf i).toNat)
            case atStart => exact ⟨0, Nat.zero_le _, rfl, HI2⟩
            case round =>
              clear HI2
              obtain ⟨j, hj, rfl, HI⟩ := hrel
              by_cases hlt3 : j < m5
              · obtain ⟨b5, o5, rfl, hb5, hcc⟩ := (R5.out.since HI.out) (by have := HM5.out; omega)
                have hct := hcc j (by have := HM5.out; omega)
                have hcp := hcc (j - 1) (by have := HM5.out; omega)
                have HInj := HIn.out j hlt3
                have HTj : Hid (0 < j → (os.getD (j - 1) noEv).tk ≤ (os.getD j noEv).tk) := Lib.hid (fun h => HTk.out j h hlt3)
                have HCj := HCt.out j hlt3
                obtain ⟨t, ht⟩ : ∃ t, t = os.getD j noEv := ⟨_, rfl⟩
                obtain ⟨tp, htp⟩ : ∃ tp, tp = (os.getD (j - 1) noEv).tk := ⟨_, rfl⟩
                have hcp3 := hcp.2.2.2.1
                rw [← htp] at hcp3 HTj
                rw [← ht] at hct HInj HTj HCj
                obtain ⟨cN, hcN⟩ : ∃ cN, cN = cnt t os := ⟨_, rfl⟩
                have HCn0 : Hid (cnt t os = cN ∧ cnt t es = cN) := Lib.hid ⟨hcN.symm, by rw [hcN]; exact HCj.symm⟩
                have hcNb : cN ≤ 61 := by have := cnt_le t os; have := HM5.out; omega
                have HBy0 : Hid (∀ W, Below (wr.alloc (evO t)).heap.size (wr.alloc (evO t)) W → EvAt W wr.heap.size 0 t) := Lib.hid (fun W hB => (EvAt.new wr t 38).below hB)
                have HB60 := Lib.hid (below_al HI.out (evO t))
                have hcp6 : (wr.alloc (evO t)).cell? ⟨b5, o5 + (j - 1) * 6 + 3, none⟩ = some (.int .i64 tp) := ((below_al (Below.refl _ wr) (evO t)).cell (World.block_lt_of_cell? _ _ hcp3)).trans hcp3
                have hby6 : (wr.alloc (evO t)).cell? ⟨wr.heap.size, 0 + 3, none⟩ = some (.int .i64 t.tk) := (EvAt.new wr t 38).2.2.2.1
                clear hcc hcp hcp3 ht htp hcN HCj HI
                obtain ⟨t1, t2, t3, t4, t5, t6⟩ := t
                obtain ⟨q0, q1, q2, q3, q4, q5⟩ := hct
                obtain ⟨i1, i2, i3⟩ := HInj
                unfold evO at HBy0 HB60 hcp6 hby6
                dsimp only at q0 q1 q2 q3 q4 q5 i1 i2 i3 HTj HBy0 HB60 hcp6 hby6
                have f1 : (t1 != e1) = false := by rw [i1]; simp
                have f2 : (t2 != e2) = false := by rw [i2]; simp
                have f3 : (t3 != e3) = false := by rw [i3]; simp
                clear i1 i2 i3
                go_wp2
                obtain ⟨W6, hW6⟩ : ∃ W6, W6 = wr.alloc (.cells #[.int .i64 t1, .int .i64 t2, .int .i64 t3, .int .i64 t4, .int .i64 t5, .int .u64 t6] 38) := ⟨_, rfl⟩
                rw [← hW6] at HBy0 HB60 hcp6 hby6 ⊢
                have HBy := HBy0
                have HB6 := HB60
                have HCn := HCn0
                clear hW6 HBy0 HB60 HCn0 q0 q1 q2 q3 q4 q5
                by_cases hj0 : j = 0
                · subst hj0
                  clear hcp6 HTj
                  go_quiet (fail)
                  clear hby6
                  obtain ⟨W7, hW7⟩ : ∃ W7, W7 = W6.drewN nq := ⟨_, rfl⟩
                  rw [← hW7]
                  have B7 : Hid (Below W6.heap.size W6 W7) := Lib.hid (by rw [hW7]; exact draws_below _ _ _)
                  clear hW7
                  go_wp2
                  go_loopw [18, 109] (fun v i wr => ∃ q : Nat, q ≤ m5 ∧ i = .int .i64 (q : Int) ∧ v = .int .i64 (cnt ⟨t1, t2, t3, t4, t5, t6⟩ (os.take q) : Int) ∧ Hid (Below W6.heap.size W6 wr)) (fun _ i _ => m5 - (intOf i).toNat)
                  case atStart => exact ⟨0, Nat.zero_le _, rfl, rfl, B7⟩
                  case round =>
                    obtain ⟨q, hq, rfl, rfl, HI⟩ := hrel
                    by_cases hltq : q < m5
                    · obtain ⟨bq, oq, eq5, hbq, hcc⟩ := (R5.out.since (below_on HB6.out HI.out)) (by have := HM5.out; omega)
                      cases eq5
                      have hcz := hcc q (by have := HN.out; have := HM5.out; omega)
                      have hT := take_getD os q (by have := HN.out; have := HM5.out; omega)
                      obtain ⟨z, hz⟩ : ∃ z, z = os.getD q noEv := ⟨_, rfl⟩
                      rw [← hz] at hcz hT
                      have HT : Hid (cnt ⟨t1, t2, t3, t4, t5, t6⟩ (os.take (q + 1)) = cnt ⟨t1, t2, t3, t4, t5, t6⟩ (os.take q) + if z = ⟨t1, t2, t3, t4, t5, t6⟩ then 1 else 0) := Lib.hid (by rw [hT, cnt_snoc])
                      have hEq := eql_ev z ⟨t1, t2, t3, t4, t5, t6⟩
                      obtain ⟨cq, hcq⟩ : ∃ cq, cq = cnt ⟨t1, t2, t3, t4, t5, t6⟩ (os.take q) := ⟨_, rfl⟩
                      have hcqb : cq ≤ 61 := by have := cnt_le ⟨t1, t2, t3, t4, t5, t6⟩ (os.take q); rw [List.length_take] at this; omega
                      rw [← hcq] at HT ⊢
                      have hP := HBy.out _ (below_al HI.out (evO z))
                      have HB' := Lib.hid (below_al HI.out (evO z))
                      clear hcc hz hT hcq HI
                      by_cases he : z = ⟨t1, t2, t3, t4, t5, t6⟩
                      · rw [decide_eq_true he] at hEq
                        rw [if_pos he] at HT
                        clear he
                        obtain ⟨z1, z2, z3, z4, z5, z6⟩ := z
                        obtain ⟨q0, q1, q2, q3, q4, q5⟩ := hcz
                        obtain ⟨p0, p1, p2, p3, p4, p5⟩ := hP
                        unfold evO at p0 p1 p2 p3 p4 p5 HB'
                        unfold evV at hEq
                        dsimp only at p0 p1 p2 p3 p4 p5 HB' q0 q1 q2 q3 q4 q5 hEq
                        go_wp2
                        go_roundw
                        case rel => exact ⟨q + 1, by omega, by go_num, by rw [HT.out]; simp, HB'⟩
                        case measure => simp [intOf]; omega
                      · rw [decide_eq_false he] at hEq
                        rw [if_neg he] at HT
                        clear he
                        obtain ⟨z1, z2, z3, z4, z5, z6⟩ := z
                        obtain ⟨q0, q1, q2, q3, q4, q5⟩ := hcz
                        obtain ⟨p0, p1, p2, p3, p4, p5⟩ := hP
                        unfold evO at p0 p1 p2 p3 p4 p5 HB'
                        unfold evV at hEq
                        dsimp only at p0 p1 p2 p3 p4 p5 HB' q0 q1 q2 q3 q4 q5 hEq
                        go_wp2
                        go_roundw
                        case rel => exact ⟨q + 1, by omega, by go_num, by rw [HT.out]; simp, HB'⟩
                        case measure => simp [intOf]; omega
                    · obtain rfl : m5 = q := by omega
                      have HC4 : Hid (cnt ⟨t1, t2, t3, t4, t5, t6⟩ (os.take m5) = cN) := Lib.hid (by rw [List.take_of_length_le (by have := HM5.out; omega)]; exact HCn.out.1)
                      rw [HC4.out]
                      have HI4 := HI
                      clear HI B7
                      go_wp2
                      go_loopw [19, 121] (fun v i wr => ∃ q : Nat, q ≤ len ∧ i = .int .i64 (q : Int) ∧ v = .int .i64 (cnt ⟨t1, t2, t3, t4, t5, t6⟩ (es.take q) : Int) ∧ Hid (Below W6.heap.size W6 wr)) (fun _ i _ => len - (intOf i).toNat)
                      case atStart => exact ⟨0, Nat.zero_le _, rfl, rfl, HI4⟩
                      case round =>
                        obtain ⟨q, hq, rfl, rfl, HI⟩ := hrel
                        by_cases hltq : q < len
                        · obtain ⟨bq, oq, rfl, hbq, hcc⟩ := (HX.out.since (below_on (below_on (below_on B3.out B5.out) HB6.out) HI.out)) (by have := HN.out; omega)
                          skip
                          have hcz := hcc q (by have := HN.out; have := HM5.out; omega)
                          have hT := take_getD es q (by have := HN.out; have := HM5.out; omega)
                          obtain ⟨z, hz⟩ : ∃ z, z = es.getD q noEv := ⟨_, rfl⟩
                          rw [← hz] at hcz hT
                          have HT : Hid (cnt ⟨t1, t2, t3, t4, t5, t6⟩ (es.take (q + 1)) = cnt ⟨t1, t2, t3, t4, t5, t6⟩ (es.take q) + if z = ⟨t1, t2, t3, t4, t5, t6⟩ then 1 else 0) := Lib.hid (by rw [hT, cnt_snoc])
                          have hEq := eql_ev z ⟨t1, t2, t3, t4, t5, t6⟩
                          obtain ⟨cq, hcq⟩ : ∃ cq, cq = cnt ⟨t1, t2, t3, t4, t5, t6⟩ (es.take q) := ⟨_, rfl⟩
                          have hcqb : cq ≤ 61 := by have := cnt_le ⟨t1, t2, t3, t4, t5, t6⟩ (es.take q); rw [List.length_take] at this; omega
                          rw [← hcq] at HT ⊢
                          have hP := HBy.out _ (below_al HI.out (evO z))
                          have HB' := Lib.hid (below_al HI.out (evO z))
                          clear hcc hz hT hcq HI
                          by_cases he : z = ⟨t1, t2, t3, t4, t5, t6⟩
                          · rw [decide_eq_true he] at hEq
                            rw [if_pos he] at HT
                            clear he
                            obtain ⟨z1, z2, z3, z4, z5, z6⟩ := z
                            obtain ⟨q0, q1, q2, q3, q4, q5⟩ := hcz
                            obtain ⟨p0, p1, p2, p3, p4, p5⟩ := hP
                            unfold evO at p0 p1 p2 p3 p4 p5 HB'
                            unfold evV at hEq
                            dsimp only at p0 p1 p2 p3 p4 p5 HB' q0 q1 q2 q3 q4 q5 hEq
                            go_wp2
                            go_roundw
                            case rel => exact ⟨q + 1, by omega, by go_num, by rw [HT.out]; simp, HB'⟩
                            case measure => simp [intOf]; omega
                          · rw [decide_eq_false he] at hEq
                            rw [if_neg he] at HT
                            clear he
                            obtain ⟨z1, z2, z3, z4, z5, z6⟩ := z
                            obtain ⟨q0, q1, q2, q3, q4, q5⟩ := hcz
                            obtain ⟨p0, p1, p2, p3, p4, p5⟩ := hP
                            unfold evO at p0 p1 p2 p3 p4 p5 HB'
                            unfold evV at hEq
                            dsimp only at p0 p1 p2 p3 p4 p5 HB' q0 q1 q2 q3 q4 q5 hEq
                            go_wp2
                            go_roundw
                            case rel => exact ⟨q + 1, by omega, by go_num, by rw [HT.out]; simp, HB'⟩
                            case measure => simp [intOf]; omega
                        · obtain rfl : len = q := by omega
                          have HC5 : Hid (cnt ⟨t1, t2, t3, t4, t5, t6⟩ (es.take len) = cN) := Lib.hid (by rw [List.take_of_length_le (by have := HN.out; omega)]; exact HCn.out.2)
                          rw [HC5.out]
                          obtain ⟨p0, p1, p2, p3, p4, p5⟩ := HBy.out _ HI.out
                          obtain ⟨r0, r1, r2, r3, r4, r5⟩ := HBx.out _ (below_on HB6.out HI.out)
                          dsimp only at p0 p1 p2 p3 p4 p5 r0 r1 r2 r3 r4 r5
                          go_wp2
                          go_roundw
                          case rel => exact ⟨1, by omega, by go_num, Lib.hid (below_on HB6.out HI.out)⟩
                          case measure => simp [intOf]; omega
                · have hjp : decide (0 < (j : Int)) = true := by simp; omega
                  have hjp' : decide (0 < j) = true := by simp; omega
                  have hjm : (j : Int) - 1 = ((j - 1 : Nat) : Int) := by omega
                  obtain ⟨j', hj'⟩ : ∃ j', j' = j - 1 := ⟨_, rfl⟩
                  rw [← hj'] at hjm hcp6
                  have jn : ((j' : Int)).toNat = j' := by omega
                  have jw : IntKind.i64.wrap ((j' : Int)) = (j' : Int) := by rw [IntKind.wrap_i64]; omega
                  have jl : (j' : Int) < (m5 : Int) := by omega
                  have tt : decide (t4 < tp) = false := by have := HTj.out (by omega); simp; omega
                  clear hj' HTj
                  go_quiet (fail)
                  clear hcp6 hby6
                  obtain ⟨W7, hW7⟩ : ∃ W7, W7 = W6.drewN nq := ⟨_, rfl⟩
                  rw [← hW7]
                  have B7 : Hid (Below W6.heap.size W6 W7) := Lib.hid (by rw [hW7]; exact draws_below _ _ _)
                  clear hW7
                  go_wp2
                  go_loopw [18, 109] (fun v i wr => ∃ q : Nat, q ≤ m5 ∧ i = .int .i64 (q : Int) ∧ v = .int .i64 (cnt ⟨t1, t2, t3, t4, t5, t6⟩ (os.take q) : Int) ∧ Hid (Below W6.heap.size W6 wr)) (fun _ i _ => m5 - (intOf i).toNat)
                  case atStart => exact ⟨0, Nat.zero_le _, rfl, rfl, B7⟩
                  case round =>
                    obtain ⟨q, hq, rfl, rfl, HI⟩ := hrel
                    by_cases hltq : q < m5
                    · obtain ⟨bq, oq, eq5, hbq, hcc⟩ := (R5.out.since (below_on HB6.out HI.out)) (by have := HM5.out; omega)
                      cases eq5
                      have hcz := hcc q (by have := HN.out; have := HM5.out; omega)
                      have hT := take_getD os q (by have := HN.out; have := HM5.out; omega)
                      obtain ⟨z, hz⟩ : ∃ z, z = os.getD q noEv := ⟨_, rfl⟩
                      rw [← hz] at hcz hT
                      have HT : Hid (cnt ⟨t1, t2, t3, t4, t5, t6⟩ (os.take (q + 1)) = cnt ⟨t1, t2, t3, t4, t5, t6⟩ (os.take q) + if z = ⟨t1, t2, t3, t4, t5, t6⟩ then 1 else 0) := Lib.hid (by rw [hT, cnt_snoc])
                      have hEq := eql_ev z ⟨t1, t2, t3, t4, t5, t6⟩
                      obtain ⟨cq, hcq⟩ : ∃ cq, cq = cnt ⟨t1, t2, t3, t4, t5, t6⟩ (os.take q) := ⟨_, rfl⟩
                      have hcqb : cq ≤ 61 := by have := cnt_le ⟨t1, t2, t3, t4, t5, t6⟩ (os.take q); rw [List.length_take] at this; omega
                      rw [← hcq] at HT ⊢
                      have hP := HBy.out _ (below_al HI.out (evO z))
                      have HB' := Lib.hid (below_al HI.out (evO z))
                      clear hcc hz hT hcq HI
                      by_cases he : z = ⟨t1, t2, t3, t4, t5, t6⟩
                      · rw [decide_eq_true he] at hEq
                        rw [if_pos he] at HT
                        clear he
                        obtain ⟨z1, z2, z3, z4, z5, z6⟩ := z
                        obtain ⟨q0, q1, q2, q3, q4, q5⟩ := hcz
                        obtain ⟨p0, p1, p2, p3, p4, p5⟩ := hP
                        unfold evO at p0 p1 p2 p3 p4 p5 HB'
                        unfold evV at hEq
                        dsimp only at p0 p1 p2 p3 p4 p5 HB' q0 q1 q2 q3 q4 q5 hEq
                        go_wp2
                        go_roundw
                        case rel => exact ⟨q + 1, by omega, by go_num, by rw [HT.out]; simp, HB'⟩
                        case measure => simp [intOf]; omega
                      · rw [decide_eq_false he] at hEq
                        rw [if_neg he] at HT
                        clear he
                        obtain ⟨z1, z2, z3, z4, z5, z6⟩ := z
                        obtain ⟨q0, q1, q2, q3, q4, q5⟩ := hcz
                        obtain ⟨p0, p1, p2, p3, p4, p5⟩ := hP
                        unfold evO at p0 p1 p2 p3 p4 p5 HB'
                        unfold evV at hEq
                        dsimp only at p0 p1 p2 p3 p4 p5 HB' q0 q1 q2 q3 q4 q5 hEq
                        go_wp2
                        go_roundw
                        case rel => exact ⟨q + 1, by omega, by go_num, by rw [HT.out]; simp, HB'⟩
                        case measure => simp [intOf]; omega
                    · obtain rfl : m5 = q := by omega
                      have HC4 : Hid (cnt ⟨t1, t2, t3, t4, t5, t6⟩ (os.take m5) = cN) := Lib.hid (by rw [List.take_of_length_le (by have := HM5.out; omega)]; exact HCn.out.1)
                      rw [HC4.out]
                      have HI4 := HI
                      clear HI B7
                      go_wp2
                      go_loopw [19, 121] (fun v i wr => ∃ q : Nat, q ≤ len ∧ i = .int .i64 (q : Int) ∧ v = .int .i64 (cnt ⟨t1, t2, t3, t4, t5, t6⟩ (es.take q) : Int) ∧ Hid (Below W6.heap.size W6 wr)) (fun _ i _ => len - (intOf i).toNat)
                      case atStart => exact ⟨0, Nat.zero_le _, rfl, rfl, HI4⟩
                      case round =>
                        obtain ⟨q, hq, rfl, rfl, HI⟩ := hrel
                        by_cases hltq : q < len
                        · obtain ⟨bq, oq, rfl, hbq, hcc⟩ := (HX.out.since (below_on (below_on (below_on B3.out B5.out) HB6.out) HI.out)) (by have := HN.out; omega)
                          skip
                          have hcz := hcc q (by have := HN.out; have := HM5.out; omega)
                          have hT := take_getD es q (by have := HN.out; have := HM5.out; omega)
                          obtain ⟨z, hz⟩ : ∃ z, z = es.getD q noEv := ⟨_, rfl⟩
                          rw [← hz] at hcz hT
                          have HT : Hid (cnt ⟨t1, t2, t3, t4, t5, t6⟩ (es.take (q + 1)) = cnt ⟨t1, t2, t3, t4, t5, t6⟩ (es.take q) + if z = ⟨t1, t2, t3, t4, t5, t6⟩ then 1 else 0) := Lib.hid (by rw [hT, cnt_snoc])
                          have hEq := eql_ev z ⟨t1, t2, t3, t4, t5, t6⟩
                          obtain ⟨cq, hcq⟩ : ∃ cq, cq = cnt ⟨t1, t2, t3, t4, t5, t6⟩ (es.take q) := ⟨_, rfl⟩
                          have hcqb : cq ≤ 61 := by have := cnt_le ⟨t1, t2, t3, t4, t5, t6⟩ (es.take q); rw [List.length_take] at this; omega
                          rw [← hcq] at HT ⊢
                          have hP := HBy.out _ (below_al HI.out (evO z))
                          have HB' := Lib.hid (below_al HI.out (evO z))
                          clear hcc hz hT hcq HI
                          by_cases he : z = ⟨t1, t2, t3, t4, t5, t6⟩
                          · rw [decide_eq_true he] at hEq
                            rw [if_pos he] at HT
                            clear he
                            obtain ⟨z1, z2, z3, z4, z5, z6⟩ := z
                            obtain ⟨q0, q1, q2, q3, q4, q5⟩ := hcz
                            obtain ⟨p0, p1, p2, p3, p4, p5⟩ := hP
                            unfold evO at p0 p1 p2 p3 p4 p5 HB'
                            unfold evV at hEq
                            dsimp only at p0 p1 p2 p3 p4 p5 HB' q0 q1 q2 q3 q4 q5 hEq
                            go_wp2
                            go_roundw
                            case rel => exact ⟨q + 1, by omega, by go_num, by rw [HT.out]; simp, HB'⟩
                            case measure => simp [intOf]; omega
                          · rw [decide_eq_false he] at hEq
                            rw [if_neg he] at HT
                            clear he
                            obtain ⟨z1, z2, z3, z4, z5, z6⟩ := z
                            obtain ⟨q0, q1, q2, q3, q4, q5⟩ := hcz
                            obtain ⟨p0, p1, p2, p3, p4, p5⟩ := hP
                            unfold evO at p0 p1 p2 p3 p4 p5 HB'
                            unfold evV at hEq
                            dsimp only at p0 p1 p2 p3 p4 p5 HB' q0 q1 q2 q3 q4 q5 hEq
                            go_wp2
                            go_roundw
                            case rel => exact ⟨q + 1, by omega, by go_num, by rw [HT.out]; simp, HB'⟩
                            case measure => simp [intOf]; omega
                        · obtain rfl : len = q := by omega
                          have HC5 : Hid (cnt ⟨t1, t2, t3, t4, t5, t6⟩ (es.take len) = cN) := Lib.hid (by rw [List.take_of_length_le (by have := HN.out; omega)]; exact HCn.out.2)
                          rw [HC5.out]
                          obtain ⟨p0, p1, p2, p3, p4, p5⟩ := HBy.out _ HI.out
                          obtain ⟨r0, r1, r2, r3, r4, r5⟩ := HBx.out _ (below_on HB6.out HI.out)
                          dsimp only at p0 p1 p2 p3 p4 p5 r0 r1 r2 r3 r4 r5
                          go_wp2
                          go_roundw
                          case rel => exact ⟨j + 1, by omega, by go_num, Lib.hid (below_on HB6.out HI.out)⟩
                          case measure => simp [intOf]; omega
              · go_wp2
                go_roundw
                case rel => exact ⟨k + 1, by omega, by go_num, Lib.hid (below_on B5.out HI.out)⟩
                case measure => simp [intOf]; omega
      · go_wp2
        go_ret
        exact ⟨rfl, below_on B3.out HI.out⟩

end Go.Proofs.Ytbdcpjpdonednaa
