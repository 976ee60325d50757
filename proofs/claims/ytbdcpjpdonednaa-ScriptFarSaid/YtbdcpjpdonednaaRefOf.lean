/-
  What the document's Of comes to: each event of the window goes behind all those whose tick is not greater.
-/
import Derived.Test.YtbdcpjpdonednaaAppE
import Derived.Deep.Slices
namespace Go.Proofs.Ytbdcpjpdonednaa
open Go.RowKit

theorem ReadsE.take {w : World} {B : Nat} {x : Option Addr} {es : List Ev} (h : ReadsE w B x es) (p : Nat) : ReadsE w B x (es.take p) := fun hn => by
  rw [List.length_take] at hn
  obtain ⟨b, off, e, hb, hc⟩ := h (by omega)
  refine ⟨b, off, e, hb, fun j hj => ?_⟩
  rw [List.length_take] at hj
  have := hc j (by omega)
  have e2 : (es.take p).getD j noEv = es.getD j noEv := by
    rw [List.getD_eq_getElem?_getD, List.getD_eq_getElem?_getD, List.getElem?_take_of_lt (by omega)]
  rw [e2]
  exact this
theorem ReadsE.behind {w : World} {B b off : Nat} {es : List Ev} (h : ReadsE w B (some ⟨b, off, none⟩) es) {cap : Nat} (hc : es.length ≤ cap) (p : Nat) : ReadsE w B (if cap = p then some ⟨b, off, none⟩ else some ⟨b, off + p * 6, none⟩) (es.drop p) := fun hn => by
  rw [List.length_drop] at hn
  obtain ⟨b', off', e, hb, hcc⟩ := h (by omega)
  cases e
  rw [if_neg (by omega)]
  refine ⟨b, off + p * 6, rfl, hb, fun j hj => ?_⟩
  rw [List.length_drop] at hj
  have := hcc (p + j) (by omega)
  have e2 : (es.drop p).getD j noEv = es.getD (p + j) noEv := by
    rw [List.getD_eq_getElem?_getD, List.getD_eq_getElem?_getD, List.getElem?_drop]
  rw [e2, show off + p * 6 + j * 6 = off + (p + j) * 6 by omega]
  exact this
theorem SrcE.addr {w : World} {ad : Addr} {n cap : Nat} {es : List Ev} {B : Nat} (h : ReadsE w B (some ad) es) (hn : es.length = n) : SrcE w (some ad) n cap es := h.src hn (fun e => by cases e)
theorem posD_step {out : List Ev} {x : Ev} {p : Nat} : posD out x (p + 1) = if x.tk < (out.getD p noEv).tk then posD out x p else p + 1 := rfl
theorem stl_take {es : List Ev} {k : Nat} {u : Ev} {a b c : Int} (h : es.take (k + 1) = es.take k ++ [u]) (hu : inW a b c u = true) : stl (own (es.take (k + 1)) a b c) = putE (stl (own (es.take k) a b c)) u := by rw [h, own_snoc, if_pos hu, stl_snoc]
theorem stl_skip {es : List Ev} {k : Nat} {u : Ev} {a b c : Int} (h : es.take (k + 1) = es.take k ++ [u]) (hu : inW a b c u = false) : stl (own (es.take (k + 1)) a b c) = stl (own (es.take k) a b c) := by rw [h, own_snoc, if_neg (by simp [hu])]

theorem inW_at' {a b c : Int} {y : Ev} (h : inW a b c y = true) : y.it = a ∧ y.tr = b ∧ y.wn = c := by
  unfold inW at h
  simp only [Bool.and_eq_true, beq_iff_eq] at h
  exact ⟨h.1.1, h.1.2, h.2⟩

set_option maxRecDepth 100000 in
set_option maxHeartbeats 8000000 in
theorem rOf_ok (x : Option Addr) (n cap : Nat) (es : List Ev) (a b c : Int) (w : World) (hx : ReadsE w w.heap.size x es) (hn : es.length = n) (hl : n ≤ 1024) :
    Calls Try.prog 11 #[.slice x n cap, .int .i64 a, .int .i64 b, .int .i64 c] w (RetV w (ofW es a b c) 0) := by
  subst hn
  have HCk := Lib.hid (rcheck_any x es.length cap w)
  rw [chk_ok (by omega)] at HCk
  have HX := Lib.hid hx
  clear hx
  go_enter Try.func11, Try.ntmps11
  go_wp2_with (go_at_call 21; refine HCk.out.mono ?_; rintro e w' ⟨rfl, rfl⟩)
  clear HCk
  go_loopw [11, 23] (fun v i wr => ∃ (k : Nat) (o : Value), k ≤ es.length ∧ i = .int .i64 (k : Int) ∧ o = v ∧ Hid (OwnsE wr w.heap.size o (stl (own (es.take k) a b c)) ∧ Below w.heap.size w wr)) (fun _ i _ => es.length - (intOf i).toNat)
  case atStart => exact ⟨0, _, Nat.zero_le _, rfl, rfl, Lib.hid ⟨OwnsE.nil, Below.refl _ _⟩⟩
  case round =>
    obtain ⟨k, o, hk, rfl, rfl, HI⟩ := hrel
    by_cases hlt : k < es.length
    · obtain ⟨bk, off, rfl, hb, hc⟩ := (HX.out.below HI.out.2) (by omega)
      have hcu := hc k hlt
      have hT := take_getD es k hlt
      obtain ⟨u, hu⟩ : ∃ u, u = es.getD k noEv := ⟨_, rfl⟩
      rw [← hu] at hcu hT
      have hol : (stl (own (es.take k) a b c)).length ≤ 1024 := by have := own_len (es.take k) a b c; rw [stl_len]; rw [List.length_take] at this; omega
      have HIB := Lib.hid (below_al HI.out.2 (evO u))
      have HIO := Lib.hid (HI.out.1.alloc (evO u))
      clear hc hu HI
      by_cases hin : inW a b c u = true
      · have HT := Lib.hid (stl_take hT hin)
        have hin' := inW_at' hin
        obtain ⟨i1, i2, i3⟩ := hin'
        have f1 : (u.it != a) = false := by rw [i1]; simp
        have f2 : (u.tr != b) = false := by rw [i2]; simp
        have f3 : (u.wn != c) = false := by rw [i3]; simp
        have HBx : Hid (∀ W, Below (wr.alloc (evO u)).heap.size (wr.alloc (evO u)) W → EvAt W wr.heap.size 0 u) := Lib.hid (fun W hB => (EvAt.new wr u 38).below hB)
        clear hin i1 i2 i3 hT
        obtain ⟨out, hout⟩ : ∃ out, out = stl (own (es.take k) a b c) := ⟨_, rfl⟩
        rw [← hout] at HT hol HIO
        clear hout
        rcases HIO.out.2 with ⟨rfl, h0⟩ | ⟨g, co, cur, rfl, hg1, -, hlc, hcm, -, -⟩
        · obtain rfl : out = [] := List.length_eq_zero_iff.1 h0
          have HNext := Lib.hid (fun W => SrcE.one W u)
          obtain ⟨e1, e2, e3, e4, e5, e6⟩ := u
          obtain ⟨c0, c1, c2, c3, c4, c5⟩ := hcu
          unfold evO at HIB HBx HNext
          dsimp only at HIB HBx HNext f1 f2 f3 c0 c1 c2 c3 c4 c5
          clear HIO h0
          go_wp2
          obtain ⟨W7, hW7⟩ : ∃ W7, W7 = wr.alloc (.cells #[.int .i64 e1, .int .i64 e2, .int .i64 e3, .int .i64 e4, .int .i64 e5, .int .u64 e6] 38) := ⟨_, rfl⟩
          rw [← hW7] at HIB HBx ⊢
          clear hW7
          refine wp_loop_rounds 1 ?_
          rw [rounds_succ]
          go_wp2
          go_quiet (fail)
          obtain ⟨W8, hW8⟩ : ∃ W8, W8 = W7.drewN nq := ⟨_, rfl⟩
          rw [← hW8]
          have B8 : Hid (Below W7.heap.size W7 W8) := Lib.hid (by rw [hW8]; exact draws_below _ _ _)
          clear hW8
          go_wp2_with (first
            | (at_builtin; refine wpList_append_ev rfl _ _ rfl W8.heap.size _ [] rfl OwnsE.nil none 0 0 [] rfl ⟨rfl, .inl ⟨rfl, rfl, rfl⟩⟩ (by simp) (Nat.le_refl _) ?_; intro v1 w1 hO1 hg1; have O1 := Lib.hid hO1; have B9 := Lib.hid ((Below.refl W8.heap.size W8).grown hg1 (Nat.le_refl _) (fun g e => by cases e)); obtain ⟨p0, p1, p2, p3, p4, p5⟩ := HBx.out _ (below_on B8.out B9.out); dsimp only at p0 p1 p2 p3 p4 p5; clear hO1 hg1 HBx)
            | (at_builtin; refine wpList_append_ev rfl _ _ rfl W8.heap.size v1 _ rfl (O1.out.alloc _) _ 1 1 _ rfl (HNext.out w1) (by simp) (below_al B9.out _).size ?_; intro v2 w2 hO2 hg2; have O2 := Lib.hid hO2; have B10 := Lib.hid ((below_al B9.out (.cells #[.int .i64 e1, .int .i64 e2, .int .i64 e3, .int .i64 e4, .int .i64 e5, .int .u64 e6] 38)).grown hg2 (below_al B9.out _).size O1.out.ownBlock); clear hO2 hg2 HNext O1)
            | (at_builtin; refine wpList_append_ev rfl _ _ rfl W8.heap.size v2 _ rfl O2.out none 0 0 [] rfl ⟨rfl, .inl ⟨rfl, rfl, rfl⟩⟩ (by simp) B10.out.size ?_; intro v3 w3 hO3 hg3; have O3 := Lib.hid hO3; have B11 := Lib.hid (B10.out.grown hg3 B10.out.size O2.out.ownBlock); clear hO3 hg3))
          go_roundw
          case rel => exact ⟨k + 1, v3, by omega, by go_num, rfl, Lib.hid ⟨by rw [HT.out]; exact O3.out.mono (Nat.le_trans HIB.out.size B8.out.size), below_on (below_on HIB.out B8.out) B11.out⟩⟩
          case measure => simp [intOf]; omega
        · have hgl : g < (wr.alloc (evO u)).heap.size := (World.ownsRow.lt HIO.out g rfl).2
          have hR0 : ReadsE (wr.alloc (evO u)) (wr.alloc (evO u)).heap.size (some ⟨g, 0, none⟩) out := by
            obtain ⟨x', cap', e, -, -, hR, -⟩ := HIO.out.form
            cases e
            exact hR
          have HR := Lib.hid hR0
          have HNext := Lib.hid (fun W => SrcE.one W u)
          obtain ⟨L, hL⟩ : ∃ L, L = out.length := ⟨_, rfl⟩
          have HL : Hid (out.length = L) := Lib.hid hL.symm
          rw [← hL]
          have hLc : L ≤ co := by omega
          have hLb : L ≤ 1024 := by omega
          have hcob : co ≤ 9223372036854775807 := hcm
          clear hR0 HIO hL hgl hg1 hlc hol hcm
          obtain ⟨e1, e2, e3, e4, e5, e6⟩ := u
          obtain ⟨c0, c1, c2, c3, c4, c5⟩ := hcu
          unfold evO at HIB HBx HNext HR
          dsimp only at HIB HBx HNext HR f1 f2 f3 c0 c1 c2 c3 c4 c5
          go_wp2
          obtain ⟨W7, hW7⟩ : ∃ W7, W7 = wr.alloc (.cells #[.int .i64 e1, .int .i64 e2, .int .i64 e3, .int .i64 e4, .int .i64 e5, .int .u64 e6] 38) := ⟨_, rfl⟩
          rw [← hW7] at HIB HBx HR ⊢
          clear hW7
          go_loopw [14] (fun v wr => ∃ p : Nat, p ≤ L ∧ v = .int .i64 (p : Int) ∧ Hid (posD out ⟨e1, e2, e3, e4, e5, e6⟩ p = pos out ⟨e1, e2, e3, e4, e5, e6⟩ ∧ Below W7.heap.size W7 wr)) (fun v _ => (intOf v).toNat)
          case atStart => exact ⟨L, Nat.le_refl _, rfl, Lib.hid ⟨by unfold pos; rw [HL.out], Below.refl _ _⟩⟩
          case round =>
            obtain ⟨p, hp, rfl, HI⟩ := hrel
            by_cases hp0 : p = 0
            · subst hp0
              have HPos : Hid (pos out ⟨e1, e2, e3, e4, e5, e6⟩ = 0) := Lib.hid (by rw [← HI.out.1]; rfl)
              have HW := Lib.hid HI.out.2
              clear HI
              go_wp2
              go_quiet (fail)
              obtain ⟨W8, hW8⟩ : ∃ W8, W8 = wr.drewN nq := ⟨_, rfl⟩
              rw [← hW8]
              have B8 := Lib.hid (below_draws HW.out nq)
              rw [← hW8] at B8
              clear hW8 HW
              have HS2 : Hid (∀ W, Below W8.heap.size W8 W → SrcE W (some ⟨g, 0, none⟩) L co out) := Lib.hid (fun W hB => SrcE.addr ((HR.out.since B8.out).since hB) HL.out)
              obtain ⟨p0, p1, p2, p3, p4, p5⟩ := HBx.out _ B8.out
              dsimp only at p0 p1 p2 p3 p4 p5
              go_wp2_with (first
                | (at_builtin; refine wpList_append_ev rfl _ _ rfl W8.heap.size _ [] rfl OwnsE.nil _ 1 1 _ rfl (HNext.out W8) (by simp) (below_al (Below.refl _ W8) _).size ?_; intro v2 w2 hO2 hg2; have O2 := Lib.hid hO2; have B10 := Lib.hid ((below_al (Below.refl _ W8) (.cells #[.int .i64 e1, .int .i64 e2, .int .i64 e3, .int .i64 e4, .int .i64 e5, .int .u64 e6] 38)).grown hg2 (below_al (Below.refl _ W8) _).size (fun g e => by cases e)); clear hO2 hg2 HNext)
                | (at_builtin; refine wpList_append_ev rfl _ _ rfl W8.heap.size v2 _ rfl O2.out (some ⟨g, 0, none⟩) L co out rfl (HS2.out _ B10.out) (by simp; omega) B10.out.size ?_; intro v3 w3 hO3 hg3; have O3 := Lib.hid hO3; have B11 := Lib.hid (B10.out.grown hg3 B10.out.size O2.out.ownBlock); clear hO3 hg3))
              go_roundw
              case rel => exact ⟨k + 1, v3, by omega, by go_num, rfl, Lib.hid ⟨by rw [HT.out]; unfold putE; rw [HPos.out]; have := O3.out.mono (base' := w.heap.size) (Nat.le_trans HIB.out.size B8.out.size); simpa using this, below_on (below_on HIB.out B8.out) B11.out⟩⟩
              case measure => simp [intOf]; omega
            · obtain ⟨q, hq⟩ : ∃ q, p = q + 1 := ⟨p - 1, by omega⟩
              have hjp : decide (0 < (p : Int)) = true := by simp; omega
              have hjp' : decide (0 < p) = true := by simp; omega
              have hjm : (p : Int) - 1 = (q : Int) := by omega
              have jn : ((q : Int)).toNat = q := by omega
              have jw : IntKind.i64.wrap ((q : Int)) = (q : Int) := by rw [IntKind.wrap_i64]; omega
              have jl : (q : Int) < (L : Int) := by omega
              have HSt := posD_step (out := out) (x := ⟨e1, e2, e3, e4, e5, e6⟩) (p := q)
              rw [← hq, HI.out.1] at HSt
              obtain ⟨b', o', e', hb', hcc⟩ := (HR.out.since HI.out.2) (by have := HL.out; omega)
              cases e'
              have hct := (hcc q (by have := HL.out; omega)).2.2.2.1
              have hbx := (HBx.out _ HI.out.2).2.2.2.1
              obtain ⟨tk, htk⟩ : ∃ tk, tk = (out.getD q noEv).tk := ⟨_, rfl⟩
              rw [← htk] at hct HSt
              dsimp only at HSt hbx
              rw [Nat.zero_add] at hct
              have HW := Lib.hid HI.out.2
              have HQ : Hid (q ≤ L ∧ p = q + 1) := Lib.hid (by omega)
              clear hcc hb' htk HI hq
              by_cases hv : e4 < tk
              · have tt : decide (e4 < tk) = true := by simpa using hv
                rw [if_pos hv] at HSt
                have HSt' := Lib.hid HSt
                clear HSt hv
                go_wp2
                go_quiet (fail)
                clear hct hbx
                obtain ⟨W8, hW8⟩ : ∃ W8, W8 = wr.drewN nq := ⟨_, rfl⟩
                rw [← hW8]
                have HW8 := Lib.hid (below_draws HW.out nq)
                rw [← hW8] at HW8
                clear hW8 HW
                go_wp2
                go_roundw
                case rel => exact ⟨q, HQ.out.1, by go_num, Lib.hid ⟨HSt'.out.symm, HW8.out⟩⟩
                case measure => have := HQ.out; simp [intOf]; omega
              · have tt : decide (e4 < tk) = false := by simpa using hv
                rw [if_neg hv] at HSt
                have HPos : Hid (pos out ⟨e1, e2, e3, e4, e5, e6⟩ = p) := Lib.hid (by rw [HSt, HQ.out.2])
                clear HSt hv
                go_wp2
                go_quiet (fail)
                clear hct hbx hjp hjp' hjm jn jw jl HQ
                obtain ⟨W8, hW8⟩ : ∃ W8, W8 = wr.drewN nq := ⟨_, rfl⟩
                rw [← hW8]
                have B8 := Lib.hid (below_draws HW.out nq)
                rw [← hW8] at B8
                clear hW8 HW
                obtain ⟨ad2, hif⟩ : ∃ ad2, (if co = p then some (⟨g, 0, none⟩ : Addr) else some ⟨g, p * 6, none⟩) = some ad2 := by
                  split
                  · exact ⟨_, rfl⟩
                  · exact ⟨_, rfl⟩
                have HS1 : Hid (SrcE W8 (some ⟨g, 0, none⟩) p co (out.take p)) := Lib.hid (SrcE.addr ((HR.out.since B8.out).take p) (by rw [List.length_take]; have := HL.out; omega))
                have HS2 : Hid (∀ W, Below W8.heap.size W8 W → SrcE W (some ad2) (L - p) (co - p) (out.drop p)) := Lib.hid (fun W hB => by
                  have h := ((HR.out.since B8.out).since hB).behind (cap := co) (by have := HL.out; omega) p
                  rw [show (0 : Nat) + p * 6 = p * 6 by omega, hif] at h
                  exact SrcE.addr h (by rw [List.length_drop, HL.out]))
                have hpc : p ≤ co := by omega
                go_wp2_with (first
                  | (at_builtin; refine wpList_append_ev rfl _ _ rfl W8.heap.size _ [] rfl OwnsE.nil (some ⟨g, 0, none⟩) p co (out.take p) rfl HS1.out (by simp; omega) (Nat.le_refl _) ?_; intro v1 w1 hO1 hg1; have O1 := Lib.hid hO1; have B9 := Lib.hid ((Below.refl W8.heap.size W8).grown hg1 (Nat.le_refl _) (fun g e => by cases e)); obtain ⟨p0, p1, p2, p3, p4, p5⟩ := HBx.out _ (below_on B8.out B9.out); dsimp only at p0 p1 p2 p3 p4 p5; clear hO1 hg1 HBx HS1)
                  | (at_builtin; refine wpList_append_ev rfl _ _ rfl W8.heap.size v1 _ rfl (O1.out.alloc _) _ 1 1 _ rfl (HNext.out w1) (by have := HL.out; simp [List.length_take]; omega) (below_al B9.out _).size ?_; intro v2 w2 hO2 hg2; have O2 := Lib.hid hO2; have B10 := Lib.hid ((below_al B9.out (.cells #[.int .i64 e1, .int .i64 e2, .int .i64 e3, .int .i64 e4, .int .i64 e5, .int .u64 e6] 38)).grown hg2 (below_al B9.out _).size O1.out.ownBlock); clear hO2 hg2 HNext O1)
                  | (at_builtin; refine wpList_append_ev rfl _ _ rfl W8.heap.size v2 _ rfl O2.out (some ad2) (L - p) (co - p) (out.drop p) rfl (HS2.out _ B10.out) (by have := HL.out; simp [List.length_take]; omega) B10.out.size ?_; intro v3 w3 hO3 hg3; have O3 := Lib.hid hO3; have B11 := Lib.hid (B10.out.grown hg3 B10.out.size O2.out.ownBlock); clear hO3 hg3))
                go_roundw
                case rel => exact ⟨k + 1, v3, by omega, by go_num, rfl, Lib.hid ⟨by rw [HT.out]; unfold putE; rw [HPos.out]; have := O3.out.mono (base' := w.heap.size) (Nat.le_trans HIB.out.size B8.out.size); simpa using this, below_on (below_on HIB.out B8.out) B11.out⟩⟩
                case measure => simp [intOf]; omega
      · have hin' : inW a b c u = false := by simpa using hin
        have HT := Lib.hid (stl_skip hT hin')
        unfold inW at hin'
        clear hin hT
        obtain ⟨e1, e2, e3, e4, e5, e6⟩ := u
        obtain ⟨c0, c1, c2, c3, c4, c5⟩ := hcu
        unfold evO at HIB HIO
        dsimp only at HIB HIO hin' c0 c1 c2 c3 c4 c5
        by_cases g1 : e1 = a
        · have t1 : (e1 != a) = false := by simpa using g1
          by_cases g2 : e2 = b
          · have t2 : (e2 != b) = false := by simpa using g2
            have t3 : (e3 != c) = true := by
              subst g1 g2
              simpa using hin'
            clear g1 g2 hin'
            go_wp2
            go_roundw
            case rel => exact ⟨k + 1, o, by omega, by go_num, rfl, Lib.hid (by rw [HT.out]; exact ⟨HIO.out, HIB.out⟩)⟩
            case measure => simp [intOf]; omega
          · have t2 : (e2 != b) = true := by simpa using g2
            clear g1 g2 hin'
            go_wp2
            go_roundw
            case rel => exact ⟨k + 1, o, by omega, by go_num, rfl, Lib.hid (by rw [HT.out]; exact ⟨HIO.out, HIB.out⟩)⟩
            case measure => simp [intOf]; omega
        · have t1 : (e1 != a) = true := by simpa using g1
          clear g1 hin'
          go_wp2
          go_roundw
          case rel => exact ⟨k + 1, o, by omega, by go_num, rfl, Lib.hid (by rw [HT.out]; exact ⟨HIO.out, HIB.out⟩)⟩
          case measure => simp [intOf]; omega
    · obtain rfl : es.length = k := by omega
      have hI := HI.out
      rw [List.take_length] at hI
      clear HI HX
      go_wp2
      go_ret2
      exact ⟨_, rfl, hI.1, hI.2⟩

end Go.Proofs.Ytbdcpjpdonednaa
