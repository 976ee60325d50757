/-
  The walk of MemOrder: in whatever order a window's events stand, it is the same; a nil memory, and one that New has not made, has no words.
-/
import Derived.Test.YtaphhgiocahnhaaMemSim
namespace Go.Proofs.Ytaphhgiocahnhaa
open Go.RowKit Go.Sort

theorem rev_take (ls : List Ev) (k : Nat) (hk : k < ls.length) : ls.reverse.take (k + 1) = ls.reverse.take k ++ [ls.getD (ls.length - 1 - k) noEv] := by
  rw [take_one _ k (by simpa using hk)]
  congr 2
  rw [List.getD_eq_getElem?_getD, List.getD_eq_getElem?_getD, List.getElem?_reverse hk]

/-- In front of each op. -/
def OrdAt (w wr : World) (M N R n k : Nat) : Prop := ∃ s r q, Trio w wr M N R s r q k ∧ Sim s r ∧ s.ws.length = n ∧ q.ws = [] ∧ q.t = 0 ∧ q.a = 0
theorem OrdAt.below {w wr : World} {M N R n k : Nat} (h : OrdAt w wr M N R n k) : Below w.heap.size w wr := by obtain ⟨s, r, q, h, _⟩ := h; exact h.below

set_option maxHeartbeats 32000000 in
set_option maxRecDepth 100000 in
theorem order_in (n : Nat) (x : Option Addr) (m cx : Nat) (ls : List Ev) (y : Option Addr) (L cap : Nat) (os : List OpV) (w : World) (h1 : 1 ≤ n) (h2 : n ≤ 60) (hm : m ≤ 40) (hL : L ≤ 80) (hE : EventIn w x m cx ls) (hO : OpIn w y L cap os) (hf : fewB (n : Int) m os = true) :
    Calls Try.prog 9 #[.int .i64 (n : Int), .slice x m cx, .slice y L cap] w fun e w' => e = .returned (.bool true) ∧ Below w.heap.size w w' := by
  have HV := Lib.hid (live12_any w)
  have HF := Lib.hid (fun w1 (hb : Below w.heap.size w w1) => few_mem (n : Int) x m cx y L cap os w1 ((hO.2.2.2.1.below hb).more hb.size) hO.1 (by omega) (by omega))
  rw [hf] at HF
  have HN := Lib.hid (fun w1 (hb : Below w.heap.size w w1) => mNew_ok n x m cx ls w1 h1 (by omega) (hE.2.2.2.1.since hb) hE.1 hE.2.2.2.2 (by omega))
  have HN2 := Lib.hid (fun w1 x' c' (hr : ReadsE w1 w1.heap.size x' ls.reverse) => mNew_ok n x' m c' ls.reverse w1 h1 (by omega) hr (by rw [List.length_reverse]; exact hE.1) (fun s hs => hE.2.2.2.2 s (List.mem_reverse.1 hs)) (by omega))
  have HX := Lib.hid hE.2.2.2.1
  have HXl := Lib.hid hE.1
  have HO := Lib.hid hO
  have d1 : decide ((n : Int) < 1) = false := by simp; omega
  clear hO hf hE
  go_enter Try.func9, Try.ntmps9
  go_wp2_with (first
    | (go_at_call 10; refine HV.out.mono ?_; clear HV; rintro e w1 ⟨rfl, hb1⟩; have B1 := Lib.hid hb1; clear hb1)
    | (go_at_call 11; refine (HF.out w1 B1.out).mono ?_; clear HF; rintro e w2 ⟨rfl, hb2⟩; have B2 := Lib.hid (below_on B1.out hb2); clear hb2 B1))
  go_loopw [7, 38] (fun v i wr => ∃ (k : Nat) (o : Value), k ≤ m ∧ i = .int .i64 k ∧ o = v ∧ Hid (OwnsE wr w.heap.size o (ls.reverse.take k) ∧ Below w.heap.size w wr)) (fun _ i _ => m - (intOf i).toNat)
  case atStart => exact ⟨0, _, Nat.zero_le _, rfl, rfl, Lib.hid ⟨OwnsE.nil, B2.out⟩⟩
  case round =>
    clear B2
    obtain ⟨k, o, hk, rfl, rfl, HI⟩ := hrel
    by_cases hlt : k < m
    · obtain ⟨b, off, rfl, hb, hc⟩ := (HX.out.below HI.out.2) (by have := HXl.out; omega)
      obtain ⟨j, hj⟩ : ∃ j, j = m - 1 - k := ⟨_, rfl⟩
      have hcu := hc j (by have := HXl.out; omega)
      have HT := Lib.hid (rev_take ls k (by have := HXl.out; omega))
      rw [HXl.out, ← hj] at HT
      have ej : (m : Int) - 1 - (k : Int) = (j : Int) := by omega
      have hjm : j < m := by omega
      have hmb : m ≤ 40 := hm
      have HLn : Hid ((ls.reverse.take k).length ≤ 40) := Lib.hid (by rw [List.length_take]; omega)
      generalize ls.reverse.take k = l0 at HT HI HLn
      generalize ls.getD j noEv = u at hcu HT
      have HSr := Lib.hid (SrcE.one wr u)
      have HB := Lib.hid (And.intro (HI.out.1.alloc (evO u)) (below_al HI.out.2 (evO u)))
      have HOB := Lib.hid HI.out.1.ownBlock
      obtain ⟨e1, e2, e3, e4, e5, e6⟩ := u
      obtain ⟨c0, c1, c2, c3, c4, c5⟩ := hcu
      unfold evO at HB HSr
      dsimp only at HB HSr c0 c1 c2 c3 c4 c5
      clear hc hj HI HX
      go_wp2_with (at_builtin; refine wpList_append_ev rfl _ _ rfl w.heap.size o _ rfl HB.out.1 (some ⟨wr.heap.size, 0, none⟩) 1 1 [⟨e1, e2, e3, e4, e5, e6⟩] rfl HSr.out (by have := HLn.out; omega) HB.out.2.size ?_; intro v' w3 hO3 hg3; have H3 := Lib.hid (And.intro hO3 (HB.out.2.grown hg3 HB.out.2.size HOB.out)); clear hO3 hg3)
      go_roundw
      case rel => exact ⟨k + 1, v', by omega, by go_num, rfl, Lib.hid (by rw [HT.out]; exact H3.out)⟩
      case measure => simp [intOf]; omega
    · have hke : ls.reverse.take k = ls.reverse := List.take_of_length_le (by rw [List.length_reverse]; have := HXl.out; omega)
      have hI := HI.out
      rw [hke] at hI
      obtain ⟨xo, ko, rfl, -, -, -, -⟩ := hI.1.form
      rw [List.length_reverse, HXl.out] at hI ⊢
      have HI2 := Lib.hid hI
      have HP : Hid (ls.Perm ls.reverse) := Lib.hid (List.reverse_perm ls).symm
      clear hI HI hke HX
      go_wp2_with (first
        | (go_at_call 12; refine (HN.out wr HI2.out.2).mono ?_; clear HN; rintro e w3 ⟨M, rfl, hm3, hb3⟩; have A3 := Lib.hid (And.intro hm3 hb3); have K2 := Lib.hid (HN2.out w3 xo ko ((HI2.out.1.below hb3).reads)); clear hm3 hb3 HN2)
        | (go_at_call 12; refine K2.out.mono ?_; clear K2; rintro e w4 ⟨N, rfl, hm4, hb4⟩; have A4 : Hid (OrdAt w (w4.alloc (memO (.slice none 0 0))) M N w4.heap.size n 0) := Lib.hid ⟨_, _, _, Trio.made HI2.out.2 A3.out.1 A3.out.2 hm4 hb4 (MM.raw w4) (below_al (Below.refl _ _) _) rfl rfl rfl rfl rfl rfl, Sim.made n HP.out, newS_len n ls, rfl, rfl, rfl⟩; unfold memO at A4; clear hm4 hb4 A3))
      obtain ⟨R, hR⟩ : ∃ R, R = w4.heap.size := ⟨_, rfl⟩
      rw [← hR] at A4 ⊢
      clear hR
      go_loopw [81] (fun i wr => ∃ k : Nat, k ≤ L ∧ i = .int .i64 k ∧ Hid (OrdAt w wr M N R n (k * 3))) (fun i _ => L - (intOf i).toNat)
      case atStart => exact ⟨0, Nat.zero_le _, rfl, A4⟩
      case round =>
        clear A4 HI2 HP
        obtain ⟨k, hk, rfl, HI⟩ := hrel
        by_cases hlt : k < L
        · obtain ⟨b, off, rfl, hb, hcu⟩ := HO.out.cells HI.out.below hlt
          have hnum := (HO.out.at hlt).num
          have hrd : ReadsE w w.heap.size (os.getD k noOp).x (os.getD k noOp).es := (HO.out.at hlt).2.2.2.2.2.2.1
          obtain ⟨s, r, q, hT, hS, hl, q1, q2, q3⟩ := HI.out
          obtain ⟨o, ho⟩ : ∃ o, o = os.getD k noOp := ⟨_, rfl⟩
          rw [← ho] at hcu hnum hrd
          have HT0 := Lib.hid (hT.op o)
          have D1 := Lib.hid (fun (W : World) s r q j (h : Tri w W wr.heap.size o M N R s r q j) (hj : j ≤ 1000000) => h.first hnum hrd hj)
          have D2 := Lib.hid (fun (W : World) s r q j (h : Tri w W wr.heap.size o M N R s r q j) (hj : j ≤ 1000000) => h.second hnum hrd hj)
          have D3 := Lib.hid (fun (W : World) s r q j (h : Tri w W wr.heap.size o M N R s r q j) (hj : j ≤ 1000000) => h.third hnum hrd hj)
          have DN := Lib.hid (fun (W : World) => do_nil o W hnum)
          have K1 := Lib.hid (D1.out _ s r q (k * 3) HT0.out (by omega))
          have hSo := hS.op o
          have hq := opS_raw q1 q2 q3 o
          have HE := Lib.hid (show ∀ W, Tri w W wr.heap.size o M N R (opS o s) (opS o r) (opS o q) (k * 3 + 1 + 1 + 1) → OrdAt w W M N R n ((k + 1) * 3) from fun W h => ⟨_, _, _, h.trio.more (by omega), hSo.1, by rw [opS_len]; exact hl, hq.1, hq.2.1, hq.2.2.1⟩)
          have HE1 := Lib.hid hSo.2
          have HE2 := Lib.hid hq.2.2.2
          have HA : Hid (∀ W s r q j, Tri w W wr.heap.size o M N R s r q j → OpAt W wr.heap.size 0 o) := Lib.hid (fun W s r q j h => h.opAt)
          clear hT hS hl q1 q2 q3 HI hSo hq D1 HT0 hrd
          obtain ⟨kd, ad, wd, ux, um, uc, es⟩ := o
          have hum : es.length = um := hnum.2.2.2.1
          have hnum1 := hnum.1
          clear hnum ho
          obtain ⟨k0, k1, k2, k3⟩ := hcu
          unfold opA at K1 D2 D3 DN
          dsimp only at k0 k1 k2 k3 hnum1 K1 D2 D3 DN HE2
          obtain ⟨v1, hv1⟩ : ∃ v, v = opT ⟨kd, ad, wd, ux, um, uc, es⟩ s := ⟨_, rfl⟩
          obtain ⟨v2, hv2⟩ : ∃ v, v = opE ⟨kd, ad, wd, ux, um, uc, es⟩ s := ⟨_, rfl⟩
          rw [← hv1, ← hv2] at K1 HE1
          clear hv1 hv2
          obtain ⟨kk, rfl⟩ : ∃ kk : Nat, kd = (kk : Int) := ⟨kd.toNat, by omega⟩
          obtain ⟨rr, hr⟩ : ∃ rr : Nat, (kk : Int) % 4 = (rr : Int) := ⟨kk % 4, by omega⟩
          have hrb : rr < 4 := by omega
          rw [hr] at HE2
          have hpart : ∃ er : Int, (if (rr : Int) = 3 then nxR es else 1) = er ∧ ((((rr : Int) != 3) = false ∧ decide ((1024 : Int) < (um : Int)) = false ∧ er = 0) ∨ er = 1) := by
            refine ⟨_, rfl, ?_⟩
            by_cases c3 : rr = 3
            · subst c3
              rw [if_pos (show ((3 : Nat) : Int) = 3 from rfl)]
              unfold nxR
              by_cases c : es.length ≤ 1024
              · rw [if_pos c]; exact .inl ⟨rfl, by simp; omega, rfl⟩
              · rw [if_neg c]; exact .inr rfl
            · rw [if_neg (by omega)]; exact .inr rfl
          obtain ⟨er, he, hcase⟩ := hpart
          rw [he] at HE2
          clear he hum
          rcases hcase with ⟨q1, q2, rfl⟩ | rfl
          all_goals
            go_wp2_with (first
              | (go_at_call 14; refine K1.out.mono ?_; clear K1 k0 k1 k2 k3; rintro e w5 ⟨rfl, h5⟩; obtain ⟨p0, p1, p2, p3⟩ := HA.out _ _ _ _ _ h5; rw [Nat.zero_add] at p1 p2 p3; dsimp only at p0 p1 p2 p3; have K2 := Lib.hid (D2.out _ _ _ _ _ h5 (by omega)); rw [← HE1.out.1, ← HE1.out.2] at K2; clear h5 D2)
              | (go_at_call 14; refine K2.out.mono ?_; clear K2 p0 p1 p2 p3; rintro e w6 ⟨rfl, h6⟩; obtain ⟨p0, p1, p2, p3⟩ := HA.out _ _ _ _ _ h6; rw [Nat.zero_add] at p1 p2 p3; dsimp only at p0 p1 p2 p3; have T6 := Lib.hid h6; have K3 := Lib.hid (DN.out w6); clear h6 DN)
              | (go_at_call 14; refine K3.out.mono ?_; clear K3 p0 p1 p2 p3; rintro e w7 ⟨rfl, hb7⟩; have h7 := T6.out.quiet hb7; obtain ⟨p0, p1, p2, p3⟩ := HA.out _ _ _ _ _ h7; rw [Nat.zero_add] at p1 p2 p3; dsimp only at p0 p1 p2 p3; have K4 := Lib.hid (D3.out _ _ _ _ _ h7 (by omega)); rw [HE2.out.1, HE2.out.2] at K4; clear h7 hb7 T6 D3)
              | (go_at_call 14; refine K4.out.mono ?_; clear K4 p0 p1 p2 p3; rintro e w8 ⟨rfl, h8⟩; obtain ⟨p0, p1, p2, p3⟩ := HA.out _ _ _ _ _ h8; rw [Nat.zero_add] at p1 p2 p3; dsimp only at p0 p1 p2 p3; have T8 := Lib.hid (HE.out _ h8); clear h8))
            go_roundw
            case rel => exact ⟨k + 1, by omega, by congr 1, T8⟩
            case measure => simp [intOf]; omega
        · obtain ⟨s, r, q, hT, hS, hl, q1, q2, q3⟩ := HI.out
          have T1 := Lib.hid hT
          have K1 := Lib.hid hT.words
          have HS := Lib.hid hS.ws
          have HQ := Lib.hid (And.intro q1 (And.intro q2 q3))
          have hkb : k * 3 ≤ 1000 := by omega
          have KW := Lib.hid (fun W => Words_nil W)
          have KT := Lib.hid (fun W => Ticks_nil W)
          have KA := Lib.hid (fun W => All_nil W)
          have HSl := Lib.hid hl
          clear HI hT hS hl q1 q2 q3
          go_wp2_with (first
            | (go_at_call 22; refine K1.out.mono ?_; clear K1; rintro e w2 ⟨x2, c2, rfl, hO2, hB2⟩; rw [HSl.out] at hO2 ⊢; have T2 := Lib.hid (T1.out.quiet hB2); have O2 := Lib.hid hO2; have K2 := Lib.hid T2.out.rot.words; rw [← HS.out] at K2; clear hO2 hB2 T1)
            | (go_at_call 22; refine K2.out.mono ?_; clear K2; rintro e w3 ⟨x3, c3, rfl, hO3, hB3⟩; rw [HSl.out] at hO3 ⊢; have T3 := Lib.hid (T2.out.quiet hB3); have K3 := Lib.hid (sameW_any x2 x3 n n c2 c3 s.ws s.ws w3 _ (O2.out.below hB3).rd hO3.rd HSl.out HSl.out (by omega) (by omega)); rw [decide_eq_true rfl] at K3; clear hO3 hB3 T2)
            | (go_at_call 23; refine K3.out.mono ?_; clear K3; rintro e w4 ⟨rfl, nq, rfl⟩; have T4 := Lib.hid (T3.out.quiet (draws_below _ _ nq)); clear T3)
            | (go_at_call 22; refine (KW.out _).mono ?_; clear KW; rintro e w5 ⟨rfl, rfl⟩)
            | (go_at_call 18; refine (KT.out _).mono ?_; clear KT; rintro e w5 ⟨rfl, rfl⟩)
            | (go_at_call 20; refine (KA.out _).mono ?_; clear KA; rintro e w5 ⟨rfl, rfl⟩)
            | (go_at_call 22; refine T4.out.rot.rot.words.mono ?_; rintro e w6 ⟨x6, c6, rfl, hO6, hB6⟩; rw [HQ.out.1, List.length_nil]; have T6 := Lib.hid (T4.out.quiet hB6); have K6 := Lib.hid (T6.out.rot.rot.all (by omega)); rw [HQ.out.2.1, HQ.out.2.2] at K6; clear hO6 hB6 T4)
            | (go_at_call 20; refine K6.out.mono ?_; clear K6; rintro e w7 ⟨rfl, nq, rfl⟩; have T7 := Lib.hid (T6.out.quiet (draws_below _ _ nq)); have K7 := Lib.hid T7.out.rot.rot.ticks; rw [HQ.out.2.1] at K7; clear T6)
            | (go_at_call 18; refine K7.out.mono ?_; clear K7; rintro e w8 ⟨rfl, rfl⟩))
          go_ret
          exact ⟨rfl, T7.out.below⟩

set_option maxRecDepth 100000 in
theorem walk_MemOrder (a : Int) (x : Option Addr) (m cx : Nat) (ls : List Ev) (y : Option Addr) (L cap : Nat) (os : List OpV) (w : World) (ha : (Lit.int .i64 a).wf = true) (hE : EventIn w x m cx ls) (_hb : m ≤ 2932031007403) (hO : OpIn w y L cap os) :
    Calls Try.prog 9 #[.int .i64 a, .slice x m cx, .slice y L cap] w fun e w' => e = .returned (.bool true) ∧ Below w.heap.size w w' := by
  obtain ⟨a0, a1⟩ := i64_of ha
  have hl : L ≤ 9223372036854775807 := by have := hO.2.1.1; have := hO.2.2.1; unfold maxLen at this; omega
  have HV := Lib.hid (live12_any w)
  by_cases h1 : a < 1
  · have d1 : decide (a < 1) = true := by simpa using h1
    go_enter Try.func9, Try.ntmps9
    go_wp2_with (go_at_call 10; refine HV.out.mono ?_; clear HV; rintro e w1 ⟨rfl, hb1⟩; have B1 := Lib.hid hb1; clear hb1)
    go_ret
    exact ⟨rfl, B1.out⟩
  · cases hf : fewB a m os
    · have d1 : decide (a < 1) = false := by simpa using h1
      have HF := Lib.hid (fun w1 (hb : Below w.heap.size w w1) => few_mem a x m cx y L cap os w1 ((hO.2.2.2.1.below hb).more hb.size) hO.1 hl ⟨a0, a1⟩)
      rw [hf] at HF
      clear hO hf hE
      go_enter Try.func9, Try.ntmps9
      go_wp2_with (first
        | (go_at_call 10; refine HV.out.mono ?_; clear HV; rintro e w1 ⟨rfl, hb1⟩; have B1 := Lib.hid hb1; clear hb1)
        | (go_at_call 11; refine (HF.out w1 B1.out).mono ?_; clear HF; rintro e w2 ⟨rfl, hb2⟩; have B2 := Lib.hid (below_on B1.out hb2); clear hb2))
      go_ret
      exact ⟨rfl, B2.out⟩
    · obtain ⟨h4, h2, h3, -⟩ := fewB_in hf
      obtain ⟨n, rfl⟩ : ∃ n : Nat, a = (n : Int) := ⟨a.toNat, by omega⟩
      exact order_in n x m cx ls y L cap os w (by omega) (by omega) h4 (by rw [← hO.1]; exact h3) hE hO hf

end Go.Proofs.Ytaphhgiocahnhaa
