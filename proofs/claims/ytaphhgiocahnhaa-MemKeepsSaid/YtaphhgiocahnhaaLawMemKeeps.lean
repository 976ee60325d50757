/-
  The walk of MemKeeps: without events what was stored last is loaded, and 0 where nothing was.
-/
import Derived.Test.YtaphhgiocahnhaaMemLaw
namespace Go.Proofs.Ytaphhgiocahnhaa
open Go.RowKit Go.Sort

/-- In front of each op: a memory without events, and beside it a row of the same words. -/
def KeepAt (w wr : World) (M g n k : Nat) : Prop := ∃ F s, At w wr F M s k ∧ s.es = [] ∧ s.ws.length = n ∧ Owns .u64 33 wr w.heap.size (.slice (some ⟨g, 0, none⟩) n n) s.ws ∧ ¬ F g

theorem KeepAt.quiet {w wr w' : World} {M g n k : Nat} (h : KeepAt w wr M g n k) (hb : Below wr.heap.size wr w') : KeepAt w w' M g n k := by
  obtain ⟨F, s, h1, h2, h3, h4, h5⟩ := h
  exact ⟨F, s, h1.quiet hb, h2, h3, h4.below hb, h5⟩

/-- Behind an op. -/
def DidAt (w wr : World) (M g n k : Nat) (o : OpV) (ws : List Int) (s5 : MS) (w5 : World) : Prop := (∃ F5, At w w5 F5 M s5 (k + 1) ∧ ¬ F5 g) ∧ Owns .u64 33 w5 w.heap.size (.slice (some ⟨g, 0, none⟩) n n) ws ∧ OpAt w5 wr.heap.size 0 o

section
variable {w wr w5 : World} {M g n k : Nat} {o : OpV} {ws : List Int} {s5 : MS}
theorem DidAt.of {F : Nat → Prop} {s : MS} (hA : At w wr F M s k) (hR : Owns .u64 33 wr w.heap.size (.slice (some ⟨g, 0, none⟩) n n) ws) (hg : ¬ F g) (h5 : Struck (wr.alloc (opO o)) F M (opS o s) w5) : DidAt w wr M g n k o ws (opS o s) w5 := by
  have hsz : (wr.alloc (opO o)).heap.size = wr.heap.size + 1 := by simp
  have hgl := (hR.blockLt (g := g) rfl).2
  refine ⟨⟨_, hA.did (below_al (Below.refl _ _) _) o h5, fun c => c.elim hg fun c => by have := c.1; omega⟩, (hR.alloc (opO o)).stay fun g' e => ?_, (OpAt.new wr o).block (h5.2.block _ (by omega) fun c => by have := hA.mem.lt _ c; omega)⟩
  simp only [Value.ownBlock, Option.some.injEq] at e
  subst e
  exact h5.2.block g (by omega) hg
theorem DidAt.same (h : DidAt w wr M g n k o ws s5 w5) (he : s5.es = []) (hl : ws.length = n) (hw : s5.ws = ws) : KeepAt w w5 M g n (k + 1) := by
  obtain ⟨⟨F5, h1, h2⟩, h3, _⟩ := h
  exact ⟨F5, s5, h1, he, by rw [hw]; exact hl, by rw [hw]; exact h3, h2⟩
theorem DidAt.set (h : DidAt w wr M g n k o ws s5 w5) (he : s5.es = []) (hl : ws.length = n) {j : Nat} {u : Int} (hw : s5.ws = ws.set j u) : KeepAt w (w5.setCell ⟨g, j, none⟩ (.int .u64 u)) M g n (k + 1) := by
  obtain ⟨⟨F5, h1, h2⟩, h3, _⟩ := h
  have hgl := (h3.blockLt (g := g) rfl).1
  refine ⟨F5, s5, h1.but (But.setCell w5 g j _) (fun k c e => h2 (e ▸ c)) (fun k e => by omega), he, by rw [hw, List.length_set]; exact hl, ?_, h2⟩
  rw [hw]
  exact h3.set hl j u
end

set_option maxHeartbeats 16000000 in
set_option maxRecDepth 100000 in
theorem keeps_in (n : Nat) (y : Option Addr) (L cap : Nat) (os : List OpV) (w : World) (h1 : 1 ≤ n) (h2 : n ≤ 60) (hL : L ≤ 80) (hO : OpIn w y L cap os) (hf : fewB (n : Int) 0 os = true) :
    Calls Try.prog 4 #[.int .i64 (n : Int), .slice y L cap] w fun e w' => e = .returned (.bool true) ∧ Below w.heap.size w w' := by
  obtain ⟨i0, hi, hz0, hz1, hz2⟩ := info_parts info_u64
  have HZ2 := Lib.hid hz2
  have HV := Lib.hid (live12_any w)
  have HF := Lib.hid (fun w1 (hb : Below w.heap.size w w1) => few_mem (n : Int) none 0 0 y L cap os w1 ((hO.2.2.2.1.below hb).more hb.size) hO.1 (by omega) (by omega))
  rw [hf] at HF
  have HN := Lib.hid (fun w1 => mNew_ok n none 0 0 [] w1 h1 (by omega) ReadsE.nil rfl (by intro s hs; cases hs) (by omega))
  have HO := Lib.hid hO
  have d1 : decide ((n : Int) < 1) = false := by simp; omega
  clear hz2 hO hf
  go_enter Try.func4, Try.ntmps4
  go_wp2_with (first
    | (go_at_call 10; refine HV.out.mono ?_; clear HV; rintro e w1 ⟨rfl, hb1⟩; have B1 := Lib.hid hb1; clear hb1)
    | (go_at_call 11; refine (HF.out w1 B1.out).mono ?_; clear HF; rintro e w2 ⟨rfl, hb2⟩; have B2 := Lib.hid (below_on B1.out hb2); clear hb2)
    | (go_at_call 12; refine (HN.out w2).mono ?_; clear HN; rintro e w3 ⟨M, rfl, hm3, hb3⟩; have A3 := Lib.hid (And.intro (At.made B2.out hm3 hb3 rfl rfl) (below_on B2.out hb3).size); clear hm3 hb3)
    | (at_make; refine wpList_make_full _ rfl _ _ 42 rfl w3.heap.size 33 i0 (.int .u64 0) 1 Try.underlying42 hi hz0 hz1 .i64 .i64 _ _ n rfl rfl rfl rfl (by rw [HZ2.out]; omega) (by unfold maxLen; omega) (Nat.le_refl _) ?_; intro w4 hown hgrow; have A4 : Hid (KeepAt w w4 M w3.heap.size n 0) := Lib.hid ⟨_, _, A3.out.1.quiet ((Below.refl w3.heap.size w3).grown hgrow (Nat.le_refl _) (fun k e => by cases e)), rfl, newS_len n [], (Owns.made hown).mono A3.out.2, fun c => by have := c.2; omega⟩; clear hown hgrow))
  obtain ⟨g, hg⟩ : ∃ g, g = w3.heap.size := ⟨_, rfl⟩
  rw [← hg] at A4 ⊢
  clear hg A3 B1 B2 HZ2 hi hz0 hz1
  go_loopw [38] (fun i wr => ∃ k : Nat, k ≤ L ∧ i = .int .i64 k ∧ Hid (KeepAt w wr M g n k)) (fun i _ => L - (intOf i).toNat)
  case atStart => exact ⟨0, Nat.zero_le _, rfl, A4⟩
  case round =>
    clear A4
    obtain ⟨k, hk, rfl, HI⟩ := hrel
    obtain ⟨F, s, hA, hes, hlen, hR, hFg⟩ := HI.out
    by_cases hlt : k < L
    · obtain ⟨b, off, rfl, hb, hcu⟩ := HO.out.cells hA.below hlt
      have hnum := (HO.out.at hlt).num
      obtain ⟨o, ho⟩ : ∃ o, o = os.getD k noOp := ⟨_, rfl⟩
      rw [← ho] at hcu hnum
      have HD := Lib.hid ((do_any F M s (bare o) (wr.alloc (opO (bare o))) (hA.mem.below (below_al (Below.refl _ _) _)) hnum.bare rdF_nil (hA.cnt (by omega))).mono (fun e w5 (h : Tolds _ _ _ _ _ e w5) => (And.intro h.1 (DidAt.of hA hR hFg h.2) : e = _ ∧ DidAt w wr M g n k (bare o) s.ws (opS (bare o) s) w5)))
      have HS := Lib.hid (opS_bare (o := o) hes)
      have HT := Lib.hid (opT_bare (o := o) hes)
      have HE := Lib.hid (opE_bare (o := o) (s := s))
      rw [HT.out, HE.out] at HD
      clear HT HE
      unfold opA opO at HD
      have HW := Lib.hid (fun W (h : KeepAt w W M g n (k + 1)) => (show ∃ F6 s6, (At w W F6 M s6 (k + 1) ∧ Owns .u64 33 W w.heap.size (.slice (some ⟨g, 0, none⟩) n n) s6.ws ∧ s6.ws.length = n) from by obtain ⟨F6, s6, h1, _, h2, h3, _⟩ := h; exact ⟨F6, s6, h1, h3, h2⟩))
      obtain ⟨k0, k1, k2, k3⟩ := hcu
      have HL := Lib.hid hlen
      have hnum1 := hnum.1
      have hnum2 := hnum.2.1
      have hnum3 := hnum.2.2.1
      clear ho HI hA hes hR hFg hnum
      obtain ⟨kd, ad, wd, x, m, c, es⟩ := o
      obtain ⟨ws, wes, wt, wa⟩ := s
      dsimp only at k0 k1 k2 k3 HS hlen HL hnum1 hnum2 hnum3 HD
      rw [hlen] at HD HS
      clear hlen
      generalize opS (bare ⟨kd, ad, wd, x, m, c, es⟩) ⟨ws, wes, wt, wa⟩ = s5 at HD HS
      unfold bare at HD
      dsimp only at HD
      obtain ⟨kk, rfl⟩ : ∃ kk : Nat, kd = (kk : Int) := ⟨kd.toNat, by omega⟩
      obtain ⟨r, hr⟩ : ∃ r : Nat, (kk : Int) % 4 = (r : Int) := ⟨kk % 4, by omega⟩
      have hrb : r < 4 := by omega
      rw [hr] at HD HS
      cases hp : hasP n ad
      · have hno := hasP_no hp
        rw [hp] at HD HS
        have K6 := Lib.hid (fun w5 (h : DidAt w wr M g n k ⟨(kk : Int), ad, wd, none, 0, 0, []⟩ ws s5 w5) => h.same HS.out.1 HL.out (by rw [HS.out.2, if_neg (by simp)]))
        have hd : (decide (0 ≤ ad) = false) ∨ (decide (0 ≤ ad) = true ∧ decide (ad < (n : Int)) = false) := by
          simp only [decide_eq_true_eq, decide_eq_false_iff_not]
          omega
        have hrc : (((r : Int) == 2) = true ∧ (if (r : Int) = 3 ∨ false = true then (0 : Int) else 1) = 1) ∨ (((r : Int) == 2) = false ∧ ((r : Int) == 3) = true ∧ (if (r : Int) = 3 ∨ false = true then (0 : Int) else 1) = 0) ∨ (((r : Int) == 2) = false ∧ ((r : Int) == 3) = false ∧ (if (r : Int) = 3 ∨ false = true then (0 : Int) else 1) = 1) := by
          have : r = 0 ∨ r = 1 ∨ r = 2 ∨ r = 3 := by omega
          rcases this with rfl | rfl | rfl | rfl <;> simp
        rw [if_pos (.inr (.inr rfl))] at HD
        clear HS HL hp hno
        rcases hd with d0 | ⟨d0, d3⟩ <;> rcases hrc with ⟨t2, e⟩ | ⟨t2, t3, e⟩ | ⟨t2, t3, e⟩
        all_goals
          rw [e] at HD
          clear e
          go_wp2_with (first
            | (go_at_call 14; refine HD.out.mono ?_; clear HD; rintro e w5 ⟨rfl, hd5⟩; obtain ⟨q0, q1, q2, -⟩ := hd5.2.2; rw [Nat.zero_add] at q1 q2; dsimp only at q0 q1 q2; have P6 := Lib.hid (K6.out w5 hd5); clear hd5)
            | (go_at_call 22; obtain ⟨F6, s6, hA6, hR6, hl6⟩ := HW.out _ P6.out; refine (Words_any F6 M s6 _ hA6.mem).mono ?_; rintro e w7 ⟨x7, c7, rfl, hO7, hb7⟩; have P7 := Lib.hid (P6.out.quiet hb7); have K7 := Lib.hid (sameW_any x7 (some ⟨g, 0, none⟩) s6.ws.length n c7 n s6.ws s6.ws w7 _ hO7.rd (hR6.below hb7).rd rfl hl6 (by omega) (by omega)); rw [decide_eq_true rfl] at K7; clear hA6 hR6 hl6 hO7 hb7 P6)
            | (go_at_call 23; refine K7.out.mono ?_; clear K7; rintro e w8 ⟨rfl, nq, rfl⟩; have P8 := Lib.hid (P7.out.quiet (draws_below _ _ nq)); clear P7))
          go_roundw
          case rel => exact ⟨k + 1, by omega, by congr 1, P8⟩
          case measure => simp [intOf]; omega
      · obtain ⟨hi0, hi1⟩ := hasP_in hp
        obtain ⟨j, rfl⟩ : ∃ j : Nat, ad = (j : Int) := ⟨ad.toNat, by omega⟩
        have hjn : j < n := by omega
        rw [hp] at HD HS
        rw [if_pos (show (r : Int) = 3 ∨ true = true from .inr rfl), Int.toNat_natCast] at HD
        rw [Int.toNat_natCast] at HS
        have HC := Lib.hid (fun w5 (h : DidAt w wr M g n k ⟨(kk : Int), (j : Int), wd, none, 0, 0, []⟩ ws s5 w5) => And.intro (h.2.1.cell HL.out hjn) (h.2.1.frozen HL.out j))
        have hdj : decide (j < n) = true := by simpa using hjn
        have hdj' : decide ((j : Int) < (n : Int)) = true := by simpa using hjn
        clear hp hi0 hi1 hnum2
        by_cases c2 : r = 2
        · subst c2
          have p2 : ((2 : Nat) : Int) = 2 := rfl
          rw [if_pos (.inl p2)] at HD
          have K6 := Lib.hid (fun w5 (h : DidAt w wr M g n k ⟨(kk : Int), (j : Int), wd, none, 0, 0, []⟩ ws s5 w5) => h.set HS.out.1 HL.out (j := j) (u := wd) (by rw [HS.out.2, if_pos ⟨p2, rfl⟩]))
          clear HS HL p2
          go_wp2_with (first
            | (go_at_call 14; refine HD.out.mono ?_; clear HD; rintro e w5 ⟨rfl, hd5⟩; obtain ⟨q0, q1, q2, -⟩ := hd5.2.2; rw [Nat.zero_add] at q1 q2; dsimp only at q0 q1 q2; obtain ⟨r0, r1⟩ := HC.out w5 hd5; have P6 := Lib.hid (K6.out w5 hd5); clear hd5)
            | (go_at_call 22; obtain ⟨F6, s6, hA6, hR6, hl6⟩ := HW.out _ P6.out; refine (Words_any F6 M s6 _ hA6.mem).mono ?_; rintro e w7 ⟨x7, c7, rfl, hO7, hb7⟩; have P7 := Lib.hid (P6.out.quiet hb7); have K7 := Lib.hid (sameW_any x7 (some ⟨g, 0, none⟩) s6.ws.length n c7 n s6.ws s6.ws w7 _ hO7.rd (hR6.below hb7).rd rfl hl6 (by omega) (by omega)); rw [decide_eq_true rfl] at K7; clear hA6 hR6 hl6 hO7 hb7 P6)
            | (go_at_call 23; refine K7.out.mono ?_; clear K7; rintro e w8 ⟨rfl, nq, rfl⟩; have P8 := Lib.hid (P7.out.quiet (draws_below _ _ nq)); clear P7))
          go_roundw
          case rel => exact ⟨k + 1, by omega, by congr 1, P8⟩
          case measure => simp [intOf]; omega
        · have K6 := Lib.hid (fun w5 (h : DidAt w wr M g n k ⟨(kk : Int), (j : Int), wd, none, 0, 0, []⟩ ws s5 w5) => h.same HS.out.1 HL.out (by rw [HS.out.2, if_neg (fun c => c2 (by have := c.1; omega))]))
          have t2 : ((r : Int) == 2) = false := by simp; omega
          obtain ⟨z, hz⟩ : ∃ z, z = ws.getD j 0 := ⟨_, rfl⟩
          rw [← hz] at HC HD
          have hv : (((r : Int) == 3) = true ∧ (if (r : Int) = 2 ∨ (r : Int) = 3 ∨ true = false then (0 : Int) else z) = 0) ∨ (((r : Int) == 3) = false ∧ (if (r : Int) = 2 ∨ (r : Int) = 3 ∨ true = false then (0 : Int) else z) = z) := by
            have : r = 0 ∨ r = 1 ∨ r = 3 := by omega
            rcases this with rfl | rfl | rfl <;> simp
          clear HS HL c2 hz
          rcases hv with ⟨t3, e⟩ | ⟨t3, e⟩
          all_goals
            rw [e] at HD
            clear e
            go_wp2_with (first
              | (go_at_call 14; refine HD.out.mono ?_; clear HD; rintro e w5 ⟨rfl, hd5⟩; obtain ⟨q0, q1, q2, -⟩ := hd5.2.2; rw [Nat.zero_add] at q1 q2; dsimp only at q0 q1 q2; obtain ⟨r0, r1⟩ := HC.out w5 hd5; have P6 := Lib.hid (K6.out w5 hd5); clear hd5)
              | (go_at_call 22; obtain ⟨F6, s6, hA6, hR6, hl6⟩ := HW.out _ P6.out; refine (Words_any F6 M s6 _ hA6.mem).mono ?_; rintro e w7 ⟨x7, c7, rfl, hO7, hb7⟩; have P7 := Lib.hid (P6.out.quiet hb7); have K7 := Lib.hid (sameW_any x7 (some ⟨g, 0, none⟩) s6.ws.length n c7 n s6.ws s6.ws w7 _ hO7.rd (hR6.below hb7).rd rfl hl6 (by omega) (by omega)); rw [decide_eq_true rfl] at K7; clear hA6 hR6 hl6 hO7 hb7 P6)
              | (go_at_call 23; refine K7.out.mono ?_; clear K7; rintro e w8 ⟨rfl, nq, rfl⟩; have P8 := Lib.hid (P7.out.quiet (draws_below _ _ nq)); clear P7))
            go_roundw
            case rel => exact ⟨k + 1, by omega, by congr 1, P8⟩
            case measure => simp [intOf]; omega
    · have HB := Lib.hid hA.below
      clear HI hA hes hlen hR hFg
      go_wp2
      go_ret
      exact ⟨rfl, HB.out⟩

/-! What is not played. -/
set_option maxRecDepth 100000 in
theorem walk_MemKeeps (a : Int) (y : Option Addr) (L cap : Nat) (os : List OpV) (w : World) (ha : (Lit.int .i64 a).wf = true) (hO : OpIn w y L cap os) :
    Calls Try.prog 4 #[.int .i64 a, .slice y L cap] w fun e w' => e = .returned (.bool true) ∧ Below w.heap.size w w' := by
  obtain ⟨a0, a1⟩ := i64_of ha
  have hl : L ≤ 9223372036854775807 := by have := hO.2.1.1; have := hO.2.2.1; unfold maxLen at this; omega
  have HV := Lib.hid (live12_any w)
  by_cases h1 : a < 1
  · have d1 : decide (a < 1) = true := by simpa using h1
    go_enter Try.func4, Try.ntmps4
    go_wp2_with (go_at_call 10; refine HV.out.mono ?_; clear HV; rintro e w1 ⟨rfl, hb1⟩; have B1 := Lib.hid hb1; clear hb1)
    go_ret
    exact ⟨rfl, B1.out⟩
  · cases hf : fewB a 0 os
    · have d1 : decide (a < 1) = false := by simpa using h1
      have HF := Lib.hid (fun w1 (hb : Below w.heap.size w w1) => few_mem a none 0 0 y L cap os w1 ((hO.2.2.2.1.below hb).more hb.size) hO.1 hl ⟨a0, a1⟩)
      rw [hf] at HF
      clear hO hf
      go_enter Try.func4, Try.ntmps4
      go_wp2_with (first
        | (go_at_call 10; refine HV.out.mono ?_; clear HV; rintro e w1 ⟨rfl, hb1⟩; have B1 := Lib.hid hb1; clear hb1)
        | (go_at_call 11; refine (HF.out w1 B1.out).mono ?_; clear HF; rintro e w2 ⟨rfl, hb2⟩; have B2 := Lib.hid (below_on B1.out hb2); clear hb2))
      go_ret
      exact ⟨rfl, B2.out⟩
    · obtain ⟨-, h2, h3, -⟩ := fewB_in hf
      obtain ⟨n, rfl⟩ : ∃ n : Nat, a = (n : Int) := ⟨a.toNat, by omega⟩
      exact keeps_in n y L cap os w (by omega) (by omega) (by rw [← hO.1]; exact h3) hO hf

end Go.Proofs.Ytaphhgiocahnhaa
