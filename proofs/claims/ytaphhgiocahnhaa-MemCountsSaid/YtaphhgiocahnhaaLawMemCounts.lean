/-
  The walk of MemCounts: accesses are what is loaded, and stored, at places that are there; of a window by itself, and of all together.
-/
import Derived.Test.YtaphhgiocahnhaaMemLaw
namespace Go.Proofs.Ytaphhgiocahnhaa
open Go.RowKit Go.Sort

/-- In front of each op: how many accesses this window had, and all. -/
def CntAt (w wr : World) (M n k : Nat) (t al : Int) : Prop := ∃ F s, At w wr F M s k ∧ s.ws.length = n ∧ t = s.t ∧ al = s.a + s.t

section
variable {w wr w' : World} {M n k : Nat} {t al : Int}
theorem CntAt.quiet (h : CntAt w wr M n k t al) (hb : Below wr.heap.size wr w') : CntAt w w' M n k t al := by
  obtain ⟨F, s, h1, h2, h3, h4⟩ := h
  exact ⟨F, s, h1.quiet hb, h2, h3, h4⟩
theorem CntAt.bd (h : CntAt w wr M n k t al) : 0 ≤ t ∧ t ≤ al ∧ al ≤ k := by
  obtain ⟨F, s, h1, h2, rfl, rfl⟩ := h
  have := h1.t0; have := h1.a0; have := h1.sum
  omega
theorem CntAt.below (h : CntAt w wr M n k t al) : Below w.heap.size w wr := by
  obtain ⟨F, s, h1, h2, _, _⟩ := h
  exact h1.below
theorem CntAt.ticks (h : CntAt w wr M n k t al) : Calls Try.prog 18 #[.pointer (some ⟨M, 0, none⟩)] wr fun e w' => e = .returned (.int .i64 t) ∧ wr = w' := by
  obtain ⟨F, s, h1, h2, rfl, _⟩ := h
  exact Ticks_any F M s wr h1.mem
theorem CntAt.all (h : CntAt w wr M n k t al) (hk : k ≤ 1000) : Calls Try.prog 20 #[.pointer (some ⟨M, 0, none⟩)] wr (RetQ (.int .i64 al) wr) := by
  obtain ⟨F, s, h1, h2, _, rfl⟩ := h
  have hc := h1.cnt (by omega)
  exact All_any F M s wr h1.mem hc.1 hc.2
theorem CntAt.words (h : CntAt w wr M n k t al) : Calls Try.prog 22 #[.pointer (some ⟨M, 0, none⟩)] wr fun e w' => ∃ x c, e = .returned (.slice x n c) ∧ Below wr.heap.size wr w' := by
  obtain ⟨F, s, h1, rfl, _, _⟩ := h
  refine (Words_any F M s wr h1.mem).mono ?_
  rintro e w' ⟨x, c, rfl, _, hb⟩
  exact ⟨x, c, rfl, hb⟩
end

theorem opS_t (o : OpV) (s : MS) : (opS o s).t = if o.kd % 4 = 3 then (if o.es.length ≤ 1024 then 0 else s.t) else if hasP s.ws.length o.ad = true then s.t + 1 else s.t := by
  unfold opS
  by_cases h2 : o.kd % 4 = 2
  · rw [if_pos h2, if_neg (by omega)]
    unfold stS acc
    split <;> rfl
  · rw [if_neg h2]
    by_cases h3 : o.kd % 4 = 3
    · rw [if_pos h3, if_pos h3]
      unfold nxS
      split <;> rfl
    · rw [if_neg h3, if_neg h3]
      unfold ldS acc
      split <;> rfl
theorem opS_a (o : OpV) (s : MS) : (opS o s).a + (opS o s).t = if o.kd % 4 = 3 then s.a + s.t else if hasP s.ws.length o.ad = true then s.a + s.t + 1 else s.a + s.t := by
  unfold opS
  by_cases h2 : o.kd % 4 = 2
  · rw [if_pos h2, if_neg (by omega)]
    unfold stS acc
    split
    · dsimp only; omega
    · rfl
  · rw [if_neg h2]
    by_cases h3 : o.kd % 4 = 3
    · rw [if_pos h3, if_pos h3]
      unfold nxS
      split
      · dsimp only; omega
      · rfl
    · rw [if_neg h3, if_neg h3]
      unfold ldS acc
      split
      · dsimp only; omega
      · rfl
theorem opE_three {o : OpV} {s : MS} (h : o.kd % 4 = 3) : opE o s = nxR o.es := by unfold opE; rw [if_neg (by omega), if_pos h]

/-- Behind an op. -/
theorem CntAt.did {w wr : World} {M n k : Nat} {t al : Int} (h : CntAt w wr M n k t al) {y : Option Addr} {L cap : Nat} {os : List OpV} (hO : OpIn w y L cap os) {j : Nat} (hj : j < L) (hk : k ≤ 1000) {o : OpV} (ho : o = os.getD j noOp) :
    ∃ tv te, (o.kd % 4 = 3 → te = nxR o.es) ∧ Calls Try.prog 14 #[.pointer (some ⟨M, 0, none⟩), opA o] (wr.alloc (opO o)) fun e w5 => e = .returned (.tuple #[.int .u64 tv, .int .i64 te]) ∧ OpAt w5 wr.heap.size 0 o ∧
      CntAt w w5 M n (k + 1) (if o.kd % 4 = 3 then (if o.es.length ≤ 1024 then 0 else t) else if hasP n o.ad = true then t + 1 else t) (if o.kd % 4 = 3 then al else if hasP n o.ad = true then al + 1 else al) := by
  obtain ⟨F, s, h1, rfl, rfl, rfl⟩ := h
  have hnum := (hO.at hj).num
  have hx := hO.rdF (below_al h1.below (opO o)) h1.new hj
  rw [← ho] at hnum hx
  refine ⟨opT o s, opE o s, opE_three, (do_any F M s o (wr.alloc (opO o)) (h1.mem.below (below_al (Below.refl _ _) _)) hnum hx (h1.cnt (by omega))).mono ?_⟩
  rintro e w5 ⟨rfl, h5⟩
  have hsz : (wr.alloc (opO o)).heap.size = wr.heap.size + 1 := by simp
  refine ⟨rfl, (OpAt.new wr o).block (h5.2.block _ (by omega) fun c => by have := h1.mem.lt _ c; omega), _, _, h1.did (below_al (Below.refl _ _) _) o h5, opS_len o s, (opS_t o s).symm, (opS_a o s).symm⟩

set_option maxHeartbeats 16000000 in
set_option maxRecDepth 100000 in
theorem counts_in (n : Nat) (x : Option Addr) (m cx : Nat) (ls : List Ev) (y : Option Addr) (L cap : Nat) (os : List OpV) (w : World) (h1 : 1 ≤ n) (h2 : n ≤ 60) (hm : m ≤ 40) (hL : L ≤ 80) (hE : EventIn w x m cx ls) (hO : OpIn w y L cap os) (hf : fewB (n : Int) m os = true) :
    Calls Try.prog 8 #[.int .i64 (n : Int), .slice x m cx, .slice y L cap] w fun e w' => e = .returned (.bool true) ∧ Below w.heap.size w w' := by
  have HV := Lib.hid (live12_any w)
  have HF := Lib.hid (fun w1 (hb : Below w.heap.size w w1) => few_mem (n : Int) x m cx y L cap os w1 ((hO.2.2.2.1.below hb).more hb.size) hO.1 (by omega) (by omega))
  rw [hf] at HF
  have HN := Lib.hid (fun w1 (hb : Below w.heap.size w w1) => mNew_ok n x m cx ls w1 h1 (by omega) (hE.2.2.2.1.since hb) hE.1 hE.2.2.2.2 (by omega))
  have HO := Lib.hid hO
  have d1 : decide ((n : Int) < 1) = false := by simp; omega
  clear hO hf hE
  go_enter Try.func8, Try.ntmps8
  go_wp2_with (first
    | (go_at_call 10; refine HV.out.mono ?_; clear HV; rintro e w1 ⟨rfl, hb1⟩; have B1 := Lib.hid hb1; clear hb1)
    | (go_at_call 11; refine (HF.out w1 B1.out).mono ?_; clear HF; rintro e w2 ⟨rfl, hb2⟩; have B2 := Lib.hid (below_on B1.out hb2); clear hb2)
    | (go_at_call 12; refine (HN.out w2 B2.out).mono ?_; clear HN; rintro e w3 ⟨M, rfl, hm3, hb3⟩; have A3 : Hid (CntAt w w3 M n 0 0 0) := Lib.hid ⟨_, _, At.made B2.out hm3 hb3 rfl rfl, newS_len n ls, rfl, rfl⟩; clear hm3 hb3))
  go_loopw [9, 10, 40] (fun u v i wr => ∃ (k : Nat) (t al : Int), k ≤ L ∧ u = .int .i64 t ∧ v = .int .i64 al ∧ i = .int .i64 k ∧ Hid (CntAt w wr M n k t al)) (fun _ _ i _ => L - (intOf i).toNat)
  case atStart => exact ⟨0, 0, 0, Nat.zero_le _, rfl, rfl, rfl, A3⟩
  case round =>
    clear A3 B1 B2
    obtain ⟨k, t, al, hk, rfl, rfl, rfl, HI⟩ := hrel
    obtain ⟨b0, b1, b2⟩ := HI.out.bd
    by_cases hlt : k < L
    · obtain ⟨b, off, rfl, hb, hcu⟩ := HO.out.cells HI.out.below hlt
      have hnum := (HO.out.at hlt).num
      obtain ⟨o, ho⟩ : ∃ o, o = os.getD k noOp := ⟨_, rfl⟩
      obtain ⟨tv, te, hte, hD⟩ := HI.out.did HO.out hlt (by omega) ho
      have HD := Lib.hid hD
      clear hD
      rw [← ho] at hcu hnum
      obtain ⟨k0, k1, k2, k3⟩ := hcu
      have hnum1 := hnum.1
      have hnum2 := hnum.2.1
      clear ho HI hnum
      obtain ⟨kd, ad, wd, ux, um, uc, es⟩ := o
      unfold opA opO at HD
      dsimp only at k0 k1 k2 k3 hnum1 hnum2 HD hte
      obtain ⟨kk, rfl⟩ : ∃ kk : Nat, kd = (kk : Int) := ⟨kd.toNat, by omega⟩
      obtain ⟨r, hr⟩ : ∃ r : Nat, (kk : Int) % 4 = (r : Int) := ⟨kk % 4, by omega⟩
      have hrb : r < 4 := by omega
      rw [hr] at HD hte
      have hpart : ∃ (t3 : Bool) (t5 al5 : Int), ((r : Int) == 3) = t3 ∧ (if (r : Int) = 3 then (if es.length ≤ 1024 then 0 else t) else if hasP n ad = true then t + 1 else t) = t5 ∧ (if (r : Int) = 3 then al else if hasP n ad = true then al + 1 else al) = al5 ∧
          ((t3 = true ∧ te = 0 ∧ t5 = 0 ∧ al5 = al) ∨ (t3 = true ∧ te = 1 ∧ t5 = t ∧ al5 = al) ∨ (t3 = false ∧ decide (0 ≤ ad) = true ∧ decide (ad < (n : Int)) = true ∧ t5 = t + 1 ∧ al5 = al + 1) ∨
           (t3 = false ∧ decide (0 ≤ ad) = true ∧ decide (ad < (n : Int)) = false ∧ t5 = t ∧ al5 = al) ∨ (t3 = false ∧ decide (0 ≤ ad) = false ∧ t5 = t ∧ al5 = al)) := by
        by_cases h3 : r = 3
        · subst h3
          have e3 : ((3 : Nat) : Int) = 3 := rfl
          have hte' := hte e3
          unfold nxR at hte'
          rw [if_pos e3, if_pos e3]
          by_cases hes : es.length ≤ 1024
          · rw [if_pos hes] at hte' ⊢
            exact ⟨_, _, _, rfl, rfl, rfl, .inl ⟨rfl, hte', rfl, rfl⟩⟩
          · rw [if_neg hes] at hte' ⊢
            exact ⟨_, _, _, rfl, rfl, rfl, .inr (.inl ⟨rfl, hte', rfl, rfl⟩)⟩
        · have n3 : ¬ ((r : Int) = 3) := by omega
          rw [if_neg n3, if_neg n3]
          refine ⟨_, _, _, rfl, rfl, rfl, ?_⟩
          have t3 : ((r : Int) == 3) = false := by simp; omega
          rw [t3]
          cases hp : hasP n ad
          · have := hasP_no hp
            by_cases c : 0 ≤ ad
            · exact .inr (.inr (.inr (.inl ⟨rfl, by simpa using c, by simp; omega, by simp, by simp⟩)))
            · exact .inr (.inr (.inr (.inr ⟨rfl, by simpa using c, by simp, by simp⟩)))
          · obtain ⟨c1, c2⟩ := hasP_in hp
            exact .inr (.inr (.inl ⟨rfl, by simpa using c1, by simpa using c2, by simp, by simp⟩))
      obtain ⟨t3, t5, al5, ht3, he1, he2, hq⟩ := hpart
      rw [he1, he2] at HD
      have hnb : ((r : Int) != 3) = !t3 := by rw [bne, ht3]
      clear he1 he2 hte
      rcases hq with ⟨rfl, rfl, rfl, rfl⟩ | ⟨rfl, rfl, rfl, rfl⟩ | ⟨rfl, q1, q2, rfl, rfl⟩ | ⟨rfl, q1, q2, rfl, rfl⟩ | ⟨rfl, q1, rfl, rfl⟩
      all_goals
        go_wp2_with (first
          | (go_at_call 14; refine HD.out.mono ?_; clear HD; rintro e w5 ⟨rfl, hx5, hd5⟩; obtain ⟨p0, p1, p2, -⟩ := hx5; rw [Nat.zero_add] at p1 p2; dsimp only at p0 p1 p2; have P5 := Lib.hid hd5; clear hd5)
          | (go_at_call 18; refine P5.out.ticks.mono ?_; rintro e w6 ⟨rfl, rfl⟩)
          | (go_at_call 20; refine (P5.out.all (by omega)).mono ?_; rintro e w7 ⟨rfl, nq, rfl⟩; have P7 := Lib.hid (P5.out.quiet (draws_below _ _ nq)); clear P5))
        go_roundw
        case rel => exact ⟨k + 1, _, _, by omega, rfl, rfl, by congr 1, P7⟩
        case measure => simp [intOf]; omega
    · have P5 := HI
      clear HI
      go_wp2_with (first
        | (go_at_call 22; refine P5.out.words.mono ?_; rintro e w6 ⟨x6, c6, rfl, hb6⟩; have P6 := Lib.hid (P5.out.quiet hb6); clear P5 hb6)
        | (go_at_call 18; refine P6.out.ticks.mono ?_; rintro e w7 ⟨rfl, rfl⟩))
      go_ret
      exact ⟨rfl, P6.out.below⟩

set_option maxRecDepth 100000 in
theorem walk_MemCounts (a : Int) (x : Option Addr) (m cx : Nat) (ls : List Ev) (y : Option Addr) (L cap : Nat) (os : List OpV) (w : World) (ha : (Lit.int .i64 a).wf = true) (hE : EventIn w x m cx ls) (_hb : m ≤ 2932031007403) (hO : OpIn w y L cap os) :
    Calls Try.prog 8 #[.int .i64 a, .slice x m cx, .slice y L cap] w fun e w' => e = .returned (.bool true) ∧ Below w.heap.size w w' := by
  obtain ⟨a0, a1⟩ := i64_of ha
  have hl : L ≤ 9223372036854775807 := by have := hO.2.1.1; have := hO.2.2.1; unfold maxLen at this; omega
  have HV := Lib.hid (live12_any w)
  by_cases h1 : a < 1
  · have d1 : decide (a < 1) = true := by simpa using h1
    go_enter Try.func8, Try.ntmps8
    go_wp2_with (go_at_call 10; refine HV.out.mono ?_; clear HV; rintro e w1 ⟨rfl, hb1⟩; have B1 := Lib.hid hb1; clear hb1)
    go_ret
    exact ⟨rfl, B1.out⟩
  · cases hf : fewB a m os
    · have d1 : decide (a < 1) = false := by simpa using h1
      have HF := Lib.hid (fun w1 (hb : Below w.heap.size w w1) => few_mem a x m cx y L cap os w1 ((hO.2.2.2.1.below hb).more hb.size) hO.1 hl ⟨a0, a1⟩)
      rw [hf] at HF
      clear hO hf hE
      go_enter Try.func8, Try.ntmps8
      go_wp2_with (first
        | (go_at_call 10; refine HV.out.mono ?_; clear HV; rintro e w1 ⟨rfl, hb1⟩; have B1 := Lib.hid hb1; clear hb1)
        | (go_at_call 11; refine (HF.out w1 B1.out).mono ?_; clear HF; rintro e w2 ⟨rfl, hb2⟩; have B2 := Lib.hid (below_on B1.out hb2); clear hb2))
      go_ret
      exact ⟨rfl, B2.out⟩
    · obtain ⟨h4, h2, h3, -⟩ := fewB_in hf
      obtain ⟨n, rfl⟩ : ∃ n : Nat, a = (n : Int) := ⟨a.toNat, by omega⟩
      exact counts_in n x m cx ls y L cap os w (by omega) (by omega) h4 (by rw [← hO.1]; exact h3) hE hO hf

end Go.Proofs.Ytaphhgiocahnhaa
