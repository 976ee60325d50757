/-
  What New of package mem comes to; what is done with a memory (the law's own do); the chapter's example of layer 12; whether it is all small enough.
-/
import Derived.Test.YtaphhgiocahnhaaMemAll
import Derived.Test.YtaphhgiocahnhaaOpIn
namespace Go.Proofs.Ytaphhgiocahnhaa
open Go.RowKit Go.Sort

theorem Owns.made {w : World} {base g n : Nat} (h : w.ownsRow base 33 1 (.slice (some ⟨g, 0, none⟩) n n) n (madeCells (Value.int .u64 0).cells (n * 1)).toList) : Owns .u64 33 w base (.slice (some ⟨g, 0, none⟩) n n) (List.replicate n 0) := by
  have h1 := Half.start (f := fun _ => 0) h
  unfold Half at h1
  rw [mixed_zero, range_zeros] at h1
  exact h1
theorem words_rep (n : Nat) : Words (List.replicate n 0) := fun j => by
  rw [List.getD_eq_getElem?_getD, List.getElem?_replicate]
  split <;> simp

/-- A memory that was laid just now. -/
def memO (v : Value) : Obj := .cells #[v, .pointer none, .int .i64 0, .int .i64 0] 56
theorem MM.laid {w w1 : World} {g n : Nat} (hb : Below w.heap.size w w1) (hO : Owns .u64 33 w1 w.heap.size (.slice (some ⟨g, 0, none⟩) n n) (List.replicate n 0)) (hn : n ≤ 16384) :
    MM (w1.alloc (memO (.slice (some ⟨g, 0, none⟩) n n))) (Nw w (w1.alloc (memO (.slice (some ⟨g, 0, none⟩) n n)))) w1.heap.size ⟨List.replicate n 0, [], 0, 0⟩ := by
  have hs := hb.size
  have hg := hO.blockLt (g := g) rfl
  refine ⟨fun _ => False, _, none, ⟨heap_alloc_new _ _, (hO.alloc _).mono (Nat.zero_le _), words_rep n, by simpa using hn, .inl ⟨rfl, rfl⟩, ?_, ⟨hs, by simp⟩, fun g' e => ?_, fun _ _ c => c, fun c => c, fun _ c => c.elim, fun k c => c.2⟩⟩
  · intro e
    simp only [Value.ownBlock, Option.some.injEq] at e
    omega
  · simp only [Value.ownBlock, Option.some.injEq] at e
    subst e
    exact ⟨hg.1, by simp; omega⟩
/-- One that New has not made. -/
theorem MM.raw (w : World) : MM (w.alloc (memO (.slice none 0 0))) (Nw w (w.alloc (memO (.slice none 0 0)))) w.heap.size ⟨[], [], 0, 0⟩ := by
  refine ⟨fun _ => False, _, none, ⟨heap_alloc_new _ _, Owns.nil, fun j => by simp, by simp, .inl ⟨rfl, rfl⟩, (fun e => by cases e), ⟨Nat.le_refl _, by simp⟩, (fun g' e => by cases e), fun _ _ c => c, fun c => c, fun _ c => c.elim, fun k c => c.2⟩⟩

theorem nxS_new (n : Nat) {ys : List Ev} (h : ys.length ≤ 1024) : nxS ⟨List.replicate n 0, [], 0, 0⟩ ys = newS n ys := by
  unfold nxS newS
  rw [if_pos h]
  rfl

/-- What New tells and leaves. -/
def Made (w : World) (s : MS) (e : Ending) (w' : World) : Prop := ∃ M, e = .returned (.tuple #[.pointer (some ⟨M, 0, none⟩), .int .i64 0]) ∧ MM w' (Nw w w') M s ∧ Below w.heap.size w w'
theorem Struck.made {w w2 w3 : World} {M : Nat} {s : MS} (hb : Below w.heap.size w w2) (h : Struck w2 (Nw w w2) M s w3) : MM w3 (Nw w w3) M s ∧ Below w.heap.size w w3 := by
  have h1 := hb.size
  have h2 := h.2.size
  refine ⟨h.1.more (fun k c => ?_) (fun k c => c.2), hb.trans (h.2.below h1 fun k c => c.1)⟩
  rcases c with c | c
  · exact ⟨c.1, by have := c.2; omega⟩
  · exact ⟨by have := c.1; omega, c.2⟩

set_option maxRecDepth 100000 in
set_option maxHeartbeats 2000000 in
theorem mNew_ok (n : Nat) (x : Option Addr) (m cap : Nat) (ys : List Ev) (w : World) (h1 : 1 ≤ n) (h2 : n ≤ 16384) (hx : ReadsE w w.heap.size x ys) (hm : ys.length = m) (ho : EvsOk ys) (hl : m ≤ 1024) :
    Calls Try.prog 12 #[.int .i64 (n : Int), .slice x m cap] w (Made w (newS n ys)) := by
  obtain ⟨i0, hi, hz0, hz1, hz2⟩ := info_parts info_u64
  have HZ2 := Lib.hid hz2
  have HX := Lib.hid (fun w2 (F : Nat → Prop) (hb : Below w.heap.size w w2) (hF : ∀ k, F k → w.heap.size ≤ k) => (hx.below hb).rdF hF)
  have HO := Lib.hid ho
  have d1 : decide ((n : Int) < 1) = false := by simp; omega
  have d2 : decide ((16384 : Int) < (n : Int)) = false := by simp; omega
  have HM := Lib.hid hm
  clear hx ho hz2 hm
  go_enter Try.func12, Try.ntmps12
  go_wp2_with (first
    | (at_make; refine wpList_make_full _ rfl _ _ 42 rfl w.heap.size 33 i0 (.int .u64 0) 1 Try.underlying42 hi hz0 hz1 .i64 .i64 _ _ n rfl rfl rfl rfl (by rw [HZ2.out]; omega) (by unfold maxLen; omega) (Nat.le_refl _) ?_; intro w1 hown hgrow; have B1 := Lib.hid ((Below.refl w.heap.size w).grown hgrow (Nat.le_refl _) (fun k e => by cases e)); have L1 := Lib.hid (MM.laid B1.out (Owns.made hown) h2); have B2 := Lib.hid (below_al B1.out (memO (.slice (some ⟨w.heap.size, 0, none⟩) n n))); have K1 := Lib.hid (Next_mem _ _ _ x m cap ys _ L1.out (HX.out _ _ B2.out fun k c => c.1) HM.out HO.out (by dsimp only; omega) (by dsimp only; omega)); unfold nxR at K1; rw [if_pos (by have := HM.out; omega), nxS_new n (by have := HM.out; omega)] at K1; unfold memO at K1 B2; clear hown hgrow)
    | (go_at_call 26; refine K1.out.mono ?_; clear K1; rintro e w3 ⟨rfl, h3⟩; have H3 := Lib.hid (h3.made B2.out); clear h3))
  go_ret2
  exact ⟨_, rfl, H3.out⟩

set_option maxRecDepth 100000 in
set_option maxHeartbeats 2000000 in
theorem mNew_many (n : Nat) (x : Option Addr) (m cap : Nat) (ys : List Ev) (w : World) (h1 : 1 ≤ n) (h2 : n ≤ 16384) (hm : ys.length = m) (hl : 1024 < m) :
    Calls Try.prog 12 #[.int .i64 (n : Int), .slice x m cap] w (RetB (.tuple #[.pointer none, .int .i64 1]) w) := by
  obtain ⟨i0, hi, hz0, hz1, hz2⟩ := info_parts info_u64
  have HZ2 := Lib.hid hz2
  have d1 : decide ((n : Int) < 1) = false := by simp; omega
  have d2 : decide ((16384 : Int) < (n : Int)) = false := by simp; omega
  have HM := Lib.hid hm
  clear hz2 hm
  go_enter Try.func12, Try.ntmps12
  go_wp2_with (first
    | (at_make; refine wpList_make_full _ rfl _ _ 42 rfl w.heap.size 33 i0 (.int .u64 0) 1 Try.underlying42 hi hz0 hz1 .i64 .i64 _ _ n rfl rfl rfl rfl (by rw [HZ2.out]; omega) (by unfold maxLen; omega) (Nat.le_refl _) ?_; intro w1 hown hgrow; have B1 := Lib.hid ((Below.refl w.heap.size w).grown hgrow (Nat.le_refl _) (fun k e => by cases e)); have L1 := Lib.hid (MM.laid B1.out (Owns.made hown) h2); have B2 := Lib.hid (below_al B1.out (memO (.slice (some ⟨w.heap.size, 0, none⟩) n n))); have K1 := Lib.hid (Next_bad _ _ _ x m cap ys _ L1.out HM.out hl); unfold memO at K1 B2; clear hown hgrow)
    | (go_at_call 26; refine K1.out.mono ?_; clear K1; rintro e w3 ⟨rfl, h3⟩; have H3 := Lib.hid (h3.made B2.out); clear h3))
  go_ret2
  exact ⟨rfl, H3.out.2⟩

theorem mNew_off (a : Int) (x : Option Addr) (m cap : Nat) (w : World) (h : a < 1 ∨ 16384 < a) :
    Calls Try.prog 12 #[.int .i64 a, .slice x m cap] w (RetB (.tuple #[.pointer none, .int .i64 1]) w) := by
  by_cases h1 : a < 1
  · have d1 : decide (a < 1) = true := by simpa using h1
    go_enter Try.func12, Try.ntmps12
    go_wp2
    go_ret2
    exact ⟨rfl, Below.refl _ _⟩
  · have d1 : decide (a < 1) = false := by simpa using h1
    have d2 : decide ((16384 : Int) < a) = true := by simp; omega
    go_enter Try.func12, Try.ntmps12
    go_wp2
    go_ret2
    exact ⟨rfl, Below.refl _ _⟩

/-! What is done with it. -/
def opA (o : OpV) : Value := .agg #[.int .u8 o.kd, .int .i64 o.ad, .int .u64 o.wd, .slice o.x o.n o.cap]
def opO (o : OpV) : Obj := .cells #[.int .u8 o.kd, .int .i64 o.ad, .int .u64 o.wd, .slice o.x o.n o.cap] 35
def opS (o : OpV) (s : MS) : MS := if o.kd % 4 = 2 then stS s o.ad o.wd else if o.kd % 4 = 3 then nxS s o.es else ldS s o.ad
def opT (o : OpV) (s : MS) : Int := if o.kd % 4 = 2 then 0 else if o.kd % 4 = 3 then 0 else ldV s o.ad
def opE (o : OpV) (s : MS) : Int := if o.kd % 4 = 2 then adE s o.ad else if o.kd % 4 = 3 then nxR o.es else adE s o.ad

/-- Its numbers are what they are. -/
def OpNum (o : OpV) : Prop := (0 ≤ o.kd ∧ o.kd < 256) ∧ (-9223372036854775808 ≤ o.ad ∧ o.ad < 9223372036854775808) ∧ (0 ≤ o.wd ∧ o.wd < 18446744073709551616) ∧ o.es.length = o.n ∧ EvsOk o.es
theorem OpOk.num {w : World} {o : OpV} (h : OpOk w o) : OpNum o := ⟨h.1, h.2.1, h.2.2.1, h.2.2.2.1, h.2.2.2.2.2.2.2⟩

/-- Counts that are no too great. -/
def CntOk (s : MS) : Prop := (0 ≤ s.t ∧ s.t ≤ 1000000000) ∧ (0 ≤ s.a ∧ s.a ≤ 1000000000)

theorem Struck.later {w w1 w2 : World} {F : Nat → Prop} {M : Nat} {s : MS} (hb : Below w.heap.size w w1) (h : Struck w1 F M s w2) : Struck w F M s w2 := by
  have h1 := hb.size
  have h2 := h.2.size
  refine ⟨h.1.more (fun k c => c.imp id fun c => ⟨by have := c.1; omega, c.2⟩) (fun k c => c.elim (fun c => h.1.lt k (.inl c)) fun c => c.2), (But.of_below hb).trans h.2 fun _ _ c => c⟩

set_option maxRecDepth 100000 in
set_option maxHeartbeats 2000000 in
theorem do_any (F : Nat → Prop) (M : Nat) (s : MS) (o : OpV) (w : World) (h : MM w F M s) (hn : OpNum o) (hx : RdF w F o.x o.es) (hc : CntOk s) :
    Calls Try.prog 14 #[.pointer (some ⟨M, 0, none⟩), opA o] w (Tolds w F M (.tuple #[.int .u64 (opT o s), .int .i64 (opE o s)]) (opS o s)) := by
  have hb := below_al (Below.refl _ w) (opO o)
  have h' := h.below hb
  have hx' := hx.but (But.of_below hb)
  have K1 := Lib.hid (Load_any F M s o.ad (w.alloc (opO o)) h' hn.2.1 hc.1)
  have K2 := Lib.hid (Store_any F M s o.ad o.wd (w.alloc (opO o)) h' hn.2.1 hn.2.2.1 hc.1)
  have K3 := Lib.hid (Next_mem F M s o.x o.n o.cap o.es (w.alloc (opO o)) h' hx' hn.2.2.2.1 hn.2.2.2.2 hc.1 hc.2)
  have HB := Lib.hid hb
  have hkd := hn.1
  unfold opS opT opE opA
  unfold opO at K1 K2 K3 HB
  clear h h' hx hx' hb hn
  obtain ⟨kd, ad, wd, x, n, cap, es⟩ := o
  dsimp only at *
  obtain ⟨k, rfl⟩ : ∃ k : Nat, kd = (k : Int) := ⟨kd.toNat, by omega⟩
  obtain ⟨r, hr⟩ : ∃ r : Nat, (k : Int) % 4 = (r : Int) := ⟨k % 4, by omega⟩
  have hrb : r < 4 := by omega
  rw [hr]
  by_cases c2 : r = 2
  · subst c2
    have p2 : ((2 : Nat) : Int) = 2 := rfl
    rw [if_pos p2, if_pos p2, if_pos p2]
    clear p2
    go_enter Try.func14, Try.ntmps14
    go_wp2_with (go_at_call 25; refine K2.out.mono ?_; rintro e w1 ⟨rfl, h1⟩; have H1 := Lib.hid (h1.later HB.out); clear h1)
    go_ret2
    exact ⟨rfl, H1.out⟩
  · have n2 : ¬ ((r : Int) = 2) := by omega
    have t2 : ((r : Int) == 2) = false := by simp; omega
    rw [if_neg n2, if_neg n2, if_neg n2]
    by_cases c3 : r = 3
    · subst c3
      have p3 : ((3 : Nat) : Int) = 3 := rfl
      rw [if_pos p3, if_pos p3, if_pos p3]
      clear p3
      go_enter Try.func14, Try.ntmps14
      go_wp2_with (go_at_call 26; refine K3.out.mono ?_; rintro e w1 ⟨rfl, h1⟩; have H1 := Lib.hid (h1.later HB.out); clear h1)
      go_ret2
      exact ⟨rfl, H1.out⟩
    · have n3 : ¬ ((r : Int) = 3) := by omega
      have t3 : ((r : Int) == 3) = false := by simp; omega
      rw [if_neg n3, if_neg n3, if_neg n3]
      clear n2 n3 c2 c3
      go_enter Try.func14, Try.ntmps14
      go_wp2_with (go_at_call 27; refine K1.out.mono ?_; rintro e w1 ⟨rfl, h1⟩; have H1 := Lib.hid (h1.later HB.out); clear h1)
      go_ret2
      exact ⟨rfl, H1.out⟩

set_option maxRecDepth 100000 in
set_option maxHeartbeats 2000000 in
theorem do_nil (o : OpV) (w : World) (hn : OpNum o) : Calls Try.prog 14 #[.pointer none, opA o] w (RetB (.tuple #[.int .u64 0, .int .i64 1]) w) := by
  have HB := Lib.hid (below_al (Below.refl _ w) (opO o))
  have K1 := Lib.hid (Load_nil o.ad (w.alloc (opO o)))
  have K2 := Lib.hid (Store_nil o.ad o.wd (w.alloc (opO o)))
  have K3 := Lib.hid (Next_nil o.x o.n o.cap (w.alloc (opO o)))
  have hkd := hn.1
  unfold opA
  unfold opO at K1 K2 K3 HB
  clear hn
  obtain ⟨kd, ad, wd, x, n, cap, es⟩ := o
  dsimp only at *
  obtain ⟨k, rfl⟩ : ∃ k : Nat, kd = (k : Int) := ⟨kd.toNat, by omega⟩
  obtain ⟨r, hr⟩ : ∃ r : Nat, (k : Int) % 4 = (r : Int) := ⟨k % 4, by omega⟩
  have hrb : r < 4 := by omega
  by_cases c2 : r = 2
  · subst c2
    go_enter Try.func14, Try.ntmps14
    go_wp2_with (go_at_call 25; refine K2.out.mono ?_; rintro e w1 ⟨rfl, rfl⟩)
    go_ret2
    exact ⟨rfl, HB.out⟩
  · have t2 : ((r : Int) == 2) = false := by simp; omega
    by_cases c3 : r = 3
    · subst c3
      go_enter Try.func14, Try.ntmps14
      go_wp2_with (go_at_call 26; refine K3.out.mono ?_; rintro e w1 ⟨rfl, rfl⟩)
      go_ret2
      exact ⟨rfl, HB.out⟩
    · have t3 : ((r : Int) == 3) = false := by simp; omega
      clear c2 c3
      go_enter Try.func14, Try.ntmps14
      go_wp2_with (go_at_call 27; refine K1.out.mono ?_; rintro e w1 ⟨rfl, rfl⟩)
      go_ret2
      exact ⟨rfl, HB.out⟩

/-! The example. -/
def evX : Ev := ⟨0, 0, 0, 1, 0, 4⟩
theorem evX_ok : EvsOk [evX] := by
  intro s hs
  simp at hs
  subst hs
  unfold EvOk evX
  dsimp only
  omega
theorem evX_reads (W : World) : ReadsE (W.alloc (evO evX)) (W.alloc (evO evX)).heap.size (some ⟨W.heap.size, 0, none⟩) [evX] := fun _ => by
  refine ⟨W.heap.size, 0, rfl, by simp, fun j hj => ?_⟩
  have hj' : j = 0 := by simp at hj; omega
  subst hj'
  exact EvAt.new W evX _

set_option maxRecDepth 100000 in
set_option maxHeartbeats 2000000 in
theorem live12_any (w : World) : Calls Try.prog 10 #[] w (RetB (.bool true) w) := by
  have K1 := Lib.hid (mNew_ok 1 (some ⟨w.heap.size, 0, none⟩) 1 1 [evX] (w.alloc (evO evX)) (by omega) (by omega) (evX_reads w) rfl evX_ok (by omega))
  have HB := Lib.hid (below_al (Below.refl _ w) (evO evX))
  have HL := Lib.hid (fun F M s W (h : MM W F M s) (ht : 0 ≤ s.t ∧ s.t ≤ 1000000000) => Load_any F M s 0 W h (by omega) ht)
  have e1 : ldV (newS 1 [evX]) 0 = 0 := by decide
  have e2 : adE (newS 1 [evX]) 0 = 0 := by decide
  have e3 : ldV (ldS (newS 1 [evX]) 0) 0 = 4 := by decide
  have e4 : adE (ldS (newS 1 [evX]) 0) 0 = 0 := by decide
  have e5 : 0 ≤ (newS 1 [evX]).t ∧ (newS 1 [evX]).t ≤ 1000000000 := by decide
  have e6 : 0 ≤ (ldS (newS 1 [evX]) 0).t ∧ (ldS (newS 1 [evX]) 0).t ≤ 1000000000 := by decide
  have E1 := Lib.hid e5
  have E2 := Lib.hid e6
  have E3 := Lib.hid (And.intro e1 e2)
  have E4 := Lib.hid (And.intro e3 e4)
  clear e1 e2 e3 e4 e5 e6
  generalize newS 1 [evX] = s0 at *
  unfold evO evX at K1 HB
  dsimp only at K1 HB
  go_enter Try.func10, Try.ntmps10
  go_wp2_with (first
    | (go_at_call 12; refine K1.out.mono ?_; clear K1; rintro e w1 ⟨M, rfl, hM1, hB1⟩; have M1 := Lib.hid hM1; have B1 := Lib.hid (below_on HB.out hB1); have K2 := Lib.hid (HL.out _ _ _ _ hM1 E1.out); rw [E3.out.1, E3.out.2] at K2; have F1 := Lib.hid hB1.size; clear hM1 hB1)
    | (go_at_call 27; refine K2.out.mono ?_; clear K2; rintro e w2 ⟨rfl, h2⟩; have M2 := Lib.hid h2; have K3 := Lib.hid (HL.out _ _ _ _ h2.1 E2.out); rw [E4.out.1, E4.out.2] at K3; clear h2)
    | (go_at_call 27; refine K3.out.mono ?_; clear K3; rintro e w3 ⟨rfl, h3⟩; have M3 := Lib.hid (M2.out.trans h3).2; clear h3))
  go_ret
  exact ⟨rfl, B1.out.trans (M3.out.below B1.out.size fun k c => by have := c.1; have := HB.out.size; omega)⟩

end Go.Proofs.Ytaphhgiocahnhaa
