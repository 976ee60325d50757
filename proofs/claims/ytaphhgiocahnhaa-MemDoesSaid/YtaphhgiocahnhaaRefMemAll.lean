/-
  What In, access, Load, Store, Next, Words, Ticks and All of the document's memory come to.
-/
import Derived.Test.YtaphhgiocahnhaaRefMem
namespace Go.Proofs.Ytaphhgiocahnhaa
open Go.RowKit Go.Sort

set_option maxRecDepth 100000 in
theorem rIn_any (F : Nat → Prop) (M : Nat) (s : MS) (ad : Int) (w : World) (h : RM w F M s) (hb : -9223372036854775808 ≤ ad ∧ ad < 9223372036854775808) :
    Calls Try.prog 39 #[.pointer (some ⟨M, 0, none⟩), .int .i64 ad, .int .i64 1] w fun e w' => e = .returned (.bool (hasP s.ws.length ad)) ∧ w = w' := by
  have hf := h.few
  obtain ⟨x, cap, y, cap', h⟩ := h.open
  have c0 := h.own.c0
  clear h
  generalize s.ws.length = n at *
  obtain ⟨v, hv⟩ : ∃ v, v = hasP n ad := ⟨_, rfl⟩
  rw [← hv]
  unfold hasP at hv
  by_cases h0 : 0 ≤ ad
  · have d0 : decide (0 ≤ ad) = true := by simpa using h0
    by_cases h1 : 1 ≤ n
    · have d1 : decide ((1 : Int) ≤ (n : Int)) = true := by simp; omega
      by_cases h2 : ad < (n : Int)
      · have d2 : decide (ad ≤ (n : Int) - 1) = true := by simp; omega
        obtain rfl : v = true := by rw [hv]; simp; omega
        clear hv
        go_enter Try.func39, Try.ntmps39
        go_wp2
        go_ret
        exact ⟨rfl, rfl⟩
      · have d2 : decide (ad ≤ (n : Int) - 1) = false := by simp; omega
        obtain rfl : v = false := by rw [hv]; simp; omega
        clear hv
        go_enter Try.func39, Try.ntmps39
        go_wp2
        go_ret
        exact ⟨rfl, rfl⟩
    · have d1 : decide ((1 : Int) ≤ (n : Int)) = false := by simp; omega
      obtain rfl : v = false := by rw [hv]; simp; omega
      clear hv
      go_enter Try.func39, Try.ntmps39
      go_wp2
      go_ret
      exact ⟨rfl, rfl⟩
  · have d0 : decide (0 ≤ ad) = false := by simpa using h0
    obtain rfl : v = false := by rw [hv, d0]; rfl
    clear hv
    go_enter Try.func39, Try.ntmps39
    go_wp2
    go_ret
    exact ⟨rfl, rfl⟩

set_option maxRecDepth 100000 in
set_option maxHeartbeats 2000000 in
theorem racc_ok (F : Nat → Prop) (M : Nat) (s : MS) (ad : Int) (w : World) (h : RM w F M s) (hp : hasP s.ws.length ad = true) (hb : -9223372036854775808 ≤ ad ∧ ad < 9223372036854775808) (ht : 0 ≤ s.t ∧ s.t ≤ 1000000000) :
    Calls Try.prog 30 #[.pointer (some ⟨M, 0, none⟩), .int .i64 ad] w fun e w' => e = .returned (.int .i64 0) ∧ RStruck w F M (acc s) w' := by
  unfold acc
  have K1 := Lib.hid (rIn_any F M s ad w h hb)
  rw [hp] at K1
  have K2 := Lib.hid (rstr_any F M s s.t w h)
  obtain ⟨x, cap, y, cap', h⟩ := h.open
  have c2 := h.own.c2
  clear h hp
  obtain ⟨t, ht'⟩ : ∃ t, t = s.t := ⟨_, rfl⟩
  rw [← ht'] at ht K2 c2 ⊢
  generalize strike (due t s.es) s.ws = ws2 at K2 ⊢
  generalize yet t s.es = es2 at K2 ⊢
  clear ht'
  go_enter Try.func30, Try.ntmps30
  go_wp2_with (first
    | (go_at_call 39; refine K1.out.mono ?_; clear K1; rintro e w1 ⟨rfl, rfl⟩)
    | (go_at_call 31; refine K2.out.mono ?_; clear K2; rintro e w1 ⟨rfl, h1⟩; have H1 := Lib.hid (h1.trans (h1.1.setT (t + 1))); obtain ⟨x1, cap1, y1, cap1', hm1⟩ := h1.1.open; have k2 := hm1.own.c2; have kf := hm1.own.fz 2; clear h1 hm1))
  go_ret
  exact ⟨rfl, H1.out⟩

set_option maxRecDepth 100000 in
theorem racc_no (F : Nat → Prop) (M : Nat) (s : MS) (ad : Int) (w : World) (h : RM w F M s) (hp : hasP s.ws.length ad = false) (hb : -9223372036854775808 ≤ ad ∧ ad < 9223372036854775808) :
    Calls Try.prog 30 #[.pointer (some ⟨M, 0, none⟩), .int .i64 ad] w fun e w' => e = .returned (.int .i64 1) ∧ w = w' := by
  have K1 := Lib.hid (rIn_any F M s ad w h hb)
  rw [hp] at K1
  clear h hp
  go_enter Try.func30, Try.ntmps30
  go_wp2_with (go_at_call 39; refine K1.out.mono ?_; clear K1; rintro e w1 ⟨rfl, rfl⟩)
  go_ret
  exact ⟨rfl, rfl⟩

/-- What a call tells and leaves. -/
def RTolds (w : World) (F : Nat → Prop) (M : Nat) (v : Value) (s : MS) (e : Ending) (w' : World) : Prop := e = .returned v ∧ RStruck w F M s w'

theorem RAt.at {w : World} {F : Nat → Prop} {M : Nat} {x : Option Addr} {n cap : Nat} {l : Value} {ws : List Int} {es : List Ev} {t a : Int} (h : RAt w F M (.slice x n cap) l ws es t a) {j : Nat} (hj : j < ws.length) :
    ∃ g, x = some ⟨g, 0, none⟩ ∧ w.cell? ⟨g, j, none⟩ = some (.int .u64 (ws.getD j 0)) ∧ w.frozen? ⟨g, j, none⟩ = false ∧ ws.length = n := by
  obtain ⟨x', cap', e, _, _, _, hg⟩ := h.row.form
  obtain ⟨g, hx, _, _⟩ := hg (by omega)
  simp only [Value.slice.injEq] at e
  obtain ⟨rfl, rfl, rfl⟩ := e
  subst hx
  exact ⟨g, rfl, h.row.cell rfl hj, h.row.frozen rfl j, rfl⟩

set_option maxRecDepth 100000 in
set_option maxHeartbeats 2000000 in
theorem rLoad_any (F : Nat → Prop) (M : Nat) (s : MS) (ad : Int) (w : World) (h : RM w F M s) (hb : -9223372036854775808 ≤ ad ∧ ad < 9223372036854775808) (ht : 0 ≤ s.t ∧ s.t ≤ 1000000000) :
    Calls Try.prog 17 #[.pointer (some ⟨M, 0, none⟩), .int .i64 ad] w (RTolds w F M (.tuple #[.int .u64 (ldV s ad), .int .i64 (adE s ad)]) (ldS s ad)) := by
  cases hp : hasP s.ws.length ad
  · unfold ldV adE ldS
    rw [hp]
    have K1 := Lib.hid (racc_no F M s ad w h hp hb)
    have HS := Lib.hid h.same
    clear h
    simp only [Bool.false_eq_true, if_false]
    go_enter Try.func17, Try.ntmps17
    go_wp2_with (go_at_call 30; refine K1.out.mono ?_; rintro e w1 ⟨rfl, rfl⟩)
    go_ret2
    exact ⟨rfl, HS.out⟩
  · unfold ldV adE ldS
    rw [hp]
    obtain ⟨h0, h1⟩ := hasP_in hp
    have K1 := Lib.hid (racc_ok F M s ad w h hp hb ht)
    obtain ⟨j, rfl⟩ : ∃ j : Nat, ad = (j : Int) := ⟨ad.toNat, by omega⟩
    have hjl : j < (acc s).ws.length := by rw [acc_len]; omega
    clear h hp
    simp only [if_true, Int.toNat_natCast]
    generalize acc s = s2 at *
    have HJ := Lib.hid hjl
    clear hjl
    go_enter Try.func17, Try.ntmps17
    go_wp2_with (go_at_call 30; refine K1.out.mono ?_; rintro e w1 ⟨rfl, h1'⟩; have H1 := Lib.hid h1'; obtain ⟨x1, cap1, y1, cap1', hm1⟩ := h1'.1.open; have k0 := hm1.own.c0; obtain ⟨g, rfl, kc, kf, -⟩ := hm1.at HJ.out; have hjn := HJ.out; generalize s2.ws.length = n at k0 hjn; clear hm1 h1')
    go_ret2
    exact ⟨rfl, H1.out⟩

set_option maxRecDepth 100000 in
set_option maxHeartbeats 2000000 in
theorem rStore_any (F : Nat → Prop) (M : Nat) (s : MS) (ad u : Int) (w : World) (h : RM w F M s) (hb : -9223372036854775808 ≤ ad ∧ ad < 9223372036854775808) (hu : 0 ≤ u ∧ u < 18446744073709551616) (ht : 0 ≤ s.t ∧ s.t ≤ 1000000000) :
    Calls Try.prog 15 #[.pointer (some ⟨M, 0, none⟩), .int .i64 ad, .int .u64 u] w (RTolds w F M (.int .i64 (adE s ad)) (stS s ad u)) := by
  cases hp : hasP s.ws.length ad
  · unfold adE stS
    rw [hp]
    have K1 := Lib.hid (racc_no F M s ad w h hp hb)
    have HS := Lib.hid h.same
    clear h
    simp only [Bool.false_eq_true, if_false]
    go_enter Try.func15, Try.ntmps15
    go_wp2_with (go_at_call 30; refine K1.out.mono ?_; rintro e w1 ⟨rfl, rfl⟩)
    go_ret
    exact ⟨rfl, HS.out⟩
  · unfold adE stS
    rw [hp]
    obtain ⟨h0, h1⟩ := hasP_in hp
    have K1 := Lib.hid (racc_ok F M s ad w h hp hb ht)
    obtain ⟨j, rfl⟩ : ∃ j : Nat, ad = (j : Int) := ⟨ad.toNat, by omega⟩
    have hjl : j < (acc s).ws.length := by rw [acc_len]; omega
    clear h hp
    simp only [if_true, Int.toNat_natCast]
    generalize acc s = s2 at *
    have HJ := Lib.hid hjl
    have HU := Lib.hid hu
    clear hjl hu
    go_enter Try.func15, Try.ntmps15
    go_wp2_with (go_at_call 30; refine K1.out.mono ?_; rintro e w1 ⟨rfl, h1'⟩; obtain ⟨x1, cap1, y1, cap1', hm1⟩ := h1'.1.open; have k0 := hm1.own.c0; obtain ⟨g, rfl, kc, kf, -⟩ := hm1.at HJ.out; have H1 := Lib.hid (h1'.trans (h1'.1.put k0 j HU.out)); have hjn := HJ.out; generalize s2.ws.length = n at k0 hjn; clear hm1 h1')
    go_ret
    exact ⟨rfl, H1.out⟩

theorem rTicks_any (F : Nat → Prop) (M : Nat) (s : MS) (w : World) (h : RM w F M s) : Calls Try.prog 19 #[.pointer (some ⟨M, 0, none⟩)] w fun e w' => e = .returned (.int .i64 s.t) ∧ w = w' := by
  obtain ⟨x, cap, y, cap', h⟩ := h.open
  have c2 := h.own.c2
  clear h
  go_enter Try.func19, Try.ntmps19
  go_wp2
  go_ret
  exact ⟨rfl, rfl⟩

theorem rAll_any (F : Nat → Prop) (M : Nat) (s : MS) (w : World) (h : RM w F M s) (ht : 0 ≤ s.t ∧ s.t ≤ 1000000000) (ha : 0 ≤ s.a ∧ s.a ≤ 1000000000) :
    Calls Try.prog 21 #[.pointer (some ⟨M, 0, none⟩)] w (RetQ (.int .i64 (s.a + s.t)) w) := by
  obtain ⟨x, cap, y, cap', h⟩ := h.open
  have c2 := h.own.c2
  have c3 := h.own.c3
  clear h
  go_enter Try.func21, Try.ntmps21
  go_wp2
  go_quiet (fail)
  go_wp2
  go_ret
  exact ⟨rfl, _, rfl⟩

theorem rWords_any (F : Nat → Prop) (M : Nat) (s : MS) (w : World) (h : RM w F M s) : Calls Try.prog 24 #[.pointer (some ⟨M, 0, none⟩)] w (Worded w s.ws) := by
  obtain ⟨i0, hi, hz0, hz1, hz2⟩ := info_parts info_u64
  have hf := h.few
  obtain ⟨v, l, h⟩ := h
  obtain ⟨x, cap, rfl, hs⟩ := h.row.src
  have HS := Lib.hid hs
  have c0 := h.own.c0
  clear h hs
  go_enter Try.func24, Try.ntmps24
  go_wp2_with (at_builtin; refine wpList_copy_new rfl _ _ 42 rfl 33 i0 .u64 8 Try.underlying42 hi hz0 hz1 hz2 x s.ws.length cap s.ws rfl rfl HS.out (by unfold maxLen; omega) (by omega) ?_; intro v1 w1 hO1 hB1; obtain ⟨x1, cap1, rfl, -⟩ := hO1.form; have H1 := Lib.hid (And.intro hO1 hB1); clear hO1 hB1)
  go_ret
  exact ⟨_, _, rfl, H1.out⟩

/-! The window's end. -/
def rnxS (s : MS) (ls : List Ev) : MS := if ls.length ≤ 1024 then ⟨strike s.es s.ws, ls, 0, s.a + s.t⟩ else s
theorem due_max {es : List Ev} (h : EvsOk es) : due 9223372036854775807 es = es := List.filter_eq_self.2 fun x hx => by have := (h x hx).2.2.2.1; simp; omega

/-- The next window's events are laid in a row of their own. -/
theorem RM.next {w w2 : World} {F : Nat → Prop} {M : Nat} {s : MS} {l2 : Value} {es2 : List Ev} (h : RM w F M s) (hb : Below w.heap.size w w2) (hL : OwnsE w2 w.heap.size l2 es2) (ho : EvsOk es2) (hle : es2.length ≤ 1024) : RStruck w F M ⟨s.ws, es2, s.t, s.a⟩ (w2.setCell ⟨M, 1, none⟩ l2) := by
  obtain ⟨v, l, h⟩ := h
  have hsz : (w2.setCell ⟨M, 1, none⟩ l2).heap.size = w2.heap.size := by simp [World.setCell]
  have hs1 := hb.size
  have hM := h.own.lt
  have hl2 : ∀ g, l2.ownBlock = some g → w.heap.size ≤ g ∧ g < w2.heap.size := fun g e => hL.blockLt e
  have hset : ∀ k, k ≠ M → (w2.setCell ⟨M, 1, none⟩ l2).heap[k]? = w2.heap[k]? := fun k hk => Below.heap_setCell _ _ _ _ hk
  refine ⟨⟨v, l2, ⟨((h.own.keep (hb.block M hM)).set1 l2), (h.row.below hb).stay fun g e => hset g (by rintro rfl; exact h.nv e), (hL.mono (Nat.zero_le _)).stay fun g e => hset g (by have := hl2 g e; omega), h.words, h.few, ho, hle, h.nv, ?_, fun g e e' => ?_, .inl h.fm, fun g e => .inl (h.fv g e), fun g e => .inr ⟨(hl2 g e).1, by rw [hsz]; exact (hl2 g e).2⟩, fun k c => ?_⟩⟩, ?_⟩
  · intro e; have := hl2 M e; omega
  · have := hl2 g e'; have := h.lt g (h.fv g e); omega
  · rcases c with c | c
    · have := h.lt k c; rw [hsz]; omega
    · exact c.2
  · exact (But.of_below (F := F) hb).trans (But.setCell w2 M 1 l2) fun k _ c => by rw [c]; exact h.fm

set_option maxRecDepth 100000 in
set_option maxHeartbeats 4000000 in
theorem rNext_any (F : Nat → Prop) (M : Nat) (s : MS) (x : Option Addr) (n cap : Nat) (ys : List Ev) (w : World) (h : RM w F M s) (hx : ∀ w', But F w w' → SrcE w' x n cap ys) (ho : EvsOk ys) (hok : EvsOk s.es) (ht : 0 ≤ s.t ∧ s.t ≤ 1000000000) (ha : 0 ≤ s.a ∧ s.a ≤ 1000000000) :
    Calls Try.prog 16 #[.pointer (some ⟨M, 0, none⟩), .slice x n cap] w (RTolds w F M (.int .i64 (nxR ys)) (rnxS s ys)) := by
  have hn : ys.length = n := (hx w (But.refl _ _)).1
  have HC := Lib.hid (rcheck_any x n cap w)
  unfold nxR rnxS
  by_cases hl : n ≤ 1024
  · rw [if_pos (by omega), if_pos (by omega)]
    rw [chk_ok hl] at HC
    have hmx : Try.prog.follows .mixedOrders = true := by kernel_rfl
    have K1 := Lib.hid (rstr_any F M s 9223372036854775807 w h)
    rw [due_max hok] at K1
    have HX := Lib.hid hx
    have HO := Lib.hid ho
    have HN := Lib.hid hn
    have hbd : ys.length ≤ 1024 := by omega
    obtain ⟨z, hz⟩ : ∃ z, z = s.a + s.t := ⟨_, rfl⟩
    have hz2 : s.a + s.t = z := hz.symm
    rw [← hz]
    generalize strike s.es s.ws = ws2 at K1 ⊢
    generalize yet 9223372036854775807 s.es = es2 at K1
    clear h hx ho hz hn hok
    go_enter Try.func16, Try.ntmps16
    go_wp2_with (first
      | (go_at_call 29; refine HC.out.mono ?_; clear HC; rintro e w0 ⟨rfl, rfl⟩)
      | (go_at_call 31; refine K1.out.mono ?_; clear K1; rintro e w1 ⟨rfl, h1⟩; have H1 := Lib.hid h1; clear h1)
      | (at_builtin; refine wpList_append_ev rfl _ _ rfl w1.heap.size (.slice none 0 0) [] rfl OwnsE.nil x n cap ys rfl (HX.out w1 H1.out.2) (by have := HN.out; simp; omega) (Nat.le_refl _) ?_; intro v2 w2 hO2 hg2; rw [List.nil_append] at hO2; have H2 := Lib.hid (H1.out.trans (H1.out.1.next ((Below.refl _ w1).grown hg2 (Nat.le_refl _) (fun k e => by cases e)) hO2 HO.out (by omega))); have m2 := H1.out.1.below ((Below.refl _ w1).grown hg2 (Nat.le_refl _) (fun k e => by cases e)); obtain ⟨x1, cap1, y1, cap1', hm1⟩ := m2.open; have k1 := hm1.own.c1; have f1 := hm1.own.fz 1; obtain ⟨y2, k2, rfl, -⟩ := hO2.form; clear hO2 hg2 m2 hm1))
    refine region_quiet_tail 11 hmx (by kernel_rfl) ?_
    simp only [List.take_succ_cons, List.take_zero, List.drop_succ_cons, List.drop_zero]
    obtain ⟨x3, cap3, y3, cap3', hm3⟩ := H2.out.1.open
    have m2 := hm3.own.c2
    have m3 := hm3.own.c3
    have n2 := hm3.own.fz 2
    have n3 := hm3.own.fz 3
    clear hm3
    repeat (first | go_big_quiet_step (fail) | quiet_step (fail))
    refine wpQuiet_nil ?_
    rintro w' ⟨nq, rfl⟩
    have H3 := Lib.hid (H2.out.quiet (draws_below _ _ nq))
    go_wp2
    go_ret
    exact ⟨rfl, (H3.out.trans (H3.out.1.setA z)).trans ((H3.out.trans (H3.out.1.setA z)).1.setT 0)⟩
  · rw [if_neg (by omega), if_neg (by omega)]
    rw [chk_bad (by omega)] at HC
    have HS := Lib.hid h.same
    clear h hx
    go_enter Try.func16, Try.ntmps16
    go_wp2_with (go_at_call 29; refine HC.out.mono ?_; clear HC; rintro e w0 ⟨rfl, rfl⟩)
    go_ret
    exact ⟨rfl, HS.out⟩

end Go.Proofs.Ytaphhgiocahnhaa
