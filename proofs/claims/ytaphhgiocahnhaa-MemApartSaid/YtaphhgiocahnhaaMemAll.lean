/-
  What Load, Store, Next, Words, Ticks, All and New of package mem come to.
-/
import Derived.Test.YtaphhgiocahnhaaMemOne
import Derived.Laws.MakeOwn
namespace Go.Proofs.Ytaphhgiocahnhaa
open Go.RowKit Go.Sort

/-- One call behind another one. -/
theorem Struck.trans {w w1 w2 : World} {F : Nat → Prop} {M : Nat} {s s2 : MS} (h : Struck w F M s w1) (h2 : Struck w1 (Or2 F (Nw w w1)) M s2 w2) : Struck w F M s2 w2 := by
  have hs1 := h.2.size
  have hs2 := h2.2.size
  refine ⟨h2.1.more (fun k c => ?_) (fun k c => ?_), h.2.trans h2.2 fun k hk c => c.elim id fun c => by have := c.1; omega⟩
  · rcases c with (c | c) | c
    · exact .inl c
    · exact .inr ⟨c.1, by have := c.2; omega⟩
    · exact .inr ⟨by have := c.1; omega, c.2⟩
  · rcases c with c | c
    · exact h2.1.lt k (.inl (.inl c))
    · exact c.2
theorem Struck.quiet {w w1 w2 : World} {F : Nat → Prop} {M : Nat} {s : MS} (h : Struck w F M s w1) (hb : Below w1.heap.size w1 w2) : Struck w F M s w2 := h.trans ⟨(h.1.below hb).more (fun _ c => .inl c) (fun k c => c.elim (fun c => Nat.lt_of_lt_of_le (h.1.lt k c) hb.size) fun c => c.2), But.of_below hb⟩

/-- What a call tells and leaves. -/
def Tolds (w : World) (F : Nat → Prop) (M : Nat) (v : Value) (s : MS) (e : Ending) (w' : World) : Prop := e = .returned v ∧ Struck w F M s w'

theorem MemAt.at {w : World} {F FA : Nat → Prop} {M : Nat} {x : Option Addr} {n cap : Nat} {q : Option Addr} {ws : List Int} {es : List Ev} {t a : Int} (h : MemAt w F FA M (.slice x n cap) q ws es t a) {j : Nat} (hj : j < ws.length) :
    ∃ g, x = some ⟨g, 0, none⟩ ∧ w.cell? ⟨g, j, none⟩ = some (.int .u64 (ws.getD j 0)) ∧ w.frozen? ⟨g, j, none⟩ = false ∧ ws.length = n := by
  obtain ⟨x', cap', e, _, _, _, hg⟩ := h.row.form
  obtain ⟨g, hx, _, _⟩ := hg (by omega)
  simp only [Value.slice.injEq] at e
  obtain ⟨rfl, rfl, rfl⟩ := e
  subst hx
  exact ⟨g, rfl, h.row.cell rfl hj, h.row.frozen rfl j, rfl⟩

set_option maxRecDepth 100000 in
set_option maxHeartbeats 2000000 in
theorem Load_any (F : Nat → Prop) (M : Nat) (s : MS) (ad : Int) (w : World) (h : MM w F M s) (hb : -9223372036854775808 ≤ ad ∧ ad < 9223372036854775808) (ht : 0 ≤ s.t ∧ s.t ≤ 1000000000) :
    Calls Try.prog 27 #[.pointer (some ⟨M, 0, none⟩), .int .i64 ad] w (Tolds w F M (.tuple #[.int .u64 (ldV s ad), .int .i64 (adE s ad)]) (ldS s ad)) := by
  cases hp : hasP s.ws.length ad
  · unfold ldV adE ldS
    rw [hp]
    have K1 := Lib.hid (access_no F M s ad w h hp hb)
    have HS := Lib.hid h.same
    clear h
    simp only [Bool.false_eq_true, if_false]
    go_enter Try.func27, Try.ntmps27
    go_wp2_with (go_at_call 33; refine K1.out.mono ?_; rintro e w1 ⟨rfl, rfl⟩)
    go_ret2
    exact ⟨rfl, HS.out⟩
  · unfold ldV adE ldS
    rw [hp]
    obtain ⟨h0, h1⟩ := hasP_in hp
    obtain ⟨j, rfl⟩ : ∃ j : Nat, ad = (j : Int) := ⟨ad.toNat, by omega⟩
    have K1 := Lib.hid (access_ok F M s j w h (by omega) ht)
    have hjl : j < (acc s).ws.length := by rw [acc_len]; omega
    clear h hp
    simp only [if_true, Int.toNat_natCast]
    generalize acc s = s2 at *
    have HJ := Lib.hid hjl
    clear hjl
    go_enter Try.func27, Try.ntmps27
    go_wp2_with (go_at_call 33; refine K1.out.mono ?_; rintro e w1 ⟨rfl, h1'⟩; have H1 := Lib.hid h1'; obtain ⟨FA1, x1, cap1, q1, hm1⟩ := h1'.1.open; have k0 := hm1.own.c0; obtain ⟨g, rfl, kc, kf, -⟩ := hm1.at HJ.out; have hjn := HJ.out; generalize s2.ws.length = n at k0 hjn; clear hm1 h1')
    go_ret2
    exact ⟨rfl, H1.out⟩

set_option maxRecDepth 100000 in
set_option maxHeartbeats 2000000 in
theorem Store_any (F : Nat → Prop) (M : Nat) (s : MS) (ad u : Int) (w : World) (h : MM w F M s) (hb : -9223372036854775808 ≤ ad ∧ ad < 9223372036854775808) (hu : 0 ≤ u ∧ u < 18446744073709551616) (ht : 0 ≤ s.t ∧ s.t ≤ 1000000000) :
    Calls Try.prog 25 #[.pointer (some ⟨M, 0, none⟩), .int .i64 ad, .int .u64 u] w (Tolds w F M (.int .i64 (adE s ad)) (stS s ad u)) := by
  cases hp : hasP s.ws.length ad
  · unfold adE stS
    rw [hp]
    have K1 := Lib.hid (access_no F M s ad w h hp hb)
    have HS := Lib.hid h.same
    clear h
    simp only [Bool.false_eq_true, if_false]
    go_enter Try.func25, Try.ntmps25
    go_wp2_with (go_at_call 33; refine K1.out.mono ?_; rintro e w1 ⟨rfl, rfl⟩)
    go_ret
    exact ⟨rfl, HS.out⟩
  · unfold adE stS
    rw [hp]
    obtain ⟨h0, h1⟩ := hasP_in hp
    obtain ⟨j, rfl⟩ : ∃ j : Nat, ad = (j : Int) := ⟨ad.toNat, by omega⟩
    have K1 := Lib.hid (access_ok F M s j w h (by omega) ht)
    have hjl : j < (acc s).ws.length := by rw [acc_len]; omega
    clear h hp
    simp only [if_true, Int.toNat_natCast]
    generalize acc s = s2 at *
    have HJ := Lib.hid hjl
    have HU := Lib.hid hu
    clear hjl hu
    go_enter Try.func25, Try.ntmps25
    go_wp2_with (go_at_call 33; refine K1.out.mono ?_; rintro e w1 ⟨rfl, h1'⟩; obtain ⟨FA1, x1, cap1, q1, hm1⟩ := h1'.1.open; have k0 := hm1.own.c0; obtain ⟨g, rfl, kc, kf, -⟩ := hm1.at HJ.out; have H1 := Lib.hid (h1'.put k0 j HU.out); have hjn := HJ.out; generalize s2.ws.length = n at k0 hjn; clear hm1 h1')
    go_ret
    exact ⟨rfl, H1.out⟩

theorem Load_nil (ad : Int) (w : World) : Calls Try.prog 27 #[.pointer none, .int .i64 ad] w fun e w' => e = .returned (.tuple #[.int .u64 0, .int .i64 1]) ∧ w = w' := by
  have K1 := Lib.hid (access_nil ad w)
  go_enter Try.func27, Try.ntmps27
  go_wp2_with (go_at_call 33; refine K1.out.mono ?_; rintro e w1 ⟨rfl, rfl⟩)
  go_ret2
  exact ⟨rfl, rfl⟩

theorem Store_nil (ad u : Int) (w : World) : Calls Try.prog 25 #[.pointer none, .int .i64 ad, .int .u64 u] w fun e w' => e = .returned (.int .i64 1) ∧ w = w' := by
  have K1 := Lib.hid (access_nil ad w)
  go_enter Try.func25, Try.ntmps25
  go_wp2_with (go_at_call 33; refine K1.out.mono ?_; rintro e w1 ⟨rfl, rfl⟩)
  go_ret
  exact ⟨rfl, rfl⟩

theorem Next_nil (x : Option Addr) (n cap : Nat) (w : World) : Calls Try.prog 26 #[.pointer none, .slice x n cap] w fun e w' => e = .returned (.int .i64 1) ∧ w = w' := by
  go_enter Try.func26, Try.ntmps26
  go_wp2
  go_ret
  exact ⟨rfl, rfl⟩

theorem Words_nil (w : World) : Calls Try.prog 22 #[.pointer none] w fun e w' => e = .returned (.slice none 0 0) ∧ w = w' := by
  go_enter Try.func22, Try.ntmps22
  go_wp2
  go_ret
  exact ⟨rfl, rfl⟩

theorem Ticks_nil (w : World) : Calls Try.prog 18 #[.pointer none] w fun e w' => e = .returned (.int .i64 0) ∧ w = w' := by
  go_enter Try.func18, Try.ntmps18
  go_wp2
  go_ret
  exact ⟨rfl, rfl⟩

theorem All_nil (w : World) : Calls Try.prog 20 #[.pointer none] w fun e w' => e = .returned (.int .i64 0) ∧ w = w' := by
  go_enter Try.func20, Try.ntmps20
  go_wp2
  go_ret
  exact ⟨rfl, rfl⟩

theorem Ticks_any (F : Nat → Prop) (M : Nat) (s : MS) (w : World) (h : MM w F M s) : Calls Try.prog 18 #[.pointer (some ⟨M, 0, none⟩)] w fun e w' => e = .returned (.int .i64 s.t) ∧ w = w' := by
  obtain ⟨FA, x, cap, q, h⟩ := h.open
  have c2 := h.own.c2
  clear h
  go_enter Try.func18, Try.ntmps18
  go_wp2
  go_ret
  exact ⟨rfl, rfl⟩

theorem All_at (M : Nat) (v : Value) (q : Option Addr) (t a : Int) (w : World) (h : MemB w M v q t a) (ht : 0 ≤ t ∧ t ≤ 1000000000) (ha : 0 ≤ a ∧ a ≤ 1000000000) :
    Calls Try.prog 20 #[.pointer (some ⟨M, 0, none⟩)] w (RetQ (.int .i64 (a + t)) w) := by
  have c2 := h.c2
  have c3 := h.c3
  clear h
  go_enter Try.func20, Try.ntmps20
  go_wp2
  go_quiet (fail)
  go_wp2
  go_ret
  exact ⟨rfl, _, rfl⟩

theorem All_any (F : Nat → Prop) (M : Nat) (s : MS) (w : World) (h : MM w F M s) (ht : 0 ≤ s.t ∧ s.t ≤ 1000000000) (ha : 0 ≤ s.a ∧ s.a ≤ 1000000000) :
    Calls Try.prog 20 #[.pointer (some ⟨M, 0, none⟩)] w (RetQ (.int .i64 (s.a + s.t)) w) := by
  obtain ⟨FA, x, cap, q, h⟩ := h.open
  exact All_at M _ q s.t s.a w h.own ht ha

/-- What Words tells. -/
def Worded (w : World) (ws : List Int) (e : Ending) (w' : World) : Prop := ∃ x cap, e = .returned (.slice x ws.length cap) ∧ Owns .u64 33 w' w.heap.size (.slice x ws.length cap) ws ∧ Below w.heap.size w w'

theorem Words_any (F : Nat → Prop) (M : Nat) (s : MS) (w : World) (h : MM w F M s) : Calls Try.prog 22 #[.pointer (some ⟨M, 0, none⟩)] w (Worded w s.ws) := by
  obtain ⟨FA, v, q, h⟩ := h
  obtain ⟨x, cap, rfl, hs⟩ := h.row.src
  have K1 := Lib.hid (clone_any x s.ws.length cap s.ws w hs (by have := h.few; omega))
  have c0 := h.own.c0
  clear h hs
  go_enter Try.func22, Try.ntmps22
  go_wp2_with (go_at_call 32; refine K1.out.mono ?_; rintro e w1 ⟨v1, rfl, hO1, hB1⟩; obtain ⟨x1, cap1, rfl, -⟩ := hO1.form; have H1 := Lib.hid (And.intro hO1 hB1); clear hO1 hB1)
  go_ret
  exact ⟨_, _, rfl, H1.out⟩

/-! The window's end. -/
section
variable {w w1 w2 : World} {F : Nat → Prop} {M A n : Nat} {s : MS} {es : List Ev}
theorem MM.next (h : MM w1 F M s) (hA : AG w2 (Nw w1 w2) A es n) (hB : Below w1.heap.size w1 w2) (hl : es.length ≤ 1024) : Struck w1 F M ⟨s.ws, es, s.t, s.a⟩ (w2.setCell ⟨M, 1, none⟩ (.pointer (some ⟨A, 0, none⟩))) := by
  obtain ⟨FA, v, q, h⟩ := h
  have hsz : (w2.setCell ⟨M, 1, none⟩ (.pointer (some ⟨A, 0, none⟩))).heap.size = w2.heap.size := by simp [World.setCell]
  have hset : ∀ k, k ≠ M → (w2.setCell ⟨M, 1, none⟩ (.pointer (some ⟨A, 0, none⟩))).heap[k]? = w2.heap[k]? := fun k hk => Below.heap_setCell _ _ _ _ hk
  have hs2 := hB.size
  have hM := h.own.lt
  have hk2 : ∀ k, F k → w2.heap[k]? = w1.heap[k]? := fun k c => hB.block k (h.lt k c)
  refine ⟨⟨Nw w1 w2, v, _, ⟨(h.own.keep (hk2 M h.fm)).set1 _, (h.row.below hB).stay fun g e => hset g (by rintro rfl; exact h.ne e), h.words, h.few, .inr ⟨A, n, rfl, hA.keep (by omega) fun k c => hset k (by have := c.1; omega), hl⟩, h.ne, .inl h.fm, fun g e => .inl (h.fv g e), fun g e c => ?_, fun c => ?_, fun k c => .inr ⟨c.1, by rw [hsz]; exact c.2⟩, fun k c => ?_⟩⟩, ?_⟩
  · have := h.lt g (h.fv g e); have := c.1; omega
  · have := c.1; omega
  · rcases c with c | c
    · have := h.lt k c; omega
    · exact c.2
  · exact (But.of_below hB).trans (But.setCell w2 M 1 _) fun k _ c => by rw [c]; exact h.fm
theorem MM.setA (h : MM w F M s) (u : Int) : Struck w F M ⟨s.ws, s.es, s.t, u⟩ (w.setCell ⟨M, 3, none⟩ (.int .i64 u)) := by
  have hsz : (w.setCell ⟨M, 3, none⟩ (.int .i64 u)).heap.size = w.heap.size := by simp [World.setCell]
  obtain ⟨FA, v, q, h⟩ := h
  have h' := h.sets hsz (fun k hk => Below.heap_setCell _ _ _ _ hk) (h.own.set3 u)
  exact ⟨⟨FA, v, q, h'.more (fun k c => .inl c) fun k c => c.elim (h'.lt k) fun c => c.2⟩, (But.setCell w M 3 _).mono fun k _ c => by rw [c]; exact h.fm⟩
theorem MM.setT' (h : MM w F M s) (u : Int) : Struck w F M ⟨s.ws, s.es, u, s.a⟩ (w.setCell ⟨M, 2, none⟩ (.int .i64 u)) := by
  obtain ⟨h1, h2⟩ := h.setT u
  exact ⟨h1.more (fun k c => .inl c) fun k c => c.elim (h1.lt k) fun c => c.2, h2⟩
end

set_option maxRecDepth 100000 in
set_option maxHeartbeats 2000000 in
theorem Next_ok (F : Nat → Prop) (M : Nat) (s : MS) (x : Option Addr) (n cap : Nat) (ys : List Ev) (w : World) (h : MM w F M s) (hx : RdF w F x ys) (hn : ys.length = n) (ho : EvsOk ys) (hl : n ≤ 1024) (ht : 0 ≤ s.t ∧ s.t ≤ 1000000000) (ha : 0 ≤ s.a ∧ s.a ≤ 1000000000) :
    Calls Try.prog 26 #[.pointer (some ⟨M, 0, none⟩), .slice x n cap] w (Tolds w F M (.int .i64 0) (nxS s ys)) := by
  unfold nxS
  rw [if_pos (by omega)]
  have HC := Lib.hid (check_any x n cap w)
  rw [chk_ok hl] at HC
  obtain ⟨FA, x0, cap0, q, hm⟩ := h.open
  have K1 := Lib.hid (strike_rest F FA M _ q s.ws s.es s.t s.a w hm)
  have c1 := hm.own.c1
  have HN := Lib.hid (fun w1 (hb : But F w w1) => New_ok x n cap ys w1 (hx.but hb).reads hn ho hl)
  have HL : Hid ((putAll [] ys).length ≤ 1024) := Lib.hid (by rw [putAll_len]; simp; omega)
  have HT := Lib.hid (And.intro ht ha)
  clear h hm hx ho
  generalize strike s.es s.ws = ws2 at K1 ⊢
  generalize putAll [] ys = ls at HN HL ⊢
  obtain ⟨z, hz⟩ : ∃ z, z = s.a + s.t := ⟨_, rfl⟩
  rw [← hz]
  have HZ := Lib.hid hz
  clear hz
  go_enter Try.func26, Try.ntmps26
  go_wp2_with (first
    | (go_at_call 34; refine HC.out.mono ?_; clear HC; rintro e w0 ⟨rfl, rfl⟩)
    | (go_at_call 35; refine K1.out.mono ?_; clear K1; rintro e w1 ⟨rfl, h1⟩; have K2 := Lib.hid (HN.out w1 h1.2); have H1 := Lib.hid h1; clear h1)
    | (go_at_call 37; refine K2.out.mono ?_; clear K2; rintro e w2 ⟨A, rfl, -, hA2, hB2⟩; have H2 := Lib.hid (H1.out.trans (H1.out.1.next hA2 hB2 HL.out)); obtain ⟨FA1, x1, cap1, q1, hm1⟩ := (H1.out.1.below hB2).open; have k1 := hm1.own.c1; have kf := hm1.own.fz 1; obtain ⟨FA2, x2, cap2, q2, hm2⟩ := H2.out.1.open; have K3 := Lib.hid (All_at M _ _ _ _ _ hm2.own HT.out.1 HT.out.2); rw [← HZ.out] at K3; clear hA2 hB2 hm1 hm2)
    | (go_at_call 20; refine K3.out.mono ?_; clear K3; rintro e w3 ⟨rfl, nq, rfl⟩; have H3 := Lib.hid (H2.out.quiet (draws_below _ _ nq)); obtain ⟨FA3, x3, cap3, q3, hm3⟩ := H3.out.1.open; have k2 := hm3.own.c2; have k3 := hm3.own.c3; have kf2 := hm3.own.fz 2; have kf3 := hm3.own.fz 3; clear hm3))
  go_ret
  exact ⟨rfl, (H3.out.trans (H3.out.1.setA z)).trans ((H3.out.trans (H3.out.1.setA z)).1.setT' 0)⟩

set_option maxRecDepth 100000 in
theorem Next_bad (F : Nat → Prop) (M : Nat) (s : MS) (x : Option Addr) (n cap : Nat) (ys : List Ev) (w : World) (h : MM w F M s) (hn : ys.length = n) (hl : 1024 < n) :
    Calls Try.prog 26 #[.pointer (some ⟨M, 0, none⟩), .slice x n cap] w (Tolds w F M (.int .i64 1) (nxS s ys)) := by
  unfold nxS
  rw [if_neg (by omega)]
  have HC := Lib.hid (check_any x n cap w)
  rw [chk_bad hl] at HC
  have HS := Lib.hid h.same
  clear h
  go_enter Try.func26, Try.ntmps26
  go_wp2_with (go_at_call 34; refine HC.out.mono ?_; clear HC; rintro e w0 ⟨rfl, rfl⟩)
  go_ret
  exact ⟨rfl, HS.out⟩

theorem Next_mem (F : Nat → Prop) (M : Nat) (s : MS) (x : Option Addr) (n cap : Nat) (ys : List Ev) (w : World) (h : MM w F M s) (hx : RdF w F x ys) (hn : ys.length = n) (ho : EvsOk ys) (ht : 0 ≤ s.t ∧ s.t ≤ 1000000000) (ha : 0 ≤ s.a ∧ s.a ≤ 1000000000) :
    Calls Try.prog 26 #[.pointer (some ⟨M, 0, none⟩), .slice x n cap] w (Tolds w F M (.int .i64 (nxR ys)) (nxS s ys)) := by
  unfold nxR
  by_cases hl : n ≤ 1024
  · rw [if_pos (by omega)]
    exact Next_ok F M s x n cap ys w h hx hn ho hl ht ha
  · rw [if_neg (by omega)]
    exact Next_bad F M s x n cap ys w h hn (by omega)

end Go.Proofs.Ytaphhgiocahnhaa
