/-
  What strikes: the method strike of package mem, by what is due and by all that waits; an access, a load, a store.
-/
import Derived.Test.YtaphhgiocahnhaaMem
namespace Go.Proofs.Ytaphhgiocahnhaa
open Go.RowKit Go.Sort

/-- What a call leaves that tells nothing: the memory is s. -/
def Struck (w : World) (F : Nat → Prop) (M : Nat) (s : MS) (w' : World) : Prop := MM w' (Or2 F (Nw w w')) M s ∧ But F w w'

section
variable {w w1 w2 w' : World} {F FA : Nat → Prop} {M : Nat} {v : Value} {q : Option Addr} {ws : List Int} {es : List Ev} {t a : Int}
theorem MemAt.told (h : MemAt w F FA M v q ws es t a) {es' : List Ev} (hW : Wait w1 FA q es') (hb : But FA w w1) : MemAt w1 F FA M v q ws es' t a ∧ But F w w1 :=
  ⟨⟨h.own.keep (hb.block M h.own.lt h.am), h.row.stay fun g e => hb.block g (h.lt g (h.fv g e)) (h.av g e), h.words, h.few, hW, h.ne, h.fm, h.fv, h.av, h.am, h.af, fun k c => Nat.lt_of_lt_of_le (h.lt k c) hb.size⟩, hb.mono fun k _ c => h.af k c⟩
theorem MemAt.calm (h : MemAt w1 F FA M v q ws es t a) (hb : But F w w1) : Struck w F M ⟨ws, es, t, a⟩ w1 :=
  ⟨⟨FA, v, q, h.more (fun _ c => .inl c) fun k c => c.elim (h.lt k) fun c => c.2⟩, hb⟩
theorem MemAt.struck (h : MemAt w1 F FA M v q ws es t a) (hb : But F w w1) {v2 : Value} {ws2 : List Int} (hO : Owns .u64 33 w2 w1.heap.size v2 ws2) (hB : Below w1.heap.size w1 w2) (hw : Words ws2) (hl : ws2.length ≤ 16384) :
    Struck w F M ⟨ws2, es, t, a⟩ (w2.setCell ⟨M, 0, none⟩ v2) := by
  have hsz : (w2.setCell ⟨M, 0, none⟩ v2).heap.size = w2.heap.size := by simp [World.setCell]
  have hs1 := hb.size
  have hs2 := hB.size
  have hM := h.own.lt
  have hm2 : ∀ g, v2.ownBlock = some g → w1.heap.size ≤ g ∧ g < w2.heap.size := fun g e => hO.blockLt e
  have hset : ∀ k, k ≠ M → (w2.setCell ⟨M, 0, none⟩ v2).heap[k]? = w2.heap[k]? := fun k hk => Below.heap_setCell _ _ _ _ hk
  have hk2 : ∀ k, F k → w2.heap[k]? = w1.heap[k]? := fun k c => hB.block k (h.lt k c)
  refine ⟨⟨FA, v2, q, ⟨(h.own.keep (hk2 M h.fm)).set0 v2, (hO.mono (Nat.zero_le _)).stay fun g e => hset g (by have := hm2 g e; omega), hw, hl, ?_, ?_, .inl h.fm, fun g e => ?_, fun g e c => ?_, h.am, fun k c => .inl (h.af k c), fun k c => ?_⟩⟩, ?_⟩
  · refine h.wait.keep (by rw [hsz]; exact hs2) fun k c => ?_
    rw [hset k (by rintro rfl; exact h.am c)]
    exact hk2 k (h.af k c)
  · intro e; have := hm2 M e; omega
  · exact .inr ⟨by have := hm2 g e; omega, by rw [hsz]; exact (hm2 g e).2⟩
  · have := hm2 g e; have := h.lt g (h.af g c); omega
  · rw [hsz]
    rcases c with c | c
    · have := h.lt k c; omega
    · have := c.2; rw [hsz] at this; exact this
  · exact (hb.trans (But.of_below hB) fun _ _ c => c).trans (But.setCell w2 M 0 v2) fun k _ c => by rw [c]; exact h.fm
end

set_option maxRecDepth 100000 in
set_option maxHeartbeats 2000000 in
theorem strike_due (F FA : Nat → Prop) (M : Nat) (v : Value) (q : Option Addr) (ws : List Int) (es : List Ev) (t a : Int) (w : World) (h : MemAt w F FA M v q ws es t a) :
    Calls Try.prog 35 #[.pointer (some ⟨M, 0, none⟩), .func (.func 41) #[.pointer (some ⟨M, 0, none⟩)] #[]] w fun e w' => e = .returned (.tuple #[]) ∧ Struck w F M ⟨strike (due t es) ws, yet t es, t, a⟩ w' := by
  have K1 := Lib.hid (mdue_any F FA M v q ws es t a w h)
  have HE := Lib.hid (fun w1 es' hW hb => h.told (w1 := w1) (es' := es') hW hb)
  have HO : Hid (EvsOk (due t es) ∧ (due t es).length ≤ 1024) := Lib.hid ⟨fun s hs => h.wait.ok s (List.mem_filter.1 hs).1, by have := due_len t es; have := h.wait.few; omega⟩
  have HW := Lib.hid (And.intro h.words h.few)
  clear h
  generalize due t es = ts at K1 HO ⊢
  generalize yet t es = es' at K1 ⊢
  by_cases hn : ts = []
  · subst hn
    rw [strike_nil]
    go_enter Try.func35, Try.ntmps35
    go_wp2_with (first
      | (go_at_call 41; refine K1.out.mono ?_; intro e w1 hd; obtain ⟨x1, c1, rfl, -, hW1, hb1⟩ := hd; have H1 := Lib.hid (HE.out w1 _ hW1 hb1); rw [List.length_nil]; clear K1 hW1 hb1)
      | (go_at_fn 41; refine K1.out.mono ?_; intro e w1 hd; obtain ⟨x1, c1, rfl, -, hW1, hb1⟩ := hd; have H1 := Lib.hid (HE.out w1 _ hW1 hb1); rw [List.length_nil]; clear K1 hW1 hb1))
    go_end0
    exact ⟨rfl, H1.out.1.calm H1.out.2⟩
  · have hp : 0 < ts.length := List.length_pos_iff.2 hn
    have HWs : Hid (Words (strike ts ws) ∧ (strike ts ws).length ≤ 16384) := Lib.hid ⟨strike_words HO.out.1 HW.out.1, by rw [strike_len]; exact HW.out.2⟩
    have HSt := Lib.hid (fun (W : World) x1 c1 xw cw (hx : ReadsE W W.heap.size x1 ts) (hy : Src .u64 W xw ws.length cw ws) => Strike_ok x1 ts.length c1 ts xw ws.length cw ws W hx rfl HO.out.1 HO.out.2 hy HW.out.1 HW.out.2)
    generalize strike ts ws = ws2 at HWs HSt ⊢
    have hpt : decide ((0 : Int) < (ts.length : Int)) = true := by simpa using hp
    have hpt' : decide (0 < ts.length) = true := by simpa using hp
    clear hn
    go_enter Try.func35, Try.ntmps35
    go_wp2_with (first
      | (go_at_call 41; refine K1.out.mono ?_; intro e w1 hd; obtain ⟨x1, c1, rfl, hO1, hW1, hb1⟩ := hd; have H1 := Lib.hid (HE.out w1 _ hW1 hb1); obtain ⟨xw, cw, rfl, hsrc⟩ := H1.out.1.row.src; have K2 := Lib.hid (HSt.out w1 x1 c1 xw cw hO1.reads hsrc); have k0 := H1.out.1.own.c0; clear K1 hO1 hW1 hb1 hsrc)
      | (go_at_call 28; refine K2.out.mono ?_; clear K2; rintro e w2 ⟨v2, rfl, hO2, hB2⟩; obtain ⟨x2, c2, rfl, -⟩ := hO2.form; have H3 := Lib.hid (H1.out.1.struck H1.out.2 hO2 hB2 HWs.out.1 HWs.out.2); have k2 := (H1.out.1.own.keep (hB2.block M H1.out.1.own.lt)).c0; have kf := (H1.out.1.own.keep (hB2.block M H1.out.1.own.lt)).fz 0; clear hO2 hB2 k0))
    go_end0
    exact ⟨rfl, H3.out⟩

set_option maxRecDepth 100000 in
set_option maxHeartbeats 2000000 in
theorem strike_rest (F FA : Nat → Prop) (M : Nat) (v : Value) (q : Option Addr) (ws : List Int) (ts : List Ev) (t a : Int) (w : World) (h : MemAt w F FA M v q ws ts t a) :
    Calls Try.prog 35 #[.pointer (some ⟨M, 0, none⟩), .func (.func 36) #[.pointer q] #[]] w fun e w' => e = .returned (.tuple #[]) ∧ Struck w F M ⟨strike ts ws, [], t, a⟩ w' := by
  have K1 := Lib.hid (wRest_any FA q ts w h.wait)
  have HE := Lib.hid (fun w1 es' hW hb => h.told (w1 := w1) (es' := es') hW hb)
  have HO : Hid (EvsOk ts ∧ ts.length ≤ 1024) := Lib.hid ⟨h.wait.ok, h.wait.few⟩
  have HW := Lib.hid (And.intro h.words h.few)
  clear h
  by_cases hn : ts = []
  · subst hn
    rw [strike_nil]
    go_enter Try.func35, Try.ntmps35
    go_wp2_with (go_at_call 36; refine K1.out.mono ?_; intro e w1 hd; obtain ⟨x1, c1, rfl, -, hW1, hb1⟩ := hd; have H1 := Lib.hid (HE.out w1 _ hW1 hb1); rw [List.length_nil]; clear K1 hW1 hb1)
    go_end0
    exact ⟨rfl, H1.out.1.calm H1.out.2⟩
  · have hp : 0 < ts.length := List.length_pos_iff.2 hn
    have HWs : Hid (Words (strike ts ws) ∧ (strike ts ws).length ≤ 16384) := Lib.hid ⟨strike_words HO.out.1 HW.out.1, by rw [strike_len]; exact HW.out.2⟩
    have HSt := Lib.hid (fun (W : World) x1 c1 xw cw (hx : ReadsE W W.heap.size x1 ts) (hy : Src .u64 W xw ws.length cw ws) => Strike_ok x1 ts.length c1 ts xw ws.length cw ws W hx rfl HO.out.1 HO.out.2 hy HW.out.1 HW.out.2)
    generalize strike ts ws = ws2 at HWs HSt ⊢
    have hpt : decide ((0 : Int) < (ts.length : Int)) = true := by simpa using hp
    have hpt' : decide (0 < ts.length) = true := by simpa using hp
    clear hn
    go_enter Try.func35, Try.ntmps35
    go_wp2_with (first
      | (go_at_call 36; refine K1.out.mono ?_; intro e w1 hd; obtain ⟨x1, c1, rfl, hO1, hW1, hb1⟩ := hd; have H1 := Lib.hid (HE.out w1 _ hW1 hb1); obtain ⟨xw, cw, rfl, hsrc⟩ := H1.out.1.row.src; have K2 := Lib.hid (HSt.out w1 x1 c1 xw cw hO1.reads hsrc); have k0 := H1.out.1.own.c0; clear K1 hO1 hW1 hb1 hsrc)
      | (go_at_call 28; refine K2.out.mono ?_; clear K2; rintro e w2 ⟨v2, rfl, hO2, hB2⟩; obtain ⟨x2, c2, rfl, -⟩ := hO2.form; have H3 := Lib.hid (H1.out.1.struck H1.out.2 hO2 hB2 HWs.out.1 HWs.out.2); have k2 := (H1.out.1.own.keep (hB2.block M H1.out.1.own.lt)).c0; have kf := (H1.out.1.own.keep (hB2.block M H1.out.1.own.lt)).fz 0; clear hO2 hB2 k0))
    go_end0
    exact ⟨rfl, H3.out⟩

/-! One access more. -/
theorem MM.open {w : World} {F : Nat → Prop} {M : Nat} {s : MS} (h : MM w F M s) : ∃ FA x cap q, MemAt w F FA M (.slice x s.ws.length cap) q s.ws s.es s.t s.a := by
  obtain ⟨FA, v, q, h⟩ := h
  obtain ⟨x, cap, rfl, -⟩ := h.row.form
  exact ⟨FA, x, cap, q, h⟩

section
variable {w w1 w2 w' : World} {F FA : Nat → Prop} {M : Nat} {v : Value} {q : Option Addr} {ws : List Int} {es : List Ev} {t a : Int} {s : MS}
theorem MemAt.sets (h : MemAt w F FA M v q ws es t a) {w' : World} {t' a' : Int} (hs : w'.heap.size = w.heap.size) (hk : ∀ k, k ≠ M → w'.heap[k]? = w.heap[k]?) (hB : MemB w' M v q t' a') : MemAt w' F FA M v q ws es t' a' :=
  ⟨hB, h.row.stay fun g e => hk g (by rintro rfl; exact h.ne e), h.words, h.few, h.wait.keep (by omega) fun k c => hk k (by rintro rfl; exact h.am c), h.ne, h.fm, h.fv, h.av, h.am, h.af, fun k c => by rw [hs]; exact h.lt k c⟩
theorem MM.setT (h : MM w F M s) (u : Int) : MM (w.setCell ⟨M, 2, none⟩ (.int .i64 u)) F M ⟨s.ws, s.es, u, s.a⟩ ∧ But F w (w.setCell ⟨M, 2, none⟩ (.int .i64 u)) := by
  obtain ⟨FA, v, q, h⟩ := h
  exact ⟨⟨FA, v, q, h.sets (by simp [World.setCell]) (fun k hk => Below.heap_setCell _ _ _ _ hk) (h.own.set2 u)⟩, (But.setCell w M 2 _).mono fun k _ c => by rw [c]; exact h.fm⟩
theorem Struck.setT (h : Struck w F M s w') (u : Int) : Struck w F M ⟨s.ws, s.es, u, s.a⟩ (w'.setCell ⟨M, 2, none⟩ (.int .i64 u)) := by
  have hsz : (w'.setCell ⟨M, 2, none⟩ (.int .i64 u)).heap.size = w'.heap.size := by simp [World.setCell]
  obtain ⟨h1, h2⟩ := h
  obtain ⟨k1, k2⟩ := h1.setT u
  have hG : ∀ k, Nw w w' k → Nw w (w'.setCell ⟨M, 2, none⟩ (.int .i64 u)) k := fun k c => ⟨c.1, by rw [hsz]; exact c.2⟩
  refine ⟨k1.more (fun k c => c.imp id (hG k)) (fun k c => ?_), h2.trans k2 fun k hk c => c.elim id fun c => ?_⟩
  · rw [hsz]
    exact h1.lt k (c.imp id fun c => ⟨c.1, by have := c.2; rw [hsz] at this; exact this⟩)
  · have := c.1; omega
/-- A word is stored. -/
theorem MM.put (h : MM w F M s) {g n cap : Nat} (hc : w.cell? ⟨M, 0, none⟩ = some (.slice (some ⟨g, 0, none⟩) n cap)) (j : Nat) {u : Int} (hu : 0 ≤ u ∧ u < 18446744073709551616) :
    MM (w.setCell ⟨g, j, none⟩ (.int .u64 u)) F M ⟨s.ws.set j u, s.es, s.t, s.a⟩ ∧ But F w (w.setCell ⟨g, j, none⟩ (.int .u64 u)) := by
  obtain ⟨FA, v, q, h⟩ := h
  have e := h.own.c0
  rw [hc] at e
  simp only [Option.some.injEq] at e
  subst e
  have hg : ∀ k, k ≠ g → (w.setCell ⟨g, j, none⟩ (.int .u64 u)).heap[k]? = w.heap[k]? := fun k hk => Below.heap_setCell _ _ _ _ hk
  have hgM : g ≠ M := fun e => h.ne (by rw [e]; rfl)
  have hsz : (w.setCell ⟨g, j, none⟩ (.int .u64 u)).heap.size = w.heap.size := by simp [World.setCell]
  have hl : s.ws.length = n := by
    obtain ⟨x, c, e, -⟩ := h.row.form
    simp only [Value.slice.injEq] at e
    exact e.2.1.symm
  refine ⟨⟨FA, _, q, ⟨h.own.keep (hg M fun e => hgM e.symm), h.row.set hl j u, h.words.set j hu.1 hu.2, by rw [List.length_set]; exact h.few, h.wait.keep (by omega) fun k c => hg k (by rintro rfl; exact h.av _ rfl c), h.ne, h.fm, h.fv, h.av, h.am, h.af, fun k c => by rw [hsz]; exact h.lt k c⟩⟩, ?_⟩
  exact (But.setCell w g j _).mono fun k _ c => by rw [c]; exact h.fv g rfl
theorem Struck.put (h : Struck w F M s w') {g n cap : Nat} (hc : w'.cell? ⟨M, 0, none⟩ = some (.slice (some ⟨g, 0, none⟩) n cap)) (j : Nat) {u : Int} (hu : 0 ≤ u ∧ u < 18446744073709551616) :
    Struck w F M ⟨s.ws.set j u, s.es, s.t, s.a⟩ (w'.setCell ⟨g, j, none⟩ (.int .u64 u)) := by
  have hsz : (w'.setCell ⟨g, j, none⟩ (.int .u64 u)).heap.size = w'.heap.size := by simp [World.setCell]
  obtain ⟨h1, h2⟩ := h
  obtain ⟨k1, k2⟩ := h1.put hc j hu
  have hG : ∀ k, Nw w w' k → Nw w (w'.setCell ⟨g, j, none⟩ (.int .u64 u)) k := fun k c => ⟨c.1, by rw [hsz]; exact c.2⟩
  refine ⟨k1.more (fun k c => c.imp id (hG k)) (fun k c => ?_), h2.trans k2 fun k hk c => c.elim id fun c => ?_⟩
  · rw [hsz]
    exact h1.lt k (c.imp id fun c => ⟨c.1, by have := c.2; rw [hsz] at this; exact this⟩)
  · have := c.1; omega
theorem MM.same (h : MM w F M s) : Struck w F M s w := ⟨h.more (fun _ c => .inl c) fun k c => c.elim (h.lt k) fun c => by have := c.1; have := c.2; omega, But.refl _ _⟩
end

set_option maxRecDepth 100000 in
set_option maxHeartbeats 2000000 in
theorem access_ok (F : Nat → Prop) (M : Nat) (s : MS) (ad : Nat) (w : World) (h : MM w F M s) (hp : ad < s.ws.length) (ht : 0 ≤ s.t ∧ s.t ≤ 1000000000) :
    Calls Try.prog 33 #[.pointer (some ⟨M, 0, none⟩), .int .i64 (ad : Int)] w fun e w' => e = .returned (.bool true) ∧ Struck w F M (acc s) w' := by
  unfold acc
  have hfew := h.few
  obtain ⟨FA, x, cap, q, h⟩ := h.open
  have K1 := Lib.hid (strike_due F FA M _ q s.ws s.es s.t s.a w h)
  have c0 := h.own.c0
  clear h
  obtain ⟨n, hn⟩ : ∃ n, n = s.ws.length := ⟨_, rfl⟩
  rw [← hn] at c0 hp hfew
  obtain ⟨t, ht'⟩ : ∃ t, t = s.t := ⟨_, rfl⟩
  rw [← ht'] at ht K1 ⊢
  generalize strike (due t s.es) s.ws = ws2 at K1 ⊢
  generalize yet t s.es = es2 at K1 ⊢
  have hd : decide (n ≤ ad) = false := by simp; omega
  have hd' : decide ((n : Int) ≤ (ad : Int)) = false := by simp; omega
  clear hn ht'
  go_enter Try.func33, Try.ntmps33
  go_wp2_with (go_at_call 35; refine K1.out.mono ?_; rintro e w1 ⟨rfl, h1⟩; have H1 := Lib.hid (h1.setT (t + 1)); obtain ⟨FA1, x1, cap1, q1, hm1⟩ := h1.1.open; have k2 := hm1.own.c2; have kf := hm1.own.fz 2; clear h1 hm1)
  go_ret
  exact ⟨rfl, H1.out⟩

set_option maxRecDepth 100000 in
theorem access_no (F : Nat → Prop) (M : Nat) (s : MS) (ad : Int) (w : World) (h : MM w F M s) (hp : hasP s.ws.length ad = false) (hb : -9223372036854775808 ≤ ad ∧ ad < 9223372036854775808) :
    Calls Try.prog 33 #[.pointer (some ⟨M, 0, none⟩), .int .i64 ad] w fun e w' => e = .returned (.bool false) ∧ w = w' := by
  obtain ⟨FA, x, cap, q, h⟩ := h.open
  have c0 := h.own.c0
  clear h
  generalize s.ws.length = n at c0 hp
  by_cases h0 : ad < 0
  · have d0 : decide (ad < 0) = true := by simpa using h0
    go_enter Try.func33, Try.ntmps33
    go_wp2
    go_ret
    exact ⟨rfl, rfl⟩
  · have d0 : decide (ad < 0) = false := by simpa using h0
    have d1 : decide ((n : Int) ≤ ad) = true := by have := hasP_no hp; simp; omega
    go_enter Try.func33, Try.ntmps33
    go_wp2
    go_ret
    exact ⟨rfl, rfl⟩

theorem access_nil (ad : Int) (w : World) : Calls Try.prog 33 #[.pointer none, .int .i64 ad] w fun e w' => e = .returned (.bool false) ∧ w = w' := by
  go_enter Try.func33, Try.ntmps33
  go_wp2
  go_ret
  exact ⟨rfl, rfl⟩

end Go.Proofs.Ytaphhgiocahnhaa
