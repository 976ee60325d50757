/-
  What Put of package agenda comes to.
-/
import Derived.Test.YtaphhgiocahnhaaAgenda
namespace Go.Proofs.Ytaphhgiocahnhaa
open Go.RowKit Go.Sort

theorem putK_perm (es : List Ev) (x : Ev) : (putK es x).Perm (x :: es) := by
  unfold putK
  refine List.perm_middle.trans (List.Perm.cons _ ?_)
  have h := List.filter_append_perm (fun y : Ev => decide (y.tk ≤ x.tk)) es
  have e2 : es.filter (fun y => !decide (y.tk ≤ x.tk)) = es.filter (fun y => decide (x.tk < y.tk)) := by
    apply List.filter_congr
    intro y _
    by_cases c : y.tk ≤ x.tk
    · rw [decide_eq_true c, decide_eq_false (by omega)]; rfl
    · rw [decide_eq_false c, decide_eq_true (by omega)]; rfl
  rw [e2] at h
  exact h

def putAll (es ys : List Ev) : List Ev := ys.foldl putK es
theorem putAll_perm : ∀ (ys es : List Ev), (putAll es ys).Perm (es ++ ys)
  | [], es => by simp [putAll]
  | y :: ys, es => by
    show (putAll (putK es y) ys).Perm _
    refine (putAll_perm ys _).trans ?_
    have := (putK_perm es y).append_right ys
    exact this.trans (List.perm_middle (a := y) (l₁ := es) (l₂ := ys)).symm
theorem putAll_len (es ys : List Ev) : (putAll es ys).length = es.length + ys.length := by rw [(putAll_perm ys es).length_eq, List.length_append]
theorem putAll_ok {es ys : List Ev} (h : EvsOk es) (h' : EvsOk ys) : EvsOk (putAll es ys) := fun s hs => by
  rcases List.mem_append.1 ((putAll_perm ys es).mem_iff.1 hs) with c | c
  · exact h s c
  · exact h' s c
theorem take_one (ys : List Ev) (k : Nat) (hk : k < ys.length) : ys.take (k + 1) = ys.take k ++ [ys.getD k noEv] := by
  rw [List.take_add_one, List.getD_eq_getElem?_getD, List.getElem?_eq_getElem hk]; rfl
theorem putAll_one (es ys : List Ev) (k : Nat) (hk : k < ys.length) : putAll es (ys.take (k + 1)) = putK (putAll es (ys.take k)) (ys.getD k noEv) := by
  rw [take_one ys k hk]; unfold putAll; rw [List.foldl_append]; rfl

/-- The address x holds the events ys, in a block that is none of F. -/
def RdF (w : World) (F : Nat → Prop) (x : Option Addr) (ys : List Ev) : Prop :=
  0 < ys.length → ∃ b off, x = some ⟨b, off, none⟩ ∧ b < w.heap.size ∧ ¬ F b ∧ ∀ j, j < ys.length → EvAt w b (off + j * 6) (ys.getD j noEv)
theorem EvAt.block {w w' : World} {b o : Nat} {s : Ev} (h : EvAt w b o s) (hk : w'.heap[b]? = w.heap[b]?) : EvAt w' b o s := by
  obtain ⟨h0, h1, h2, h3, h4, h5⟩ := h
  exact ⟨(World.cell?_of_block hk).trans h0, (World.cell?_of_block hk).trans h1, (World.cell?_of_block hk).trans h2, (World.cell?_of_block hk).trans h3, (World.cell?_of_block hk).trans h4, (World.cell?_of_block hk).trans h5⟩
theorem RdF.but {w w' : World} {F : Nat → Prop} {x : Option Addr} {ys : List Ev} (h : RdF w F x ys) (hb : But F w w') : RdF w' F x ys := fun h0 => by
  obtain ⟨b, off, e, h1, h2, h3⟩ := h h0
  exact ⟨b, off, e, Nat.lt_of_lt_of_le h1 hb.size, h2, fun j hj => (h3 j hj).block (hb.block b h1 h2)⟩
theorem ReadsE.rdF {w : World} {B : Nat} {F : Nat → Prop} {x : Option Addr} {ys : List Ev} (h : ReadsE w B x ys) (hF : ∀ k, F k → B ≤ k) : RdF w F x ys := fun h0 => by
  obtain ⟨b, off, e, h1, h2⟩ := h h0
  exact ⟨b, off, e, (h2 0 h0).lt, fun c => by have := hF b c; omega, h2⟩

theorem HQ.set1 {w : World} {A : Nat} {v : Value} {p : Int} {d : Array En} (h : HQ w A v p d) (q : Int) : HQ (w.setCell ⟨A, 1, none⟩ (.int .i64 q)) A v q d :=
  ⟨h.own.set1 q, h.row.keep fun g e => Below.heap_setCell _ _ _ _ (fun c => h.ne (by rw [e, c])), h.ne, h.heap⟩

/-- One event more. -/
theorem AG.put {w w1 w2 : World} {F : Nat → Prop} {A p : Nat} {es : List Ev} {x : Ev} {v : Value} {d : Array En} (h1 : HQ w1 A v p d) (h2 : Kp d es p) (h3 : EvsOk es) (h4 : F A) (h5 : ∀ g, v.ownBlock = some g → Or2 F (Nw w w1) g) (h6 : ∀ k, F k → k < w.heap.size)
    (hb : But F w w1) (hx : EvOk x) (hP : HPushed w1 A v p d ⟨x, p⟩ w2) :
    AG (w2.setCell ⟨A, 1, none⟩ (.int .i64 ((p + 1 : Nat) : Int))) (Or2 F (Nw w (w2.setCell ⟨A, 1, none⟩ (.int .i64 ((p + 1 : Nat) : Int))))) A (putK es x) (p + 1) ∧ But F w (w2.setCell ⟨A, 1, none⟩ (.int .i64 ((p + 1 : Nat) : Int))) := by
  obtain ⟨v', d', hQ, hp, hm, hbt⟩ := hP
  have hsz : (w2.setCell ⟨A, 1, none⟩ (.int .i64 ((p + 1 : Nat) : Int))).heap.size = w2.heap.size := by simp [World.setCell]
  have hs1 := hb.size
  have hs2 := hbt.size
  refine ⟨⟨v', d', hQ.set1 _, h2.put hp hQ.heap, ?_, .inl h4, fun g e => ?_, fun k c => ?_⟩, ?_⟩
  · intro s hs
    rcases List.mem_cons.1 ((putK_perm es x).mem_iff.1 hs) with rfl | c
    · exact hx
    · exact h3 s c
  · have hlt := hQ.row.lt e
    rcases hm g e with c | c
    · rcases h5 g c with c | c
      · exact .inl c
      · exact .inr ⟨c.1, by rw [hsz]; omega⟩
    · exact .inr ⟨by omega, by rw [hsz]; exact hlt⟩
  · rw [hsz]
    rcases c with c | c
    · have := h6 k c; omega
    · have := c.2; rw [hsz] at this; exact this
  · refine (hb.trans hbt (fun k hk c => ?_)).trans (But.setCell w2 A 1 _) (fun k _ c => by rw [c]; exact h4)
    rcases c with rfl | c
    · exact h4
    · rcases h5 k c with c | c
      · exact c
      · exact absurd c.1 (by omega)

set_option maxHeartbeats 4000000 in
set_option maxRecDepth 100000 in
theorem Put_ok (A : Nat) (F : Nat → Prop) (es : List Ev) (p : Nat) (x : Option Addr) (n cap : Nat) (ys : List Ev) (w : World) (h : AG w F A es p) (hx : RdF w F x ys) (hn : ys.length = n) (ho : EvsOk ys) (hle : es.length + n ≤ 1024) (hp : p + n ≤ 1000000000) :
    Calls Try.prog 43 #[.pointer (some ⟨A, 0, none⟩), .slice x n cap] w fun e w' => e = .returned (.int .i64 0) ∧ AG w' (Or2 F (Nw w w')) A (putAll es ys) (p + n) ∧ But F w w' := by
  have hmx : Try.prog.follows .mixedOrders = true := by kernel_rfl
  subst hn
  have HF := Lib.hid h.lt
  have HX := Lib.hid hx
  have HO := Lib.hid ho
  have HS : Hid (AG w (Or2 F (Nw w w)) A (putAll es (ys.take 0)) (p + 0) ∧ But F w w) := Lib.hid ⟨h.more (fun k c => .inl c) (fun k c => by rcases c with c | c; exact h.lt k c; exact c.2), But.refl _ _⟩
  obtain ⟨v0, d0, hq0, hk0, -, hFA, -⟩ := h
  obtain ⟨x0, cap0, rfl⟩ := hq0.row.any
  have c0 := hq0.own.c0
  rw [hk0.size] at c0
  have t0 : decide ((1024 : Int) - (es.length : Int) < (ys.length : Int)) = false := by simp; omega
  have HFA := Lib.hid hFA
  clear hq0 hk0 hx ho hFA
  go_enter Try.func43, Try.ntmps43
  go_wp2
  go_loopw [22] (fun i wr => ∃ k : Nat, k ≤ ys.length ∧ i = .int .i64 k ∧ Hid (AG wr (Or2 F (Nw w wr)) A (putAll es (ys.take k)) (p + k) ∧ But F w wr)) (fun i _ => ys.length - (intOf i).toNat)
  case atStart => exact ⟨0, Nat.zero_le _, rfl, HS⟩
  case round =>
    clear HS c0
    obtain ⟨k, hk, rfl, HI⟩ := hrel
    by_cases hlt : k < ys.length
    · obtain ⟨b, off, rfl, hb, -, hc⟩ := (HX.out.but HI.out.2) (by omega)
      have hcu := hc k hlt
      have hok := HO.out.at k
      have hT := putAll_one es ys k hlt
      obtain ⟨u, hu⟩ : ∃ u, u = ys.getD k noEv := ⟨_, rfl⟩
      rw [← hu] at hcu hok hT
      obtain ⟨⟨v, d, hq, hK, hE, -, hg, -⟩, hBut⟩ := HI.out
      have hsz := hK.size
      rw [putAll_len, List.length_take] at hsz
      have hAl := hq.own.lt
      have HP := Lib.hid (fun nq => hpush_any A v ((p + k : Nat) : Int) d ⟨u, ((p + k : Nat) : Int)⟩ ((wr.alloc (evO u)).drewN nq) (hq.below (below_draws (below_al (Below.refl _ _) _) nq)) (by omega))
      have HE := Lib.hid (fun nq w2 (h : HPushed ((wr.alloc (evO u)).drewN nq) A v ((p + k : Nat) : Int) d ⟨u, ((p + k : Nat) : Int)⟩ w2) => AG.put (w := w) (F := F) (hq.below (below_draws (below_al (Below.refl _ _) (evO u)) nq)) hK hE HFA.out (fun g e => (hg g e).imp id fun c => ⟨c.1, by have := (below_draws (below_al (Below.refl _ wr) (evO u)) nq).size; have := c.2; omega⟩) HF.out (hBut.trans (But.of_below (F := F) (below_draws (below_al (Below.refl _ wr) (evO u)) nq)) fun _ _ c => c) hok h)
      rw [← hT] at HE
      have c1 := hq.own.c1
      obtain ⟨q, hq'⟩ : ∃ q, q = p + k := ⟨_, rfl⟩
      rw [← hq'] at HP HE c1
      have hqb : q ≤ 1000000000 := by omega
      have HQ' := Lib.hid hq'
      have HEv := Lib.hid (Six.new wr u)
      have HA1 := Lib.hid (show (wr.alloc (evO u)).cell? ⟨A, 1, none⟩ = some (.int .i64 (q : Int)) from (World.cell?_of_block (Below.heap_alloc wr (evO u) A hAl)).trans c1)
      obtain ⟨u1, u2, u3, u4, u5, u6⟩ := u
      obtain ⟨k0, k1, k2, k3, k4, k5⟩ := hcu
      unfold enV at HP
      unfold evO at HP HA1
      dsimp only at k0 k1 k2 k3 k4 k5 HP
      clear hc hT hu hok hq hK hE hg hBut hsz hq' c1 HI
      go_wp2
      obtain ⟨W0, hW0⟩ : ∃ W0, W0 = wr.alloc (.cells #[.int .i64 u1, .int .i64 u2, .int .i64 u3, .int .i64 u4, .int .i64 u5, .int .u64 u6] 47) := ⟨_, rfl⟩
      rw [← hW0]
      have HW := Lib.hid hW0
      obtain ⟨e0, e1, e2, e3, e4, e5⟩ := HEv.out.at
      unfold evO at e0 e1 e2 e3 e4 e5
      dsimp only at e0 e1 e2 e3 e4 e5
      have ea := HA1.out
      rw [← hW0] at e0 e1 e2 e3 e4 e5 ea HP
      rw [Nat.zero_add] at e1 e2 e3 e4 e5
      clear hW0 HA1 HEv k0 k1 k2 k3 k4 k5
      refine region_quiet_tail 11 hmx (by kernel_rfl) ?_
      simp only [List.take_succ_cons, List.take_zero, List.drop_succ_cons, List.drop_zero]
      repeat (first | go_big_quiet_step (fail) | quiet_step (fail))
      refine wpQuiet_nil ?_
      rintro w' ⟨nq, rfl⟩
      clear e0 e1 e2 e3 e4 e5 ea
      go_wp2_with (go_at_call 46; refine (HP.out nq).mono ?_; rintro e w2 ⟨rfl, hp2⟩; have HX2 := Lib.hid (HE.out nq w2 (by unfold evO; dsimp only; rw [← HW.out]; exact hp2)); obtain ⟨v2, d2, hq2, -⟩ := hp2; have a1 := hq2.own.c1; have af := hq2.own.fz 1; clear hq2)
      go_roundw
      case rel => exact ⟨k + 1, by omega, by go_num, by rw [show p + (k + 1) = q + 1 by rw [HQ'.out]; omega]; exact HX2⟩
      case measure => simp [intOf]; omega
    · obtain rfl : k = ys.length := by omega
      have HR := Lib.hid HI.out
      rw [List.take_length] at HR
      clear HX HO HI
      go_wp2
      go_ret
      exact ⟨rfl, HR.out⟩

theorem Put_full (A : Nat) (F : Nat → Prop) (es : List Ev) (p : Nat) (x : Option Addr) (n cap : Nat) (w : World) (h : AG w F A es p) (hle : 1024 < es.length + n) (he : es.length ≤ 1024) :
    Calls Try.prog 43 #[.pointer (some ⟨A, 0, none⟩), .slice x n cap] w fun e w' => e = .returned (.int .i64 1) ∧ w = w' := by
  obtain ⟨v0, d0, hq0, hk0, -⟩ := h
  obtain ⟨x0, cap0, rfl⟩ := hq0.row.any
  have c0 := hq0.own.c0
  rw [hk0.size] at c0
  have t0 : decide ((1024 : Int) - (es.length : Int) < (n : Int)) = true := by simp; omega
  clear hq0 hk0
  go_enter Try.func43, Try.ntmps43
  go_wp2
  go_ret
  exact ⟨rfl, rfl⟩

theorem Put_nil (x : Option Addr) (n cap : Nat) (w : World) : Calls Try.prog 43 #[.pointer none, .slice x n cap] w fun e w' => e = .returned (.int .i64 1) ∧ w = w' := by
  go_enter Try.func43, Try.ntmps43
  go_wp2
  go_ret
  exact ⟨rfl, rfl⟩

end Go.Proofs.Ytaphhgiocahnhaa
