/-
  What Due, Rest and New of package agenda come to.
-/
import Derived.Test.YtaphhgiocahnhaaAgPut
import Derived.Deep.LoopGhost
namespace Go.Proofs.Ytaphhgiocahnhaa
open Go.RowKit Go.Sort

/-- Those that are due, and those that are not yet. -/
def due (t : Int) (es : List Ev) : List Ev := es.filter fun x => decide (x.tk ≤ t)
def yet (t : Int) (es : List Ev) : List Ev := es.filter fun x => decide (t < x.tk)

theorem due_split {t : Int} {es ts es' : List Ev} (hs : Srd es) (he : es = ts ++ es') (ht : ∀ x ∈ ts, x.tk ≤ t) (hn : ∀ x ∈ es'.head?, t < x.tk) : due t es = ts ∧ yet t es = es' := by
  have h' : ∀ x ∈ es', t < x.tk := by
    subst he
    cases es' with
    | nil => intro x hx; cases hx
    | cons y l =>
      have hy := hn y (by simp)
      intro x hx
      rcases List.mem_cons.1 hx with rfl | hx
      · exact hy
      · have := (List.pairwise_cons.1 (List.pairwise_append.1 hs).2.1).1 x hx
        omega
  subst he
  unfold due yet
  rw [List.filter_append, List.filter_append]
  have a1 : ts.filter (fun x => decide (x.tk ≤ t)) = ts := List.filter_eq_self.2 fun x hx => by simpa using ht x hx
  have a2 : es'.filter (fun x => decide (x.tk ≤ t)) = [] := List.filter_eq_nil_iff.2 fun x hx => by have := h' x hx; simp; omega
  have a3 : ts.filter (fun x => decide (t < x.tk)) = [] := List.filter_eq_nil_iff.2 fun x hx => by have := ht x hx; simp; omega
  have a4 : es'.filter (fun x => decide (t < x.tk)) = es' := List.filter_eq_self.2 fun x hx => by simpa using h' x hx
  rw [a1, a2, a3, a4]
  simp

/-- What Due leaves and tells. -/
def Dued (w : World) (F : Nat → Prop) (A : Nat) (ts es : List Ev) (p : Nat) (e : Ending) (w' : World) : Prop :=
  ∃ v, e = .returned v ∧ OwnsE w' w.heap.size v ts ∧ AG w' F A es p ∧ But F w w'

/-- One told. -/
theorem AG.took {w w' : World} {F : Nat → Prop} {A p : Nat} {x : Ev} {es : List Ev} {v : Value} {d : Array En} (h2 : Kp d (x :: es) p) (h3 : EvsOk (x :: es)) (h4 : F A) (h5 : ∀ g, v.ownBlock = some g → F g) (h6 : ∀ k, F k → k < w.heap.size)
    (hP : HPopped w A v p d w') : AG w' F A es p ∧ But F w w' := by
  obtain ⟨v', d', hQ, hp, hm, hb⟩ := hP
  refine ⟨⟨v', d', hQ, h2.pop hp hQ.heap, fun s hs => h3 s (List.mem_cons_of_mem _ hs), h4, fun g e => h5 g (hm ▸ e), fun k c => Nat.lt_of_lt_of_le (h6 k c) hb.size⟩, hb.mono fun k _ c => ?_⟩
  rcases c with rfl | c
  · exact h4
  · exact h5 k c

set_option maxHeartbeats 4000000 in
set_option maxRecDepth 100000 in
theorem Due_any (A : Nat) (F : Nat → Prop) (es : List Ev) (p : Nat) (t : Int) (w : World) (h : AG w F A es p) (hl : es.length ≤ 10000) :
    Calls Try.prog 42 #[.pointer (some ⟨A, 0, none⟩), .int .i64 t] w (Dued w F A (due t es) (yet t es) p) := by
  have HF := Lib.hid h.lt
  have HD := Lib.hid (fun ts es' he ht hn => due_split (t := t) (es := es) (ts := ts) (es' := es') h.srd he ht hn)
  have HS : Hid (AG w F A es p ∧ OwnsE w w.heap.size (.slice none 0 0) [] ∧ But F w w ∧ es = [] ++ es ∧ ∀ x ∈ ([] : List Ev), x.tk ≤ t) := Lib.hid ⟨h, OwnsE.nil, But.refl _ _, rfl, fun x hx => by cases hx⟩
  have HFA : Hid (F A) := Lib.hid (by obtain ⟨_, _, _, _, _, c, _⟩ := h; exact c)
  clear h
  go_enter Try.func42, Try.ntmps42
  go_wp2
  go_loopg [5] es.length (fun kx s wr => ∃ (ts es' : List Ev), es'.length ≤ kx ∧ Hid (AG wr F A es' p ∧ OwnsE wr w.heap.size s ts ∧ But F w wr ∧ es = ts ++ es' ∧ ∀ x ∈ ts, x.tk ≤ t))
  case atStart => exact ⟨[], es, Nat.le_refl _, HS⟩
  case round =>
    clear HS
    obtain ⟨ts, es', hkx, HI⟩ := hrel
    obtain ⟨⟨v, d, hq, hK, hE, -, hg, -⟩, hO, hB, he, ht⟩ := HI.out
    have hsz := hK.size
    cases es' with
    | nil =>
      obtain ⟨z, cap, rfl⟩ := hq.row.any
      have c0 := hq.own.c0
      rw [hsz, List.length_nil] at c0
      have HR : Hid (Dued w F A (due t es) (yet t es) p (.returned u5) wr) := Lib.hid (by
        obtain ⟨e1, e2⟩ := HD.out ts [] he ht (fun x hx => by cases hx)
        rw [e1, e2]
        exact ⟨_, rfl, hO, HI.out.1, hB⟩)
      clear hq hK hE hg hO hB he ht hsz HI
      go_wp2
      go_ret
      exact HR.out
    | cons x l =>
      obtain ⟨g, cap, rfl, hR⟩ := hq.row.form (by rw [hsz]; simp)
      have c0 := hq.own.c0
      have k3 := hR.cell (i := 0) (c := 3) (by rw [hsz]; simp) (by omega)
      have hhd := hK.head
      have hlen : (x :: l).length = l.length + 1 := rfl
      rw [hsz, hlen] at c0
      obtain ⟨m, hm⟩ : ∃ m, m = l.length + 1 := ⟨_, rfl⟩
      rw [← hm] at c0
      have m0 : 0 < m := by omega
      have hmb : m ≤ 10000 := by
        have : es.length = ts.length + (l.length + 1) := by rw [he]; simp
        omega
      have t1 : decide ((0 : Int) < (m : Int)) = true := by simp; omega
      have hk3 : wr.cell? ⟨g, 3, none⟩ = some (.int .i64 x.tk) := by
        rw [← hhd]
        simpa [enc, evc] using k3
      have HLs : Hid (ts.length + 1 ≤ 10000) := Lib.hid (by
        have : es.length = ts.length + (l.length + 1) := by rw [he]; simp
        omega)
      by_cases hx : x.tk ≤ t
      · have HT := Lib.hid (take_any A l.length _ p d wr hq (by rw [hsz, hlen]) (by omega))
        rw [hhd] at HT
        have HN := Lib.hid (fun w2 (hP : HPopped wr A _ p d w2) => (AG.took hK hE HFA.out hg HI.out.1.lt hP))
        have HOw := Lib.hid (fun w2 (hb : But F wr w2) => hO.keep fun k h1 h2 => hb.block k h2 fun c => by have := HF.out k c; omega)
        have HX : Hid (es = (ts ++ [x]) ++ l ∧ ∀ y ∈ ts ++ [x], y.tk ≤ t) := Lib.hid ⟨by rw [he]; simp, fun y hy => by
          rcases List.mem_append.1 hy with c | c
          · exact ht y c
          · rw [List.mem_singleton.1 c]; exact hx⟩
        have HB := Lib.hid hB
        have HG := Lib.hid (fun k (e : u5.ownBlock = some k) => hO.ownBlock k e)
        have t2 : decide (x.tk ≤ t) = true := by simpa using hx
        have hkx' : l.length + 1 ≤ gk := hkx
        have hxx := SrcE.one (s := x)
        clear hq hR hK hE hg hO hB he ht hsz HI k3 hhd hlen hm HD hkx hx
        obtain ⟨x1, x2, x3, x4, x5, x6⟩ := x
        unfold evV at HT
        unfold evO at hxx
        dsimp only at HT hxx t2 hk3
        have HSx := Lib.hid hxx
        clear hxx
        go_wp2_with (first
          | (go_at_call 45; refine HT.out.mono ?_; rintro e w2 ⟨rfl, hp2⟩; have HA2 := Lib.hid (HN.out w2 hp2); clear hp2; have hO2 := Lib.hid (HOw.out w2 HA2.out.2))
          | (go_at_fn 45; refine HT.out.mono ?_; rintro e w2 ⟨rfl, hp2⟩; have HA2 := Lib.hid (HN.out w2 hp2); clear hp2; have hO2 := Lib.hid (HOw.out w2 HA2.out.2))
          | (at_builtin; refine wpList_append_ev rfl _ _ rfl w.heap.size u5 ts rfl (hO2.out.alloc _) _ 1 1 [⟨x1, x2, x3, x4, x5, x6⟩] rfl (HSx.out w2) (by have := HLs.out; omega) (by have := HB.out.size; have := HA2.out.2.size; simp; omega) ?_; intro v4 w4 hO4 hg4))
        go_roundg l.length
        case measure => omega
        case rel =>
          have hd4 : Dis F (fun k => u5.ownBlock = some k) := fun k c e => by have := HG.out k e; have := HF.out k c; omega
          have hb3 := (HB.out.trans HA2.out.2 (fun _ _ c => c)).trans (But.of_below (F := F) (below_al (Below.refl _ w2) (.cells #[.int .i64 x1, .int .i64 x2, .int .i64 x3, .int .i64 x4, .int .i64 x5, .int .u64 x6] 47))) (fun _ _ c => c)
          exact ⟨_, l, Nat.le_refl _, Lib.hid ⟨(HA2.out.1.below (below_al (Below.refl _ _) _)).but (But.of_grown hg4) hd4, hO4, hb3.trans (But.of_grown hg4) (fun k hk c => absurd (HG.out k c) (by omega)), HX.out.1, HX.out.2⟩⟩
      · have t2 : decide (x.tk ≤ t) = false := by simpa using hx
        have HR : Hid (Dued w F A (due t es) (yet t es) p (.returned u5) wr) := Lib.hid (by
          obtain ⟨e1, e2⟩ := HD.out ts (x :: l) he ht (fun y hy => by simp at hy; rw [← hy]; omega)
          rw [e1, e2]
          exact ⟨_, rfl, hO, HI.out.1, hB⟩)
        clear hq hR hK hE hg hO hB he ht hsz HI k3 hhd hlen hm HD hkx hx
        go_wp2
        go_ret
        exact HR.out

theorem Due_nil (t : Int) (w : World) : Calls Try.prog 42 #[.pointer none, .int .i64 t] w fun e w' => e = .returned (.slice none 0 0) ∧ w = w' := by
  go_enter Try.func42, Try.ntmps42
  go_wp2
  go_ret
  exact ⟨rfl, rfl⟩

theorem due_all {es : List Ev} (h : EvsOk es) : due 9223372036854775807 es = es ∧ yet 9223372036854775807 es = [] := by
  unfold due yet
  exact ⟨List.filter_eq_self.2 fun x hx => by have := (h x hx).2.2.2.1; simp; omega, List.filter_eq_nil_iff.2 fun x hx => by have := (h x hx).2.2.2.1; simp; omega⟩

theorem Rest_any (A : Nat) (F : Nat → Prop) (es : List Ev) (p : Nat) (w : World) (h : AG w F A es p) (hl : es.length ≤ 10000) :
    Calls Try.prog 36 #[.pointer (some ⟨A, 0, none⟩)] w (Dued w F A es [] p) := by
  have HD := Lib.hid (Due_any A F es p 9223372036854775807 w h hl)
  rw [(due_all h.ok).1, (due_all h.ok).2] at HD
  clear h
  go_enter Try.func36, Try.ntmps36
  go_wp2_with (go_at_call 42; refine HD.out.mono ?_; rintro e w2 ⟨v, rfl, hd⟩)
  go_ret
  exact ⟨v, rfl, hd⟩

theorem Rest_nil (w : World) : Calls Try.prog 36 #[.pointer none] w fun e w' => e = .returned (.slice none 0 0) ∧ w = w' := by
  have HD := Lib.hid (Due_nil 9223372036854775807 w)
  go_enter Try.func36, Try.ntmps36
  go_wp2_with (go_at_call 42; refine HD.out.mono ?_; rintro e w2 ⟨rfl, rfl⟩)
  go_ret
  exact ⟨rfl, rfl⟩

/-- An agenda that was laid just now. -/
def agO : Obj := .cells #[.slice none 0 0, .int .i64 0] 73
theorem AG.new (w : World) : AG (w.alloc agO) (Nw w (w.alloc agO)) w.heap.size [] 0 := by
  refine ⟨.slice none 0 0, #[], ⟨heap_alloc_new _ _, RowV.nil _, (fun c => by cases c), fun k _ hk => by simp at hk⟩, Kp.none 0, (fun s hs => by cases hs), ⟨Nat.le_refl _, by simp⟩, (fun g e => by cases e), fun k c => c.2⟩

/-- What New leaves and tells. -/
def Newed (w : World) (es : List Ev) (n : Nat) (e : Ending) (w' : World) : Prop :=
  ∃ A, e = .returned (.tuple #[.pointer (some ⟨A, 0, none⟩), .int .i64 0]) ∧ w.heap.size ≤ A ∧ AG w' (Nw w w') A es n ∧ Below w.heap.size w w'

set_option maxHeartbeats 1000000 in
theorem New_ok (x : Option Addr) (n cap : Nat) (ys : List Ev) (w : World) (hx : ReadsE w w.heap.size x ys) (hn : ys.length = n) (ho : EvsOk ys) (hle : n ≤ 1024) :
    Calls Try.prog 37 #[.slice x n cap] w (Newed w (putAll [] ys) n) := by
  have hb := below_al (Below.refl _ w) agO
  have HP := Lib.hid (Put_ok w.heap.size (Nw w (w.alloc agO)) [] 0 x n cap ys (w.alloc agO) (AG.new w) ((hx.below (hb.mono (Nat.le_refl _))).rdF (fun k c => c.1)) hn ho (by simp; omega) (by omega))
  rw [Nat.zero_add] at HP
  have HE := Lib.hid (fun w2 (h : AG w2 (Or2 (Nw w (w.alloc agO)) (Nw (w.alloc agO) w2)) w.heap.size (putAll [] ys) n) (hB : But (Nw w (w.alloc agO)) (w.alloc agO) w2) => (show Newed w (putAll [] ys) n (.returned (.tuple #[.pointer (some ⟨w.heap.size, 0, none⟩), .int .i64 0])) w2 from by
    have h1 := hb.size
    have h2 := hB.size
    refine ⟨_, rfl, Nat.le_refl _, h.more (fun k c => ?_) (fun k c => c.2), hb.trans (hB.below h1 fun k c => c.1)⟩
    rcases c with c | c
    · exact ⟨c.1, by have := c.2; omega⟩
    · exact ⟨by have := c.1; omega, c.2⟩))
  unfold agO at HP HE
  clear hx ho hb
  go_enter Try.func37, Try.ntmps37
  go_wp2_with (go_at_call 43; refine HP.out.mono ?_; rintro e w2 ⟨rfl, h2, hB2⟩)
  go_ret2
  exact HE.out w2 h2 hB2

theorem New_bad (x : Option Addr) (n cap : Nat) (w : World) (hle : 1024 < n) :
    Calls Try.prog 37 #[.slice x n cap] w fun e w' => e = .returned (.tuple #[.pointer none, .int .i64 1]) ∧ Below w.heap.size w w' := by
  have hb := below_al (Below.refl _ w) agO
  have HP := Lib.hid (Put_full w.heap.size (Nw w (w.alloc agO)) [] 0 x n cap (w.alloc agO) (AG.new w) (by simp; omega) (by simp))
  have HB := Lib.hid hb
  unfold agO at HP HB
  clear hb
  go_enter Try.func37, Try.ntmps37
  go_wp2_with (go_at_call 43; refine HP.out.mono ?_; rintro e w2 ⟨rfl, rfl⟩)
  go_ret2
  exact ⟨rfl, HB.out⟩

end Go.Proofs.Ytaphhgiocahnhaa
