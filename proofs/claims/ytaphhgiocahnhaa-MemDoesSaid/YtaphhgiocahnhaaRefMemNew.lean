/-
  New of the document's memory.
-/
import Derived.Test.YtaphhgiocahnhaaRefMemAll
import Derived.Deep.RegionLaw
import Derived.Deep.CutRange
namespace Go.Proofs.Ytaphhgiocahnhaa
open Go.RowKit Go.Sort Go.Shelf

/-- append(xs, ys...) where it comes up in a region that draws its order: xs a row of the call's own, ys a slice with an address. -/
theorem step_app_ev {w : World} {ops : Array Oper} {o : Oper} {a : Act} {K : Act → World → Prop} {Q : Exit → Act → World → Prop} {E : Prop} (hw : Region.wanted o (yielded ops a.tmps) = true) (s x : Operand)
    (ho : o.op = .call { callee := .builtin .append, args := #[s, x], argTypes := #[22, 22] }) (base : Nat)
    (v : Value) (es : List Ev) (hs : a.eval s = v) (hown : OwnsE w base v es) (ad : Addr) (n cap : Nat) (ys : List Ev) (hx : a.eval x = .slice (some ad) n cap) (hsrc : SrcE w (some ad) n cap ys) (hb : es.length + n ≤ 1000000) (hbase : base ≤ w.heap.size)
    (h : ∀ v' w', OwnsE w' base v' (es ++ ys) → w.grownBy w' v.ownBlock → K (a.put o.dst v') w') : if Region.wanted o (yielded ops a.tmps) = true then Oper.wp Try.prog o a w K Q else E := by
  rw [if_pos hw]
  obtain ⟨i0, hi, hz0, hz1, hz2⟩ := info_parts info_ev
  obtain ⟨rfl, ⟨h0, _⟩ | ⟨ad', e', hc⟩⟩ := hsrc
  · cases h0
  · cases e'
    refine wp_append_own w s x _ ho base 47 i0 (.agg #[.int .i64 0, .int .i64 0, .int .i64 0, .int .i64 0, .int .i64 0, .int .u64 0]) 6 48 Try.underlying22 hi hz0 hz1 hz2 rfl (by decide) v es.length (es.flatMap evc) hs hown ad ys.length cap (ys.flatMap evc) hx (flatE_len ys) hc (one_evc ys) (by unfold maxLen; omega) (by omega) hbase ?_
    intro v' w' hown' hg _
    refine h v' w' ?_ hg
    unfold OwnsE
    rw [List.length_append, List.flatMap_append]
    exact hown'

/-- A row of words that was made just now. -/
def zsO (n : Nat) : Obj := .cells (madeCells (Value.int .u64 0).cells (n * 1)) 33
theorem Owns.zs (W : World) (n base : Nat) (hb : base ≤ W.heap.size) (hn : n ≤ 16384) : Owns .u64 33 (W.alloc (zsO n)) base (.slice (some ⟨W.heap.size, 0, none⟩) n n) (List.replicate n 0) := by
  have := World.ownsRow_lit (base := base) (size := 1) (e := 33) W (madeCells (Value.int .u64 0).cells (n * 1)) n hb (by unfold maxLen; omega) (size_madeCells _ _)
  exact Owns.made this

def rmO (v l : Value) : Obj := .cells #[v, l, .int .i64 0, .int .i64 0] 58
def rnewS (n : Nat) (ys : List Ev) : MS := ⟨List.replicate n 0, ys, 0, 0⟩
/-- A memory of the document's that was laid just now. -/
def RMade (w : World) (s : MS) (v v' : Value) (w' : World) : Prop := ∃ M, v = .pointer (some ⟨M, 0, none⟩) ∧ v' = .int .i64 0 ∧ RM w' (Nw w w') M s ∧ Below w.heap.size w w'
theorem RM.laid {w w1 : World} {v l : Value} {n : Nat} {ys : List Ev} (hb : Below w.heap.size w w1) (hO : Owns .u64 33 w1 w.heap.size v (List.replicate n 0)) (hL : OwnsE w1 w.heap.size l ys) (hne : ∀ g, v.ownBlock = some g → l.ownBlock ≠ some g) (hn : n ≤ 16384) (ho : EvsOk ys) (hl : ys.length ≤ 1024) :
    RMade w (rnewS n ys) (.pointer (some ⟨w1.heap.size, 0, none⟩)) (.int .i64 0) (w1.alloc (rmO v l)) := by
  have hs := hb.size
  refine ⟨_, rfl, rfl, ⟨v, l, ⟨heap_alloc_new _ _, (hO.alloc _).mono (Nat.zero_le _), (hL.alloc _).mono (Nat.zero_le _), words_rep n, by simpa [rnewS] using hn, ho, hl, fun e => ?_, fun e => ?_, hne, ⟨hs, by simp⟩, fun g e => ⟨(hO.blockLt e).1, by have := (hO.blockLt e).2; simp; omega⟩, fun g e => ⟨(hL.blockLt e).1, by have := (hL.blockLt e).2; simp; omega⟩, fun k c => c.2⟩⟩, below_al hb _⟩
  · have := (hO.blockLt e).2; omega
  · have := (hL.blockLt e).2; omega

theorem RMade.quiet {w w1 w' : World} {s : MS} {v v' : Value} (h : RMade w s v v' w1) (hb : Below w1.heap.size w1 w') : RMade w s v v' w' := by
  obtain ⟨M, e1, e2, h1, h2⟩ := h
  exact ⟨M, e1, e2, (h1.below hb).more (fun k c => ⟨c.1, by have := c.2; have := hb.size; omega⟩) (fun k c => c.2), below_on h2 hb⟩

set_option maxRecDepth 100000 in
set_option maxHeartbeats 8000000 in
theorem rNew_ok (n : Nat) (x : Option Addr) (m cap : Nat) (ys : List Ev) (w : World) (h1 : 1 ≤ n) (h2 : n ≤ 16384) (hx : SrcE w x m cap ys) (ho : EvsOk ys) (hl : m ≤ 1024) :
    Calls Try.prog 13 #[.int .i64 (n : Int), .slice x m cap] w fun e w' => ∃ v v', e = .returned (.tuple #[v, v']) ∧ RMade w (rnewS n ys) v v' w' := by
  obtain ⟨i0, hi, hz0, hz1, hz2⟩ := info_parts info_u64
  have hmk : ∀ W : World, (Instr.makeSlice 42 (.int .i64 (n : Int)) (.int .i64 (n : Int))).run Try.prog W = .ok (.slice (some ⟨W.heap.size, 0, none⟩) n n) (W.alloc (zsO n)) := fun W => by
    have := run_make (P := Try.prog) W 42 33 i0 (.int .u64 0) Try.underlying42 hi hz0 .i64 .i64 n n (by omega) (Int.le_refl _) (by rw [hz2]; omega) (by omega)
    simpa [hz1, zsO] using this
  have hm : ys.length = m := hx.1
  have HC := Lib.hid (rcheck_any x m cap w)
  rw [chk_ok hl] at HC
  have d1 : decide ((n : Int) < 1) = false := by simp; omega
  have d2 : decide ((16384 : Int) < (n : Int)) = false := by simp; omega
  have HX := Lib.hid (fun W (hb : Below w.heap.size w W) => hx.keep hb)
  have HM := Lib.hid (And.intro hm (And.intro hl h2))
  have HO := Lib.hid ho
  rcases hx.2 with ⟨rfl, rfl, rfl⟩ | ⟨ad, rfl, -⟩
  · obtain rfl : ys = [] := List.length_eq_zero_iff.1 hm
    clear hx hi hz0 hz1 hz2 hm ho
    go_enter Try.func13, Try.ntmps13
    go_wp2_with (go_at_call 29; refine HC.out.mono ?_; clear HC; rintro e w0 ⟨rfl, rfl⟩)
    have HR := Lib.hid (RM.laid (l := .slice none 0 0) (below_al (Below.refl w.heap.size w) (zsO n)) (Owns.zs w n w.heap.size (Nat.le_refl _) h2) OwnsE.nil (fun g _ e => by cases e) h2 HO.out (by simp))
    rw [World.size_alloc] at HR
    unfold rmO at HR
    go_region
    all_goals
      go_wp2
      go_ret2
      exact ⟨_, _, rfl, HR.out.quiet (draws_below _ _ 1)⟩
  · clear hx hi hz0 hz1 hz2 hm ho
    go_enter Try.func13, Try.ntmps13
    go_wp2_with (go_at_call 29; refine HC.out.mono ?_; clear HC; rintro e w0 ⟨rfl, rfl⟩)
    have HBd := Lib.hid (below_draws (Below.refl w.heap.size w) 1)
    have HBa := Lib.hid (below_al HBd.out (zsO n))
    have hs1 : (w.drewN 1).heap.size = w.heap.size := rfl
    have hs2 : ((w.drewN 1).alloc (zsO n)).heap.size = w.heap.size + 1 := by rw [World.size_alloc, hs1]
    go_region_law (first
      | (refine step_app_ev (by rfl) (.const (.slice none 0 0)) (.tmp 19) (by rfl) w.heap.size (.slice none 0 0) [] (by rfl) OwnsE.nil ad m cap ys (by rfl) (HX.out _ HBd.out) (by have := HM.out; simp; omega) (by exact HBd.out.size) ?_; intro v3 w3 hO3 hg3; rw [List.nil_append] at hO3; have HB3 := Lib.hid (HBd.out.grown hg3 HBd.out.size (fun g e => by cases e)); have HL3 := Lib.hid (RM.laid (below_al HB3.out (zsO n)) (Owns.zs w3 n w.heap.size HB3.out.size h2) (hO3.alloc (zsO n)) (fun g e1 e2 => by have := (hO3.blockLt e2).2; simp only [Value.ownBlock, Option.some.injEq] at e1; omega) h2 HO.out (by have := HM.out; omega)); rw [World.size_alloc] at HL3; obtain ⟨x3, k3, rfl, -⟩ := hO3.form; clear hO3 hg3)
      | (refine step_app_ev (by rfl) (.const (.slice none 0 0)) (.tmp 19) (by rfl) (w.heap.size + 1) (.slice none 0 0) [] (by rfl) OwnsE.nil ad m cap ys (by rfl) (HX.out _ HBa.out) (by have := HM.out; simp; omega) (by show _ ≤ (w.alloc (zsO n)).heap.size; rw [World.size_alloc]; exact Nat.le_refl _) ?_; intro v3 w3 hO3 hg3; rw [List.nil_append] at hO3; have HB3 := Lib.hid (HBa.out.grown hg3 HBa.out.size (fun g e => by cases e)); have HL3 := Lib.hid (RM.laid HB3.out ((Owns.zs (w.drewN 1) n w.heap.size (Nat.le_refl _) h2).below ((Below.refl _ _).grown hg3 (Nat.le_refl _) (fun g e => by cases e))) (hO3.mono (by omega)) (fun g e1 e2 => by have := (hO3.blockLt e2).1; simp only [Value.ownBlock, Option.some.injEq] at e1; have : (w.drewN 1).heap.size = w.heap.size := rfl; omega) h2 HO.out (by have := HM.out; omega)); obtain ⟨x3, k3, rfl, -⟩ := hO3.form; clear hO3 hg3))
    all_goals
      unfold rmO at HL3
      go_wp2
      go_ret2
      exact ⟨_, _, rfl, HL3.out⟩

theorem rNew_off (a : Int) (x : Option Addr) (m cap : Nat) (w : World) (h : a < 1 ∨ 16384 < a) :
    Calls Try.prog 13 #[.int .i64 a, .slice x m cap] w (RetB (.tuple #[.pointer none, .int .i64 1]) w) := by
  by_cases h1 : a < 1
  · have d1 : decide (a < 1) = true := by simpa using h1
    go_enter Try.func13, Try.ntmps13
    go_wp2
    go_ret2
    exact ⟨rfl, Below.refl _ _⟩
  · have d1 : decide (a < 1) = false := by simpa using h1
    have d2 : decide ((16384 : Int) < a) = true := by simp; omega
    go_enter Try.func13, Try.ntmps13
    go_wp2
    go_ret2
    exact ⟨rfl, Below.refl _ _⟩

end Go.Proofs.Ytaphhgiocahnhaa
