/-
  Several texts in one: Own, OwnTwo, Pair, MathSums, CodeSums, ArApart, RefSums.
-/
import Derived.Test.YtphghklhknadoaaDoorRows2
import Derived.Deep.AppendLies
import Derived.Laws.OwnMore
import Derived.Laws.AppendOwn
import Derived.Laws.Rows
import Derived.Laws.ResultCell
import Derived.ChangeKeysEq
import Derived.BigRegion
import Derived.Shelf.Abstract
import Derived.Below

/-!   Rows of numbers of the call's own, once more: a number stored at a place; numbers put behind such a row, and where it lies then. No function of the program is named here.
-/

namespace Go.Proofs.YtphghklhknadoaaDoor
open Go.RowKit

section
variable {k : IntKind} {e : TypeId} {w w' : World} {base g n cap : Nat} {v : Value} {xs : List Int}
theorem Owns.put (h : Owns k e w base (.slice (some ⟨g, 0, none⟩) n cap) xs) (hn : xs.length = n) (j : Nat) (u : Int) : Owns k e (w.setCell ⟨g, j, none⟩ (.int k u)) base (.slice (some ⟨g, 0, none⟩) n cap) (xs.set j u) := by
  subst hn
  have := (World.ownsRow.stored h j (.int k u)).1
  rw [map_set] at this
  unfold Owns
  rw [List.length_set]
  exact this
theorem Owns.num (h : Owns k e w base (.slice (some ⟨g, 0, none⟩) n cap) xs) (hn : xs.length = n) {j : Nat} (hj : j < n) : w.cell? ⟨g, j, none⟩ = some (.int k (xs.getD j 0)) := by
  subst hn
  rw [World.ownsRow.cellAt h j (by omega)]
  simp [hj]
theorem Owns.melt (h : Owns k e w base (.slice (some ⟨g, 0, none⟩) n cap) xs) (hn : xs.length = n) (j : Nat) : w.frozen? ⟨g, j, none⟩ = false := by
  subst hn
  exact World.ownsRow.frozenAt h j
/-- A row stays, if its block does. -/
theorem Owns.still (h : Owns k e w base v xs) (hk : ∀ g, v.ownBlock = some g → w'.heap[g]? = w.heap[g]?) : Owns k e w' base v xs := by
  refine ⟨h.1, ?_⟩
  rcases h.2 with h2 | ⟨g, cap, cur, e1, e2, e3, e4⟩
  · exact .inl h2
  · exact .inr ⟨g, cap, cur, e1, e2, (hk g (by rw [e1]; rfl)).trans e3, e4⟩
theorem Owns.inside (h : Owns k e w base v xs) {g : Nat} (hg : v.ownBlock = some g) : base ≤ g ∧ g < w.heap.size := World.ownsRow.lt h g hg
theorem Owns.rd {x : Option Addr} (h : Owns k e w base (.slice x n cap) xs) : Reads k w w.heap.size x xs := by
  obtain ⟨x', c', e', _, _, hrd, _⟩ := h.form
  injection e' with e1
  rw [e1]
  exact hrd
theorem Owns.len {x : Option Addr} (h : Owns k e w base (.slice x n cap) xs) : xs.length = n := by
  obtain ⟨x', c', e', _⟩ := h.form
  injection e' with _ e1
  exact e1.symm
/-- A row without numbers, made with room. -/
theorem Owns.room (w : World) (k : IntKind) (e : TypeId) (base : Nat) (hb : base ≤ w.heap.size) : Owns k e (w.alloc (.cells #[] e)) base (.slice (some ⟨w.heap.size, 0, none⟩) 0 0) [] :=
  ⟨rfl, .inr ⟨w.heap.size, 0, #[], rfl, hb, World.alloc_heap_new w _, Nat.le_refl _, by unfold maxLen; omega, rfl, rfl⟩⟩
end

theorem getD_put (xs : List Int) (i j : Nat) (u : Int) (hi : i < xs.length) : (xs.set i u).getD j 0 = if j = i then u else xs.getD j 0 := by
  rw [List.getD_eq_getElem?_getD, List.getElem?_set, List.getD_eq_getElem?_getD]
  by_cases c : i = j
  · subst c; rw [if_pos rfl, if_pos rfl, if_pos hi]; rfl
  · rw [if_neg c, if_neg (fun e => c e.symm)]
theorem Words.put {xs : List Int} (h : Words xs) (i : Nat) {u : Int} (h0 : 0 ≤ u) (h1 : u < 18446744073709551616) : Words (xs.set i u) := fun j => by
  by_cases hi : i < xs.length
  · rw [getD_put xs i j u hi]
    split
    · exact ⟨h0, h1⟩
    · exact h j
  · rw [List.set_eq_of_length_le (by omega)]; exact h j

/-- append(xs, ys...), xs a row of the call's own, ys a slice with an address: and where the row lies then. -/
theorem wpList_append_num {P : Program} {w : World} {ops : Array Oper} {rest : List Oper} {o : Oper} {a : Act} {Q : Exit → Act → World → Prop} (hgd : o.guard = none) (s x : Operand) (t : TypeId)
    (ho : o.op = .call { callee := .builtin .append, args := #[s, x], argTypes := #[t, t] }) (base : Nat) (e : TypeId) (i : TypeInfo) (k : IntKind) (bytes : Nat) (ht : P.underlying t = some (.slice e)) (hi : P.info? e = some i) (hz : i.zero = some (.int k 0)) (hsize : i.size = 1) (hby : i.bytes = bytes)
    (v : Value) (xs : List Int) (hs : a.eval s = v) (hown : Owns k e w base v xs) (ad : Addr) (n cap : Nat) (ys : List Int) (hx : a.eval x = .slice (some ad) n cap) (hsrc : Src k w (some ad) n cap ys) (hn : 0 < n) (h63 : xs.length + n ≤ maxLen) (hb : (xs.length + n) * bytes ≤ 140737488355328) (hbase : base ≤ w.heap.size)
    (h : ∀ v' w', Owns k e w' base v' (xs ++ ys) → w.grownBy w' v.ownBlock → (∀ g, v'.ownBlock = some g → v.ownBlock = some g ∨ w.heap.size ≤ g) → wpList P ops Q rest (a.put o.dst v') w') : wpList P ops Q (o :: rest) a w := by
  obtain ⟨rfl, ⟨c, _⟩ | ⟨ad', e', hc⟩⟩ := hsrc
  · cases c
  · cases e'
    refine wpList_append_lies w hgd s x t ho base e i (.int k 0) 1 bytes ht hi hz hsize hby rfl (by decide) v _ _ hs hown ad ys.length cap (ys.map (Value.int k)) hx (by simp) ?_ ?_ hn h63 hb hbase _ rfl ?_
    · intro j u hu
      have hj : j < ys.length := by
        rcases Nat.lt_or_ge j ys.length with h | h
        · exact h
        · rw [List.getElem?_eq_none (by simpa using h)] at hu; cases hu
      rw [hc j hj]
      simpa [hj] using hu
    · intro u hu
      obtain ⟨z, _, rfl⟩ := List.mem_map.1 hu
      rfl
    · intro g cp w' hown' hg hat _
      refine h _ w' ?_ hg (fun g' e => ?_)
      · unfold Owns
        rw [List.length_append, List.map_append]
        exact hown'
      · have : g = g' := by simpa [Value.ownBlock] using e
        subst this
        exact hat.imp id fun c => by omega

end Go.Proofs.YtphghklhknadoaaDoor

/-!   Numbers put behind a row of the call's own by an operation that may be guarded. No function of the program is named here.
-/

namespace Go.Proofs.YtphghklhknadoaaDoor
open Go.RowKit

/-- append(xs, ys...), xs a row of the call's own, ys nil or a row; its guard, if it has one, lets it. -/
theorem wpList_append_nums {P : Program} {w : World} {ops : Array Oper} {rest : List Oper} {o : Oper} {a : Act} {Q : Exit → Act → World → Prop} (hw : Region.wanted o (yielded ops a.tmps) = true) (s x : Operand) (t : TypeId)
    (ho : o.op = .call { callee := .builtin .append, args := #[s, x], argTypes := #[t, t] }) (base : Nat) (e : TypeId) (i : TypeInfo) (k : IntKind) (bytes : Nat) (ht : P.underlying t = some (.slice e)) (hi : P.info? e = some i) (hz : i.zero = some (.int k 0)) (hsize : i.size = 1) (hby : i.bytes = bytes)
    (v : Value) (xs : List Int) (hs : a.eval s = v) (hown : Owns k e w base v xs) (xo : Option Addr) (n cap : Nat) (ys : List Int) (hx : a.eval x = .slice xo n cap) (hsrc : Src k w xo n cap ys) (h63 : xs.length + n ≤ maxLen) (hb : (xs.length + n) * bytes ≤ 140737488355328) (hbase : base ≤ w.heap.size)
    (h : ∀ v' w', Owns k e w' base v' (xs ++ ys) → w.grownBy w' v.ownBlock → wpList P ops Q rest (a.put o.dst v') w') : wpList P ops Q (o :: rest) a w := by
  unfold wpList
  rw [if_pos hw]
  refine .inl ?_
  obtain ⟨rfl, ⟨rfl, h0, rfl⟩ | ⟨ad, rfl, hc⟩⟩ := hsrc
  · obtain rfl : ys = [] := List.length_eq_zero_iff.1 h0
    have hrun := run_append_owned_none (P := P) (w := w) base t o.type e i 1 ht hi v _ _ hown
    unfold Oper.wp
    simp [execOp, ho, resolve, invoke, builtin, hs, hx, hrun, Result.andThen]
    exact h _ _ (by rw [List.append_nil]; exact hown) ⟨rfl, rfl, rfl, Nat.le_refl _, fun _ _ _ => rfl⟩
  · refine wp_append_own w s x t ho base e i (.int k 0) 1 bytes ht hi hz hsize hby rfl (by decide) v _ _ hs hown ad ys.length cap (ys.map (Value.int k)) hx (by simp) ?_ ?_ h63 hb hbase ?_
    · intro j u hu
      have hj : j < ys.length := by
        rcases Nat.lt_or_ge j ys.length with h | h
        · exact h
        · rw [List.getElem?_eq_none (by simpa using h)] at hu; cases hu
      rw [hc j hj]
      simpa [hj] using hu
    · intro u hu
      obtain ⟨z, _, rfl⟩ := List.mem_map.1 hu
      rfl
    · intro v' w' hown' hg _
      refine h v' w' ?_ hg
      unfold Owns
      rw [List.length_append, List.map_append]
      exact hown'

end Go.Proofs.YtphghklhknadoaaDoor

/-!   Arrays of two words: as values, as blocks, compared, as results. No function of the program is named here.
-/

namespace Go.Proofs.YtphghklhknadoaaDoor
open Go.RowKit

/-- Two words. -/
def arV (a b : Int) : Value := .agg #[.int .u64 a, .int .u64 b]
def arO (a b : Int) : Obj := .cells #[.int .u64 a, .int .u64 b] 34

/-- A block of two words. -/
structure Ar (w : World) (g : Nat) (a b : Int) : Prop where
  is : w.heap[g]? = some (.cells #[.int .u64 a, .int .u64 b] 34)
section
variable {w w' : World} {g : Nat} {a b : Int}
theorem Ar.c0 (h : Ar w g a b) : w.cell? ⟨g, 0, none⟩ = some (.int .u64 a) := by rw [cell_of_row w g 0 _ _ _ h.is]; rfl
theorem Ar.c1 (h : Ar w g a b) : w.cell? ⟨g, 1, none⟩ = some (.int .u64 b) := by rw [cell_of_row w g 1 _ _ _ h.is]; rfl
theorem Ar.fr (h : Ar w g a b) (j : Nat) : w.frozen? ⟨g, j, none⟩ = false := frozen_of_row w g j _ _ h.is
theorem Ar.lt (h : Ar w g a b) : g < w.heap.size := by
  rcases Nat.lt_or_ge g w.heap.size with hlt | hge
  · exact hlt
  · have := h.is; rw [Array.getElem?_eq_none hge] at this; cases this
theorem Ar.below {B : Nat} (h : Ar w g a b) (hb : Below B w w') (hg : g < B) : Ar w' g a b := ⟨(hb.block g hg).trans h.is⟩
theorem Ar.then (h : Ar w g a b) (hb : Below w.heap.size w w') : Ar w' g a b := h.below hb h.lt
theorem Ar.draws (h : Ar w g a b) (n : Nat) : Ar (w.drewN n) g a b := ⟨h.is⟩
theorem Ar.new (w : World) (a b : Int) : Ar (w.alloc (.cells #[.int .u64 a, .int .u64 b] 34)) w.heap.size a b := ⟨heap_alloc_new _ _⟩
theorem Ar.set (h : Ar w g a b) (a' b' : Int) : Ar ((w.setCell ⟨g, 0, none⟩ (.int .u64 a')).setCell ⟨g, 1, none⟩ (.int .u64 b')) g a' b' :=
  ⟨heap_setCell_same _ g 1 _ _ _ (heap_setCell_same _ g 0 _ _ _ h.is)⟩
theorem Ar.set0 (h : Ar w g a b) (a' : Int) : Ar (w.setCell ⟨g, 0, none⟩ (.int .u64 a')) g a' b := ⟨heap_setCell_same _ g 0 _ _ _ h.is⟩
theorem Ar.set1 (h : Ar w g a b) (b' : Int) : Ar (w.setCell ⟨g, 1, none⟩ (.int .u64 b')) g a b' := ⟨heap_setCell_same _ g 1 _ _ _ h.is⟩
theorem below_set2 {B : Nat} {w w' : World} {g : Nat} (h : Below B w w') (hg : B ≤ g) (a b : Value) : Below B w ((w'.setCell ⟨g, 0, none⟩ a).setCell ⟨g, 1, none⟩ b) :=
  (h.setCell (p := ⟨g, 0, none⟩) hg a).setCell (p := ⟨g, 1, none⟩) hg b
/-- As a slice of two. -/
theorem Ar.reads (h : Ar w g a b) {B : Nat} (hB : g < B) : Reads .u64 w B (some ⟨g, 0, none⟩) [a, b] := fun _ => by
  refine ⟨g, 0, rfl, hB, fun j hj => ?_⟩
  obtain rfl | rfl : j = 0 ∨ j = 1 := by simp at hj; omega
  · exact h.c0
  · exact h.c1
end

theorem cells_ar : (Tryd.prog.info? 34).map (·.size) = some 2 := by kernel_rfl

theorem under_ar : Tryd.prog.underlying 34 = some (.array 2 22) := by kernel_rfl

/-- Two arrays compared. -/
theorem eql_ar (a b c d : Int) (w : World) : (binOp .eql 34 (arV a b) (arV c d)).run Tryd.prog w = .ok (.bool (decide (a = c) && decide (b = d))) w := by
  obtain ⟨i0, hi, hz0, hz1, hz2⟩ := info_parts info_u64
  have h1 : Tryd.prog.cellsOf 22 = 1 := by kernel_rfl
  unfold arV
  rw [run_eql_struct, run_equalIn_array w 9999 _ _ under_ar hi, h1]
  have h2 : List.range 2 = [0, 1] := rfl
  rw [h2]
  by_cases e1 : a = c <;> by_cases e2 : b = d <;> simp [Op.eqItems, e1, e2, part, go_sem]

/-- The result of a function that tells two words and an error. -/
theorem results_ar {fn : Func} {p u : Tmp} (h : fn.results = #[.cell p 34, .tmp u]) (tmps : Array Value) (w : World) (g : Nat) (a b : Int)
    (hp : tmps.getD p undef = .pointer (some ⟨g, 0, none⟩)) (hg : Ar w g a b) : (results fn tmps).run Tryd.prog w = .ok (.tuple #[arV a b, tmps.getD u undef]) w := by
  rw [results_cell_tmp h, hp]
  simp [asAddr, run_loadVar_row w g _ _ _ _ _ hg.is under_ar rfl cells_ar, arV]

/-- What a call returns that tells two words, or why not. -/
def RetAr (w : World) (a b er : Int) (e : Ending) (w' : World) : Prop := e = .returned (.tuple #[arV a b, .int .i64 er]) ∧ Below w.heap.size w w'

end Go.Proofs.YtphghklhknadoaaDoor

/-!   Both sums of words, and what Sums tells, as plain mathematics.
-/

namespace Go.Proofs.YtphghklhknadoaaDoor
open Go.RowKit

namespace Cd

/-- The sum of the first k numbers, and that of these times their places, counted from 1. -/
def S0 (xs : List Int) : Nat → Int
  | 0 => 0
  | k + 1 => S0 xs k + xs.getD k 0
def S1 (xs : List Int) : Nat → Int
  | 0 => 0
  | k + 1 => S1 xs k + ((k : Int) + 1) * xs.getD k 0
def s0 (p : Int) (xs : List Int) : Int := S0 xs xs.length % p
def s1 (p : Int) (xs : List Int) : Int := S1 xs xs.length % p

/-- What Sums tells: why not, the sums. -/
def smE (p : Int) (n : Nat) : Int := if Fp.kn p = false then 2 else if 4096 < n then 1 else 0
def sm0 (p : Int) (xs : List Int) : Int := if smE p xs.length = 0 then s0 p xs else 0
def sm1 (p : Int) (xs : List Int) : Int := if smE p xs.length = 0 then s1 p xs else 0

end Cd

end Go.Proofs.YtphghklhknadoaaDoor

/-!   What code.Sums comes to: each of both sums by a closure.
-/

namespace Go.Proofs.YtphghklhknadoaaDoor
open Go.RowKit Go.Shelf

/-- A callee's contract, met behind draws that are counted together. -/
theorem quiet_more {P : Program} {f : FuncId} {args : Array Value} {w : World} {q a : Nat} {v : Value} (h : Calls P f args (w.drewN (q + a)) (RetQ v (w.drewN (q + a)))) :
    Calls P f args (w.drewN (q + a)) fun e w'' => e = .returned v ∧ ∃ n, w'' = w.drewN (q + n) :=
  h.mono fun _ _ ⟨he, m, hm⟩ => ⟨he, a + m, by rw [hm, World.drewN_drewN, Nat.add_assoc]⟩

set_option maxHeartbeats 1000000 in
theorem share0_any (i x : Int) (w : World) : Calls Tryd.prog 64 #[.int .i64 i, .int .u64 x] w (RetQ (.int .u64 x) w) := by
  go_enter Tryd.func64, Tryd.ntmps64
  go_wp2
  go_ret
  exact ⟨rfl, 0, rfl⟩

set_option maxHeartbeats 1000000 in
theorem share1_any (p x : Int) (k : Nat) (Bp : Nat) (w : World) (hp : w.cell? ⟨Bp, 0, none⟩ = some (.int .u64 p)) (hk : k ≤ 4096) (x0 : 0 ≤ x) (x1 : x < 18446744073709551616) :
    Calls Tryd.prog 65 #[.int .i64 (k : Int), .int .u64 x, .pointer (some ⟨Bp, 0, none⟩)] w (RetQ (.int .u64 (Fp.mul p ((k : Int) + 1) x)) w) := by
  go_enter Tryd.func65, Tryd.ntmps65
  go_wp2_with (go_at_call 31; refine (mul_any _ _ _ _ (by omega) (by omega) (by omega) (by omega)).mono ?_; rintro e w' ⟨rfl, n2, rfl⟩)
  go_ret
  exact ⟨rfl, _, rfl⟩

set_option maxRecDepth 100000 in
set_option maxHeartbeats 2000000 in
/-- One sum: whatever each word's share is. -/
theorem csum1_any (fid : FuncId) (lb : Array Value) (hE : ∀ args W, (callFunc fid args).run Tryd.prog W = .ok (.enter fid args) W) (p : Int) (x : Option Addr) (n cap : Nat) (xs : List Int) (Bl Bp : Nat) (f acc : Nat → Int) (w : World)
    (hl : w.cell? ⟨Bl, 0, none⟩ = some (.slice x n cap)) (hp : w.cell? ⟨Bp, 0, none⟩ = some (.int .u64 p)) (hx : Reads .u64 w w.heap.size x xs) (hn : xs.length = n) (hm : n ≤ 4096) (hw : Words xs)
    (hC : ∀ k q : Nat, k < n → Calls Tryd.prog fid (#[.int .i64 (k : Int), .int .u64 (xs.getD k 0)] ++ lb) (w.drewN q) (RetQ (.int .u64 (f k)) (w.drewN q)))
    (hf : ∀ k, k < n → 0 ≤ f k ∧ f k < 18446744073709551616) (ha : ∀ k, 0 ≤ acc k ∧ acc k < 18446744073709551616) (h0 : acc 0 = 0) (hs : ∀ k, k < n → Fp.add p (acc k) (f k) = acc (k + 1)) :
    Calls Tryd.prog 63 #[.func (.func fid) #[] lb, .pointer (some ⟨Bl, 0, none⟩), .pointer (some ⟨Bp, 0, none⟩)] w (RetQ (.int .u64 (acc n)) w) := by
  subst hn
  have HX := Lib.hid hx; clear hx
  have HW := Lib.hid hw; clear hw
  have HC := Lib.hid hC; clear hC
  have HF := Lib.hid hf; clear hf
  have HA := Lib.hid ha; clear ha
  have HS := Lib.hid hs; clear hs
  have H0 := Lib.hid h0; clear h0
  go_enter Tryd.func63, Tryd.ntmps63
  go_wp2
  go_loopw [5, 10] (fun s i wr => ∃ (k q : Nat) (o : Int), k ≤ xs.length ∧ i = .int .i64 (k : Int) ∧ s = .int .u64 o ∧ Hid (o = acc k) ∧ wr = w.drewN q) (fun _ i _ => xs.length - (intOf i).toNat)
  case atStart => exact ⟨0, 0, 0, Nat.zero_le _, rfl, rfl, Lib.hid H0.out.symm, rfl⟩
  case round =>
    obtain ⟨k, q, o, hk, rfl, rfl, HO, rfl⟩ := hrel
    by_cases hlt : k < xs.length
    · have hdk : decide (k < xs.length) = true := by simpa using hlt
      obtain ⟨b, off, rfl, hb, hcx⟩ := HX.out (by omega)
      have hx1 := hcx k hlt
      obtain ⟨y0, y1⟩ := HW.out k
      obtain ⟨z0, z1⟩ := HF.out k hlt
      have o01 := HA.out k
      rw [← HO.out] at o01
      obtain ⟨o0, o1⟩ := o01
      have HN : Hid (Fp.add p o (f k) = acc (k + 1)) := Lib.hid (by rw [HO.out]; exact HS.out k hlt)
      have HC1 := Lib.hid (fun q => HC.out k q hlt)
      obtain ⟨u, hu⟩ : ∃ u, u = xs.getD k 0 := ⟨_, rfl⟩
      obtain ⟨gv, hgv⟩ : ∃ gv, gv = f k := ⟨_, rfl⟩
      rw [← hu] at hx1 y0 y1 HC1
      rw [← hgv] at HN HC1 z0 z1
      clear hu hgv hcx
      go_wp2
      go_quiet (first
        | (go_at_fn fid; exact quiet_more (HC1.out _))
        | (go_at_call 30; exact quiet_more (add_any _ _ _ _ (by omega) (by omega) (by omega) (by omega))))
      go_wp2
      go_roundw
      case rel => exact ⟨k + 1, _, _, by omega, by go_num, rfl, Lib.hid HN.out, rfl⟩
      case measure => simp [intOf]; omega
    · obtain rfl : k = xs.length := by omega
      have hdk : decide (xs.length < xs.length) = false := by simp
      go_wp2
      go_ret
      exact ⟨ret_u64 HO.out, _, rfl⟩

/-- The world behind the two boxes and the array. -/
def sumW (w : World) (p : Int) (x : Option Addr) (n cap : Nat) : World := ((w.alloc (.cells #[.int .u64 p] 22)).alloc (.cells #[.slice x n cap] 28)).alloc (.cells #[.int .u64 0, .int .u64 0] 34)

theorem sumW_below (w : World) (p : Int) (x : Option Addr) (n cap : Nat) : Below w.heap.size w (sumW w p x n cap) := below_al (below_al (below_al (Below.refl _ _) _) _) _
theorem sumW_p (w : World) (p : Int) (x : Option Addr) (n cap : Nat) : (sumW w p x n cap).cell? ⟨w.heap.size, 0, none⟩ = some (.int .u64 p) :=
  ((below_al (below_al (Below.refl _ (w.alloc (.cells #[.int .u64 p] 22))) _) _).cell (p := ⟨w.heap.size, 0, none⟩) (by simp)).trans (Boxed.new w 22 (.int .u64 p)).cell
theorem sumW_l (w : World) (p : Int) (x : Option Addr) (n cap : Nat) : (sumW w p x n cap).cell? ⟨w.heap.size + 1, 0, none⟩ = some (.slice x n cap) := by
  have h := (Boxed.new (w.alloc (.cells #[.int .u64 p] 22)) 28 (.slice x n cap)).cell
  rw [World.size_alloc] at h
  exact ((below_al (Below.refl _ ((w.alloc (.cells #[.int .u64 p] 22)).alloc (.cells #[.slice x n cap] 28))) _).cell (p := ⟨w.heap.size + 1, 0, none⟩) (by simp)).trans h
theorem sumW_ar (w : World) (p : Int) (x : Option Addr) (n cap : Nat) : Ar (sumW w p x n cap) (w.heap.size + 1 + 1) 0 0 := by
  have := Ar.new ((w.alloc (.cells #[.int .u64 p] 22)).alloc (.cells #[.slice x n cap] 28)) 0 0
  rw [World.size_alloc, World.size_alloc] at this
  exact this
theorem sumW_size (w : World) (p : Int) (x : Option Addr) (n cap : Nat) : (sumW w p x n cap).heap.size = w.heap.size + 3 := by unfold sumW; simp

theorem S0_step {p : Int} (h : Fp.kn p = true) (xs : List Int) (k : Nat) : Fp.add p (Cd.S0 xs k % p) (xs.getD k 0) = Cd.S0 xs (k + 1) % p := by
  unfold Fp.add; rw [if_pos h, Int.emod_add_emod]; rfl
theorem S1_step {p : Int} (h : Fp.kn p = true) (xs : List Int) (k : Nat) : Fp.add p (Cd.S1 xs k % p) (Fp.mul p ((k : Int) + 1) (xs.getD k 0)) = Cd.S1 xs (k + 1) % p := by
  unfold Fp.add Fp.mul; rw [if_pos h, if_pos h, ← Int.add_emod]; rfl
theorem md_word {p : Int} (h : Fp.kn p = true) (a : Int) : 0 ≤ a % p ∧ a % p < 18446744073709551616 := by
  have := Fp.kn_bd h
  have h1 := Fp.md_lo a (Fp.kn_pos h)
  have h2 := Fp.md_hi a (Fp.kn_pos h)
  omega

set_option maxHeartbeats 1000000 in
theorem csums_no (p : Int) (x : Option Addr) (n cap : Nat) (w : World) (h : Fp.kn p = false) :
    Calls Tryd.prog 28 #[.int .u64 p, .slice x n cap] w (RetAr w 0 0 2) := by
  have H := Lib.hid h; clear h
  have HA := Lib.hid (sumW_ar w p x n cap)
  have HB := Lib.hid (sumW_below w p x n cap)
  unfold sumW at HA HB
  have k0 := HA.out.c0
  have k1 := HA.out.c1
  have f0 := HA.out.fr 0
  have f1 := HA.out.fr 1
  go_enter Tryd.func28, Tryd.ntmps28
  go_wp2_with (go_at_call 62; refine (known_no p _ H.out).mono ?_; rintro e w' ⟨rfl, rfl⟩)
  refine bodyPost_ret (results_ar rfl _ _ (w.heap.size + 1 + 1) _ _ rfl HA.out) rfl ?_
  exact ⟨rfl, HB.out⟩

set_option maxHeartbeats 1000000 in
theorem csums_many (p : Int) (x : Option Addr) (n cap : Nat) (w : World) (h : Fp.kn p = true) (hn : 4096 < n) :
    Calls Tryd.prog 28 #[.int .u64 p, .slice x n cap] w (RetAr w 0 0 1) := by
  have H := Lib.hid h; clear h
  have hd : decide ((4096 : Int) < (n : Int)) = true := by simp; omega
  have HA := Lib.hid (sumW_ar w p x n cap)
  have HB := Lib.hid (sumW_below w p x n cap)
  unfold sumW at HA HB
  have k0 := HA.out.c0
  have k1 := HA.out.c1
  have f0 := HA.out.fr 0
  have f1 := HA.out.fr 1
  go_enter Tryd.func28, Tryd.ntmps28
  go_wp2_with (go_at_call 62; refine (known_yes p _ H.out).mono ?_; rintro e w' ⟨rfl, rfl⟩)
  refine bodyPost_ret (results_ar rfl _ _ (w.heap.size + 1 + 1) _ _ rfl HA.out) rfl ?_
  exact ⟨rfl, HB.out⟩

set_option maxRecDepth 100000 in
set_option maxHeartbeats 2000000 in
theorem csums_ok (p : Int) (x : Option Addr) (n cap : Nat) (xs : List Int) (w : World) (h : Fp.kn p = true) (hx : Reads .u64 w w.heap.size x xs) (hn : xs.length = n) (hm : n ≤ 4096) (hw : Words xs) :
    Calls Tryd.prog 28 #[.int .u64 p, .slice x n cap] w (RetAr w (Cd.S0 xs n % p) (Cd.S1 xs n % p) 0) := by
  have hE1 : ∀ args W, (callFunc 63 args).run Tryd.prog W = .ok (.enter 63 args) W := enters_of Tryd.func63 (by kernel_rfl) rfl
  have hE2 := enters_of Tryd.func64 (by kernel_rfl) rfl
  have hE3 := enters_of Tryd.func65 (by kernel_rfl) rfl
  have hd : decide ((4096 : Int) < (n : Int)) = false := by simp; omega
  have hB0 := sumW_below w p x n cap
  have hR : ∀ q, Reads .u64 ((sumW w p x n cap).drewN q) ((sumW w p x n cap).drewN q).heap.size x xs := fun q => ((hx.below hB0).more hB0.size).draws q
  have K1 := Lib.hid (fun q => csum1_any 64 #[] hE2 p x n cap xs (w.heap.size + 1) w.heap.size (fun k => xs.getD k 0) (fun k => Cd.S0 xs k % p) ((sumW w p x n cap).drewN q) (sumW_l w p x n cap) (sumW_p w p x n cap) (hR q) hn hm hw
    (fun k q' _ => share0_any _ _ _) (fun k _ => hw k) (fun k => md_word h _) (by simp [Cd.S0]) (fun k _ => S0_step h xs k))
  have K2 := Lib.hid (fun q => csum1_any 65 #[.pointer (some ⟨w.heap.size, 0, none⟩)] hE3 p x n cap xs (w.heap.size + 1) w.heap.size (fun k => Fp.mul p ((k : Int) + 1) (xs.getD k 0)) (fun k => Cd.S1 xs k % p) ((sumW w p x n cap).drewN q) (sumW_l w p x n cap) (sumW_p w p x n cap) (hR q) hn hm hw
    (fun k q' hk => share1_any p _ k w.heap.size _ (sumW_p w p x n cap) (by omega) (hw k).1 (hw k).2) (fun k _ => by have := Fp.mul_bd p ((k : Int) + 1) (xs.getD k 0); omega) (fun k => md_word h _) (by simp [Cd.S1]) (fun k _ => S1_step h xs k))
  have HA := Lib.hid (sumW_ar w p x n cap)
  have HB := Lib.hid hB0
  have H := Lib.hid h
  clear h hx hn hw hB0 hR hE2 hE3
  generalize Cd.S0 xs n % p = a at K1 ⊢
  generalize Cd.S1 xs n % p = b at K2 ⊢
  unfold sumW at HA HB K1 K2
  have f0 := fun q => (HA.out.draws q).fr 0
  have f1 := fun q => (HA.out.draws q).fr 1
  have k0 := fun q => (HA.out.draws q).c0
  have k1 := fun q => (HA.out.draws q).c1
  go_enter Tryd.func28, Tryd.ntmps28
  go_wp2_with (first
    | (go_at_call 62; refine (known_yes p _ H.out).mono ?_; rintro e w' ⟨rfl, rfl⟩)
    | (go_at_fn 63; refine (K1.out 0).mono ?_; rintro e w' ⟨rfl, n1, rfl⟩; clear K1)
    | (go_at_fn 63; refine (K2.out _).mono ?_; rintro e w' ⟨rfl, n2, rfl⟩))
  refine bodyPost_ret (results_ar rfl _ _ (w.heap.size + 1 + 1) _ _ rfl ((HA.out.draws _).set _ _)) rfl ?_
  exact ⟨rfl, below_set2 (below_draws HB.out _) (by omega) _ _⟩

/-- Sums, of whatever words. -/
theorem csums_any (p : Int) (x : Option Addr) (n cap : Nat) (xs : List Int) (w : World) (hx : Reads .u64 w w.heap.size x xs) (hn : xs.length = n) (hw : Words xs) :
    Calls Tryd.prog 28 #[.int .u64 p, .slice x n cap] w (RetAr w (Cd.sm0 p xs) (Cd.sm1 p xs) (Cd.smE p n)) := by
  subst hn
  cases h : Fp.kn p
  · have e : Cd.smE p xs.length = 2 := by unfold Cd.smE; rw [if_pos h]
    unfold Cd.sm0 Cd.sm1
    rw [e, if_neg (by decide), if_neg (by decide)]
    exact csums_no p x _ cap w h
  · by_cases h2 : 4096 < xs.length
    · have e : Cd.smE p xs.length = 1 := by unfold Cd.smE; rw [if_neg (by rw [h]; decide), if_pos h2]
      unfold Cd.sm0 Cd.sm1
      rw [e, if_neg (by decide), if_neg (by decide)]
      exact csums_many p x _ cap w h h2
    · have e : Cd.smE p xs.length = 0 := by unfold Cd.smE; rw [if_neg (by rw [h]; decide), if_neg h2]
      unfold Cd.sm0 Cd.sm1
      rw [e, if_pos rfl, if_pos rfl]
      exact csums_ok p x _ cap xs w h hx rfl (by omega) hw

end Go.Proofs.YtphghklhknadoaaDoor

/-!   A pair of words stays as it is when another block is written into. No function of the program is named here.
-/

namespace Go.Proofs.YtphghklhknadoaaDoor
open Go.RowKit

theorem Ar.apart {w : World} {G : Nat} {a b : Int} (h : Ar w G a b) {p : Addr} (hp : p.block ≠ G) (u : Value) : Ar (w.setCell p u) G a b := ⟨(Below.heap_setCell _ _ _ _ (fun e => hp e.symm)).trans h.is⟩

end Go.Proofs.YtphghklhknadoaaDoor

/-!   What the document's Sums of layer 14 come to (brackenref14): the same.
-/

namespace Go.Proofs.YtphghklhknadoaaDoor
open Go.RowKit

set_option maxHeartbeats 1000000 in
theorem rsums_no (p : Int) (x : Option Addr) (n cap : Nat) (w : World) (h : Fp.kn p = false) :
    Calls Tryd.prog 44 #[.int .u64 p, .slice x n cap] w (RetAr w 0 0 2) := by
  have H := Lib.hid h; clear h
  have HA := Lib.hid (Ar.new w 0 0)
  have HB := Lib.hid (below_al (Below.refl _ w) (.cells #[.int .u64 0, .int .u64 0] 34))
  have k0 := HA.out.c0
  have k1 := HA.out.c1
  have f0 := HA.out.fr 0
  have f1 := HA.out.fr 1
  go_enter Tryd.func44, Tryd.ntmps44
  go_wp2_with (go_at_call 72; refine (rknown_no p _ H.out).mono ?_; rintro e w' ⟨rfl, rfl⟩)
  refine bodyPost_ret (results_ar rfl _ _ w.heap.size _ _ rfl HA.out) rfl ?_
  exact ⟨rfl, HB.out⟩

set_option maxHeartbeats 1000000 in
theorem rsums_many (p : Int) (x : Option Addr) (n cap : Nat) (w : World) (h : Fp.kn p = true) (hn : 4096 < n) :
    Calls Tryd.prog 44 #[.int .u64 p, .slice x n cap] w (RetAr w 0 0 1) := by
  have H := Lib.hid h; clear h
  have hd : decide ((4096 : Int) < (n : Int)) = true := by simp; omega
  have HA := Lib.hid (Ar.new w 0 0)
  have HB := Lib.hid (below_al (Below.refl _ w) (.cells #[.int .u64 0, .int .u64 0] 34))
  have k0 := HA.out.c0
  have k1 := HA.out.c1
  have f0 := HA.out.fr 0
  have f1 := HA.out.fr 1
  go_enter Tryd.func44, Tryd.ntmps44
  go_wp2_with (go_at_call 72; refine (rknown_yes p _ H.out).mono ?_; rintro e w' ⟨rfl, rfl⟩)
  refine bodyPost_ret (results_ar rfl _ _ w.heap.size _ _ rfl HA.out) rfl ?_
  exact ⟨rfl, HB.out⟩

set_option maxRecDepth 100000 in
set_option maxHeartbeats 4000000 in
theorem rsums_ok (p : Int) (x : Option Addr) (n cap : Nat) (xs : List Int) (w : World) (h : Fp.kn p = true) (hx : Reads .u64 w w.heap.size x xs) (hn : xs.length = n) (hm : n ≤ 4096) (hw : Words xs) :
    Calls Tryd.prog 44 #[.int .u64 p, .slice x n cap] w (RetAr w (Cd.S0 xs n % p) (Cd.S1 xs n % p) 0) := by
  have hmx : Tryd.prog.follows .mixedOrders = true := by kernel_rfl
  have H := Lib.hid h
  have hd : decide ((4096 : Int) < (n : Int)) = false := by simp; omega
  obtain ⟨wz, hwz⟩ : ∃ wz, wz = (w.alloc (.cells #[.int .u64 0, .int .u64 0] 34)).alloc (.cells #[.int .u64 0, .int .u64 0] 34) := ⟨_, rfl⟩
  have hB0 : Below w.heap.size w wz := by rw [hwz]; exact below_al (below_al (Below.refl _ _) _) _
  have hA1 : Ar wz w.heap.size 0 0 := by rw [hwz]; exact (Ar.new w 0 0).then (below_al (Below.refl _ _) _)
  have hA2 : Ar wz (w.heap.size + 1) 0 0 := by
    have := Ar.new (w.alloc (.cells #[.int .u64 0, .int .u64 0] 34)) 0 0
    rw [World.size_alloc] at this
    rw [hwz]; exact this
  have HI0 : Hid (Ar wz w.heap.size 0 0 ∧ Ar wz (w.heap.size + 1) (Cd.S0 xs 0 % p) (Cd.S1 xs 0 % p) ∧ Below w.heap.size w wz) := Lib.hid ⟨hA1, by simpa [Cd.S0, Cd.S1] using hA2, hB0⟩
  have HX := Lib.hid hx
  have HW := Lib.hid hw
  have HN := Lib.hid hn
  have HS0 := Lib.hid (fun k => S0_step h xs k)
  have HS1 := Lib.hid (fun k => S1_step h xs k)
  have HM := Lib.hid (fun a => And.intro (md_word h (Cd.S0 xs a)) (md_word h (Cd.S1 xs a)))
  clear hx hw hn h hB0 hA1 hA2
  go_enter Tryd.func44, Tryd.ntmps44
  go_wp2_with (go_at_call 72; refine (rknown_yes p _ H.out).mono ?_; rintro e w' ⟨rfl, rfl⟩)
  rw [← hwz]
  clear hwz
  go_loopw [19] (fun i wr => ∃ k : Nat, k ≤ n ∧ i = .int .i64 (k : Int) ∧ Hid (Ar wr w.heap.size 0 0 ∧ Ar wr (w.heap.size + 1) (Cd.S0 xs k % p) (Cd.S1 xs k % p) ∧ Below w.heap.size w wr)) (fun i _ => n - (intOf i).toNat)
  case atStart => exact ⟨0, Nat.zero_le _, rfl, HI0⟩
  case round =>
    obtain ⟨k, hk, rfl, HI⟩ := hrel
    clear HI0
    by_cases hlt : k < n
    · have hdk : decide (k < n) = true := by simpa using hlt
      obtain ⟨b, off, rfl, hb, hc⟩ := HX.out (by have := HN.out; omega)
      have hx1 := (HI.out.2.2.cell (p := ⟨b, off + k, none⟩) hb).trans (hc k (by have := HN.out; omega))
      obtain ⟨u0, u1⟩ := HW.out k
      obtain ⟨⟨s00, s01⟩, s10, s11⟩ := HM.out k
      have hT0 := HS0.out k
      have hT1 := HS1.out k
      obtain ⟨u, hu⟩ : ∃ u, u = xs.getD k 0 := ⟨_, rfl⟩
      obtain ⟨s, hs⟩ : ∃ s, s = Cd.S0 xs k % p := ⟨_, rfl⟩
      obtain ⟨t, ht⟩ : ∃ t, t = Cd.S1 xs k % p := ⟨_, rfl⟩
      rw [← hu] at hx1 u0 u1 hT0 hT1
      rw [← hs] at s00 s01 hT0 HI
      rw [← ht] at s10 s11 hT1 HI
      have hT1' : Fp.add p t (Fp.mul p u ((k : Int) + 1)) = Cd.S1 xs (k + 1) % p := by rw [Fp.mul_comm p u]; exact hT1
      have HT0 := Lib.hid hT0
      have HT1 := Lib.hid hT1'
      obtain ⟨m0, m1, -⟩ := Fp.mul_bd p u ((k : Int) + 1)
      have k0 := HI.out.2.1.c0
      have k1 := HI.out.2.1.c1
      have f0 := HI.out.2.1.fr 0
      have f1 := HI.out.2.1.fr 1
      clear hc hu hs ht hT0 hT1 hT1'
      go_wp2_with (go_at_call 74; refine (radd_any _ _ _ _ (by omega) (by omega) (by omega) (by omega)).mono ?_; rintro e w' ⟨rfl, n1, rfl⟩)
      have hA1 := (HI.out.2.1.draws n1).set0 (Fp.add p s u)
      have hAz := (HI.out.1.draws n1).apart (p := ⟨w.heap.size + 1, 0, none⟩) (by dsimp only; omega) (.int .u64 (Fp.add p s u))
      have hB1 := (below_draws HI.out.2.2 n1).setCell (p := ⟨w.heap.size + 1, 0, none⟩) (by dsimp only; omega) (.int .u64 (Fp.add p s u))
      obtain ⟨W1, hW1⟩ : ∃ W1, W1 = (wr.drewN n1).setCell ⟨w.heap.size + 1, 0, none⟩ (.int .u64 (Fp.add p s u)) := ⟨_, rfl⟩
      rw [← hW1] at hA1 hAz hB1 ⊢
      have j1 := hA1.c1
      have g1 := hA1.fr 1
      have HA1 := Lib.hid hA1
      have HAz := Lib.hid hAz
      have HB1 := Lib.hid hB1
      clear hW1 hA1 hAz hB1 HI k0 k1 f0 f1
      refine region_quiet_tail 10 hmx (by kernel_rfl) ?_
      simp only [List.take_succ_cons, List.take_zero, List.drop_succ_cons, List.drop_zero]
      repeat (go_big_quiet_step (first
        | (go_at_call 43; exact Calls.quiet_of_same (flip_same (rmul_any _ _ _ _ (by omega) (by omega) (by omega) (by omega))))
        | (go_at_call 74; exact Calls.quiet_of (radd_any _ _ _ _ (by omega) (by omega) (by omega) (by omega)))))
      refine wpQuiet_nil ?_
      rintro w' ⟨nq, rfl⟩
      go_wp2
      go_roundw
      case rel => exact ⟨k + 1, by omega, by go_num, Lib.hid ⟨(HAz.out.draws nq).apart (p := ⟨w.heap.size + 1, 1, none⟩) (by dsimp only; omega) _, by rw [← HT0.out, ← HT1.out]; exact (HA1.out.draws nq).set1 _, (below_draws HB1.out nq).setCell (p := ⟨w.heap.size + 1, 1, none⟩) (by dsimp only; omega) _⟩⟩
      case measure => simp [intOf]; omega
    · obtain rfl : k = n := by omega
      have hdk : decide (k < k) = false := by simp
      have k0 := HI.out.2.1.c0
      have k1 := HI.out.2.1.c1
      have j0 := HI.out.1.c0
      have j1 := HI.out.1.c1
      have f0 := HI.out.1.fr 0
      have f1 := HI.out.1.fr 1
      go_wp2
      refine bodyPost_ret (results_ar rfl _ _ w.heap.size _ _ rfl (HI.out.1.set _ _)) rfl ?_
      exact ⟨rfl, below_set2 HI.out.2.2 (Nat.le_refl _) _ _⟩

/-- Sums, of whatever words. -/
theorem rsums14_any (p : Int) (x : Option Addr) (n cap : Nat) (xs : List Int) (w : World) (hx : Reads .u64 w w.heap.size x xs) (hn : xs.length = n) (hw : Words xs) :
    Calls Tryd.prog 44 #[.int .u64 p, .slice x n cap] w (RetAr w (Cd.sm0 p xs) (Cd.sm1 p xs) (Cd.smE p n)) := by
  subst hn
  cases h : Fp.kn p
  · have e : Cd.smE p xs.length = 2 := by unfold Cd.smE; rw [if_pos h]
    unfold Cd.sm0 Cd.sm1
    rw [e, if_neg (by decide), if_neg (by decide)]
    exact rsums_no p x _ cap w h
  · by_cases h2 : 4096 < xs.length
    · have e : Cd.smE p xs.length = 1 := by unfold Cd.smE; rw [if_neg (by rw [h]; decide), if_pos h2]
      unfold Cd.sm0 Cd.sm1
      rw [e, if_neg (by decide), if_neg (by decide)]
      exact rsums_many p x _ cap w h h2
    · have e : Cd.smE p xs.length = 0 := by unfold Cd.smE; rw [if_neg (by rw [h]; decide), if_neg h2]
      unfold Cd.sm0 Cd.sm1
      rw [e, if_pos rfl, if_pos rfl]
      exact rsums_ok p x _ cap xs w h hx rfl (by omega) hw

end Go.Proofs.YtphghklhknadoaaDoor
