/-
  A request: as a value, as a block, what may lie in it; what Check and Item of it come to. No function of the program is named here.
-/
import Derived.Test.YtlbfllaaabginaaDoorGrids
import Derived.WideShapes
namespace Go.Proofs.YtlbfllaaabginaaDoor
open Go.RowKit

/-- A request, with the addresses of its three lists. -/
structure Rq where
  p : Int
  x : Option Addr
  n : Nat
  cap : Nat
  xa : List Ax
  inv : Bool
  b : Int
  y : Option Addr
  m : Nat
  cy : Nat
  xs : List Int
  z : Option Addr
  k : Nat
  cz : Nat
  zs : List Int
  rt : Int
  ag : Int
/-- As the program has it. -/
def rqV (q : Rq) : Value := .agg #[.int .u64 q.p, .slice q.x q.n q.cap, .bool q.inv, .int .i64 q.b, .slice q.y q.m q.cy, .slice q.z q.k q.cz, .int .i64 q.rt, .int .i64 q.ag]
def rqO (q : Rq) (t : TypeId) : Obj := .cells #[.int .u64 q.p, .slice q.x q.n q.cap, .bool q.inv, .int .i64 q.b, .slice q.y q.m q.cy, .slice q.z q.k q.cz, .int .i64 q.rt, .int .i64 q.ag] t

/-- What lies in its lists, and how great its numbers are. -/
structure RqIn (w : World) (B : Nat) (q : Rq) : Prop where
  ax : ReadsA w B q.x q.xa
  an : q.xa.length = q.n
  al : q.n ≤ 8796093022208
  ac : q.n ≤ q.cap ∧ q.cap ≤ maxLen
  ai : ∀ k, -9223372036854775808 ≤ (q.xa.getD k noAx).n ∧ (q.xa.getD k noAx).n < 9223372036854775808
  yr : Reads .u64 w B q.y q.xs
  yn : q.xs.length = q.m
  yw : Words q.xs
  yc : q.m ≤ q.cy ∧ q.cy ≤ maxLen
  zr : Reads .u64 w B q.z q.zs
  zn : q.zs.length = q.k
  zw : Words q.zs
  zc : q.k ≤ q.cz ∧ q.cz ≤ maxLen
  pb : 0 ≤ q.p ∧ q.p < 18446744073709551616
  bb : -9223372036854775808 ≤ q.b ∧ q.b < 9223372036854775808
  rb : -9223372036854775808 ≤ q.rt ∧ q.rt < 9223372036854775808
  gb : -9223372036854775808 ≤ q.ag ∧ q.ag < 9223372036854775808
  xnil : q.x = none → q.n = 0 ∧ q.cap = 0
  ynil : q.y = none → q.m = 0 ∧ q.cy = 0
  znil : q.z = none → q.k = 0 ∧ q.cz = 0
section
variable {w w' : World} {B B' : Nat} {q : Rq}
theorem RqIn.below (h : RqIn w B q) (hb : Below B w w') : RqIn w' B q := { h with ax := h.ax.below hb, yr := h.yr.below hb, zr := h.zr.below hb }
theorem RqIn.more (h : RqIn w B q) (hB : B ≤ B') : RqIn w B' q := { h with ax := h.ax.more hB, yr := h.yr.more hB, zr := h.zr.more hB }
theorem RqIn.src (h : RqIn w B q) : Src .u64 w q.y q.m q.cy q.xs := by
  refine ⟨h.yn, ?_⟩
  cases hy : q.y with
  | none => exact .inl ⟨rfl, h.ynil hy⟩
  | some ad =>
    refine .inr ⟨ad, rfl, fun j hj => ?_⟩
    obtain ⟨b, off, e, _, hc⟩ := h.yr (by rw [h.yn]; omega)
    rw [hy] at e
    cases e
    rw [Go.WideShapes.add_plain]
    exact hc j (by rw [h.yn]; exact hj)
theorem RqIn.then (h : RqIn w w.heap.size q) (hb : Below w.heap.size w w') : RqIn w' w'.heap.size q := (h.below hb).more hb.size
end

/-- A request in memory. -/
structure RqAt (w : World) (g : Nat) (q : Rq) : Prop where
  c0 : w.cell? ⟨g, 0, none⟩ = some (.int .u64 q.p)
  c1 : w.cell? ⟨g, 1, none⟩ = some (.slice q.x q.n q.cap)
  c2 : w.cell? ⟨g, 2, none⟩ = some (.bool q.inv)
  c3 : w.cell? ⟨g, 3, none⟩ = some (.int .i64 q.b)
  c4 : w.cell? ⟨g, 4, none⟩ = some (.slice q.y q.m q.cy)
  c5 : w.cell? ⟨g, 5, none⟩ = some (.slice q.z q.k q.cz)
  c6 : w.cell? ⟨g, 6, none⟩ = some (.int .i64 q.rt)
  c7 : w.cell? ⟨g, 7, none⟩ = some (.int .i64 q.ag)
section
variable {w w' : World} {g B : Nat} {q : Rq}
theorem RqAt.new (w : World) (t : TypeId) (q : Rq) : RqAt (w.alloc (rqO q t)) w.heap.size q := by unfold rqO; exact ⟨by simp, by simp, by simp, by simp, by simp, by simp, by simp, by simp⟩
theorem RqAt.below (h : RqAt w g q) (hg : g < B) (hb : Below B w w') : RqAt w' g q :=
  ⟨(hb.cell (p := ⟨g, 0, none⟩) hg).trans h.c0, (hb.cell (p := ⟨g, 1, none⟩) hg).trans h.c1, (hb.cell (p := ⟨g, 2, none⟩) hg).trans h.c2, (hb.cell (p := ⟨g, 3, none⟩) hg).trans h.c3, (hb.cell (p := ⟨g, 4, none⟩) hg).trans h.c4, (hb.cell (p := ⟨g, 5, none⟩) hg).trans h.c5, (hb.cell (p := ⟨g, 6, none⟩) hg).trans h.c6, (hb.cell (p := ⟨g, 7, none⟩) hg).trans h.c7⟩
theorem RqAt.lt (h : RqAt w g q) : g < w.heap.size := World.block_lt_of_cell? _ _ h.c0
theorem RqAt.then (h : RqAt w g q) (hb : Below w.heap.size w w') : RqAt w' g q := h.below h.lt hb
end

/-- How many words an item has. -/
def rqN (q : Rq) : Nat := Sh.prod (szs q.xa)
/-- What is wrong with it ahead of its axes. -/
def argB (q : Rq) : Bool := decide (q.b < 1) || decide (16 < q.b) || decide (q.rt < 0) || decide (8 < q.rt) || decide (q.ag < 0) || decide (8 < q.ag)
/-- What is wrong with a request. -/
def chkE (q : Rq) : Int :=
  if argB q = true then 1 else if gridE q.p q.xa ≠ 0 then gridE q.p q.xa else if (q.m : Int) ≠ q.b * (rqN q : Int) then 6
  else if Fp.isIn q.p (fun j => q.xs.getD j 0) q.xs.length = false then 7 else if q.k < 1 ∨ 4 < q.k then 8 else 0
def itE (q : Rq) (i : Int) : Int := if chkE q ≠ 0 then chkE q else if i < 0 ∨ q.b ≤ i then 1 else 0
/-- The words of an item. -/
def part (q : Rq) (i : Nat) : List Int := (q.xs.drop (i * rqN q)).take (rqN q)
def itL (q : Rq) (i : Int) : List Int := if itE q i = 0 then part q i.toNat else []

/-- There is nothing wrong with a request. -/
structure Rok (q : Rq) : Prop where
  b : 1 ≤ q.b ∧ q.b ≤ 16
  rt : 0 ≤ q.rt ∧ q.rt ≤ 8
  ag : 0 ≤ q.ag ∧ q.ag ≤ 8
  ax : Axes q.p q.xa
  len : (q.m : Int) = q.b * (rqN q : Int)
  is : Fp.isIn q.p (fun j => q.xs.getD j 0) q.xs.length = true
  k : 1 ≤ q.k ∧ q.k ≤ 4
section
variable {q : Rq} {i : Int}
theorem argB_false (h : argB q = false) : (1 ≤ q.b ∧ q.b ≤ 16) ∧ (0 ≤ q.rt ∧ q.rt ≤ 8) ∧ (0 ≤ q.ag ∧ q.ag ≤ 8) := by
  unfold argB at h
  simp at h
  omega
theorem argB_ok (h1 : 1 ≤ q.b ∧ q.b ≤ 16) (h2 : 0 ≤ q.rt ∧ q.rt ≤ 8) (h3 : 0 ≤ q.ag ∧ q.ag ≤ 8) : argB q = false := by
  unfold argB
  simp
  omega
theorem chkE_cases (q : Rq) : (chkE q = 1 ∧ argB q = true) ∨ (argB q = false ∧ chkE q = gridE q.p q.xa ∧ gridE q.p q.xa ≠ 0) ∨ (argB q = false ∧ Axes q.p q.xa ∧ chkE q = 6 ∧ (q.m : Int) ≠ q.b * (rqN q : Int)) ∨
    (argB q = false ∧ Axes q.p q.xa ∧ (q.m : Int) = q.b * (rqN q : Int) ∧ chkE q = 7 ∧ Fp.isIn q.p (fun j => q.xs.getD j 0) q.xs.length = false) ∨
    (argB q = false ∧ Axes q.p q.xa ∧ (q.m : Int) = q.b * (rqN q : Int) ∧ Fp.isIn q.p (fun j => q.xs.getD j 0) q.xs.length = true ∧ chkE q = 8 ∧ (q.k < 1 ∨ 4 < q.k)) ∨ (chkE q = 0 ∧ Rok q) := by
  unfold chkE
  cases h1 : argB q
  · by_cases h2 : gridE q.p q.xa = 0
    · have hA := gridE_zero h2
      by_cases h3 : (q.m : Int) = q.b * (rqN q : Int)
      · cases h4 : Fp.isIn q.p (fun j => q.xs.getD j 0) q.xs.length
        · exact .inr (.inr (.inr (.inl ⟨rfl, hA, h3, by simp [h2, h3], rfl⟩)))
        · by_cases h5 : q.k < 1 ∨ 4 < q.k
          · exact .inr (.inr (.inr (.inr (.inl ⟨rfl, hA, h3, rfl, by simp [h2, h3]; omega, h5⟩))))
          · obtain ⟨a1, a2, a3⟩ := argB_false h1
            exact .inr (.inr (.inr (.inr (.inr ⟨by simp [h2, h3]; omega, a1, a2, a3, hA, h3, h4, by omega⟩))))
      · exact .inr (.inr (.inl ⟨rfl, hA, by simp [h2, h3], h3⟩))
    · exact .inr (.inl ⟨rfl, by simp [h2], h2⟩)
  · exact .inl ⟨by simp, rfl⟩
theorem chkE_zero (h : chkE q = 0) : Rok q := by
  rcases chkE_cases q with ⟨h1, _⟩ | ⟨_, h1, h2⟩ | ⟨_, _, h1, _⟩ | ⟨_, _, _, h1, _⟩ | ⟨_, _, _, _, h1, _⟩ | ⟨_, h1⟩
  · omega
  · rw [h1] at h; exact absurd h h2
  · omega
  · omega
  · omega
  · exact h1
theorem Rok.zero (h : Rok q) : chkE q = 0 := by
  unfold chkE
  have h1 := argB_ok h.b h.rt h.ag
  have h2 := h.ax.zero
  have h3 := h.len
  have h4 := h.is
  have h5 := h.k
  rw [if_neg (by simp [h1]), if_neg (by simp [h2]), if_neg (by simp [h3]), if_neg (by rw [h4]; decide), if_neg (by omega)]
theorem chkE_bd (q : Rq) : 0 ≤ chkE q ∧ chkE q ≤ 8 := by
  have := gridE_bd q.p q.xa
  rcases chkE_cases q with ⟨h1, _⟩ | ⟨_, h1, h2⟩ | ⟨_, _, h1, _⟩ | ⟨_, _, _, h1, _⟩ | ⟨_, _, _, _, h1, _⟩ | ⟨h1, _⟩ <;> omega
theorem Rok.pos (h : Rok q) : 1 ≤ rqN q ∧ rqN q ≤ 4096 := ⟨h.ax.ok.here, h.ax.ok.le⟩
theorem itE_zero (h : itE q i = 0) : Rok q ∧ 0 ≤ i ∧ i < q.b := by
  unfold itE at h
  by_cases h1 : chkE q = 0
  · rw [if_neg (by simp [h1])] at h
    by_cases h2 : i < 0 ∨ q.b ≤ i
    · rw [if_pos h2] at h; cases h
    · exact ⟨chkE_zero h1, by omega, by omega⟩
  · rw [if_pos h1] at h; exact absurd h h1
theorem itE_chk (h : chkE q ≠ 0) : itE q i = chkE q := by unfold itE; rw [if_pos h]
theorem itE_arg (h : chkE q = 0) (hi : i < 0 ∨ q.b ≤ i) : itE q i = 1 := by unfold itE; rw [if_neg (by simp [h]), if_pos hi]
theorem itE_ok (h : chkE q = 0) (hi : ¬ (i < 0 ∨ q.b ≤ i)) : itE q i = 0 := by unfold itE; rw [if_neg (by simp [h]), if_neg hi]
theorem itL_no (h : itE q i ≠ 0) : itL q i = [] := by unfold itL; rw [if_neg h]
theorem itL_ok (h : itE q i = 0) : itL q i = part q i.toNat := by unfold itL; rw [if_pos h]
/-- Where the item i lies. -/
theorem part_in (h : Rok q) (hn : q.xs.length = q.m) {i : Nat} (hi : (i : Int) < q.b) : i * rqN q + rqN q ≤ q.xs.length := by
  have e : ((i * rqN q + rqN q : Nat) : Int) ≤ (q.m : Int) := by
    rw [h.len]
    have h2 : ((i : Int) + 1) * (rqN q : Int) ≤ q.b * (rqN q : Int) := Int.mul_le_mul_of_nonneg_right (by omega) (by omega)
    rw [Int.add_mul, Int.one_mul] at h2
    simpa using h2
  omega
theorem part_len (h : Rok q) (hn : q.xs.length = q.m) {i : Nat} (hi : (i : Int) < q.b) : (part q i).length = rqN q := by
  have := part_in h hn hi
  unfold part
  rw [List.length_take, List.length_drop]
  omega
theorem part_get (q : Rq) (i : Nat) {j : Nat} (hj : j < rqN q) : (part q i).getD j 0 = q.xs.getD (i * rqN q + j) 0 := by
  unfold part
  rw [List.getD_eq_getElem?_getD, List.getD_eq_getElem?_getD, List.getElem?_take_of_lt hj, List.getElem?_drop]
theorem part_next (q : Rq) (i : Nat) : q.xs.take (i * rqN q) ++ part q i = q.xs.take ((i + 1) * rqN q) := by
  unfold part
  rw [Nat.add_mul, Nat.one_mul, List.take_add]
end

end Go.Proofs.YtlbfllaaabginaaDoor
