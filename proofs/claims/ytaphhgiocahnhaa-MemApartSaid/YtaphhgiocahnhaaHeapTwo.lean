/-
  How the methods of a heap of events are reached through the interface that container/heap asks for; what Swap comes to.
-/
import Derived.Test.YtaphhgiocahnhaaHeapOne
import Derived.Shelf.SlSortCmp.KitK
import Derived.Deep.Upon
namespace Go.Proofs.Ytaphhgiocahnhaa
open Go.RowKit Go.Sort Go.Shelf Go.Lib

section
variable (A : Nat) (v : Value) (w : World)
theorem find_less (h : w.cell? ⟨A, 0, none⟩ = some v) : (method 206 79 (.pointer (some ⟨A, 0, none⟩)) "Less").run Try.prog w = .ok (68, v) w := by
  have e : (method 206 79 (.pointer (some ⟨A, 0, none⟩)) "Less").run Try.prog w = ((do let x ← loadVar 71 ⟨A, 0, none⟩; pure (68, x) : Sem (FuncId × Value))).run Try.prog w := by kernel_rfl
  rw [e]
  go_simp
theorem find_len (h : w.cell? ⟨A, 0, none⟩ = some v) : (method 206 79 (.pointer (some ⟨A, 0, none⟩)) "Len").run Try.prog w = .ok (67, v) w := by
  have e : (method 206 79 (.pointer (some ⟨A, 0, none⟩)) "Len").run Try.prog w = ((do let x ← loadVar 71 ⟨A, 0, none⟩; pure (67, x) : Sem (FuncId × Value))).run Try.prog w := by kernel_rfl
  rw [e]
  go_simp
theorem find_swap (h : w.cell? ⟨A, 0, none⟩ = some v) : (method 206 79 (.pointer (some ⟨A, 0, none⟩)) "Swap").run Try.prog w = .ok (69, v) w := by
  have e : (method 206 79 (.pointer (some ⟨A, 0, none⟩)) "Swap").run Try.prog w = ((do let x ← loadVar 71 ⟨A, 0, none⟩; pure (69, x) : Sem (FuncId × Value))).run Try.prog w := by kernel_rfl
  rw [e]
  go_simp
theorem find_push : (method 206 79 (.pointer (some ⟨A, 0, none⟩)) "Push").run Try.prog w = .ok (74, .pointer (some ⟨A, 0, none⟩)) w := by kernel_rfl
theorem find_pop : (method 206 79 (.pointer (some ⟨A, 0, none⟩)) "Pop").run Try.prog w = .ok (73, .pointer (some ⟨A, 0, none⟩)) w := by kernel_rfl
end

/-- A row of entries out of its block's form and its cells. -/
theorem RowN.of {w : World} {g cap : Nat} {d : Array En} (hb : ∃ cur, w.heap[g]? = some (.cells cur 77 (0, 0)) ∧ cur.size = cap * 7) (hn : d.size ≤ cap) (hm : cap ≤ maxLen)
    (hc : ∀ i c, i < d.size → c < 7 → w.cell? ⟨g, i * 7 + c, none⟩ = (enc d[i]!)[c]?) : RowN w g cap d := by
  obtain ⟨cur, e, hs⟩ := hb
  refine ⟨by rw [flatN_len]; simp, .inr ⟨g, cap, cur, rfl, Nat.zero_le _, e, hn, hm, hs, ?_⟩⟩
  apply List.ext_getElem?
  intro t
  by_cases ht : t < d.size * 7
  · have h1 := hc (t / 7) (t % 7) (by omega) (by omega)
    rw [show t / 7 * 7 + t % 7 = t by omega] at h1
    have h2 := flatN_get d.toList (t / 7) (by simp; omega) (t % 7) (by omega)
    rw [show t / 7 * 7 + t % 7 = t by omega, toListD d (t / 7) (by omega), ← h1] at h2
    rw [h2, List.getElem?_take_of_lt ht]
    simp [World.cell?, e]
  · rw [List.getElem?_eq_none (by simp; omega), List.getElem?_eq_none (by rw [flatN_len]; simp; omega)]
theorem RowN.shape {w : World} {g cap : Nat} {d : Array En} (h : RowN w g cap d) : ∃ cur, w.heap[g]? = some (.cells cur 77 (0, 0)) ∧ cur.size = cap * 7 := by
  rcases h.2 with ⟨e, _⟩ | ⟨g', cap', cur, e1, _, e3, _, _, e6, _⟩
  · cases e
  · cases e1; exact ⟨cur, e3, e6⟩
theorem shape_set {w : World} {g m : Nat} {t : TypeId} (h : ∃ cur, w.heap[g]? = some (.cells cur t (0, 0)) ∧ cur.size = m) (o : Nat) (v : Value) : ∃ cur, (w.setCell ⟨g, o, none⟩ v).heap[g]? = some (.cells cur t (0, 0)) ∧ cur.size = m := by
  obtain ⟨cur, e, hs⟩ := h
  refine ⟨cur.setIfInBounds o v, ?_, by simp [hs]⟩
  simp [World.setCell, Array.getElem?_modify, e]
theorem shape_sets {g m : Nat} {t : TypeId} : ∀ (vs : List Value) (w : World) (o : Nat), (∃ cur, w.heap[g]? = some (.cells cur t (0, 0)) ∧ cur.size = m) → ∃ cur, (w.setCells g o vs).heap[g]? = some (.cells cur t (0, 0)) ∧ cur.size = m
  | [], _, _, h => h
  | _ :: vs, _, o, h => shape_sets vs _ (o + 1) (shape_set h o _)
theorem size_setCells (g : Nat) : ∀ (vs : List Value) (w : World) (o : Nat), (w.setCells g o vs).heap.size = w.heap.size
  | [], _, _ => rfl
  | _ :: vs, _, o => (size_setCells g vs _ (o + 1)).trans (by simp [World.setCell])
theorem grown_setCells (g : Nat) : ∀ (vs : List Value) (w : World) (o : Nat), w.grownBy (w.setCells g o vs) (some g)
  | [], _, _ => ⟨rfl, rfl, rfl, Nat.le_refl _, fun _ _ _ => rfl⟩
  | v :: vs, w, o => by
    have h := grown_setCells g vs (w.setCell ⟨g, o, none⟩ v) (o + 1)
    exact ⟨h.os, h.tape, h.output, Nat.le_trans (by simp [World.setCell]) h.size, fun k hk hne => (h.block k (by simpa [World.setCell] using hk) hne).trans (Below.heap_setCell _ _ _ _ (fun e => hne (by rw [e])))⟩
theorem grown_trans {w w' w'' : World} {r : Option Nat} (h : w.grownBy w' r) (h' : w'.grownBy w'' r) : w.grownBy w'' r :=
  ⟨h'.os.trans h.os, h'.tape.trans h.tape, h'.output.trans h.output, Nat.le_trans h.size h'.size, fun k hk hne => (h'.block k (Nat.lt_of_lt_of_le hk h.size) hne).trans (h.block k hk hne)⟩
theorem grown_refl (w : World) (r : Option Nat) : w.grownBy w r := ⟨rfl, rfl, rfl, Nat.le_refl _, fun _ _ _ => rfl⟩
theorem grown_below {w w' : World} (r : Option Nat) (h : Below w.heap.size w w') : w.grownBy w' r := ⟨h.os, h.tape, h.output, h.size, fun k hk _ => h.block k hk⟩

theorem RowN.holds {w : World} {g cap : Nat} {d : Array En} (h : RowN w g cap d) : HoldsK enc 7 w g 0 d := fun t ht => by
  rw [size_flatK] at ht
  refine ⟨?_, by rw [Nat.zero_add]; exact World.ownsRow.frozenAt h t⟩
  rw [get_flatK enc 7 d t ht, Nat.zero_add]
  have h1 := h.cell (i := t / 7) (c := t % 7) (by omega) (by omega)
  rw [show t / 7 * 7 + t % 7 = t by omega] at h1
  rw [h1]
  have : t % 7 < (enc d[t / 7]!).length := by rw [enc_len]; omega
  simp [this]

theorem agg_en (w : World) : (isAgg 77).run Try.prog w = .ok true w := Try.isAgg77 w
theorem size_en (w : World) : (Go.sizeOf 77).run Try.prog w = .ok 7 w := Try.sizeOf77 w

set_option maxHeartbeats 4000000 in
set_option maxRecDepth 1000000 in
theorem swap_k (k g cap p q : Nat) (d : Array En) (w : World) (R : RowK enc k w g 0 d) (hp : p < d.size) (hq : q < d.size) :
    Calls Try.prog 69 #[.slice (some ⟨g, 0, none⟩) d.size cap, .int .i64 p, .int .i64 q] w fun e w' => e = .returned (.tuple #[]) ∧ w' = (w.drew.setCells g (p * k) (enc d[q]!)).setCells g (q * k) (enc d[p]!) := by
  have mixed : Try.prog.follows .mixedOrders = true := by kernel_rfl
  have aE := agg_en
  have zE : ∀ w : World, (Go.sizeOf 77).run Try.prog w = .ok k w := by
    have h : k = 7 := (R.hk default).symm
    subst h
    exact size_en
  have np : ((p : Int)).toNat = p := by omega
  have nq' : ((q : Int)).toNat = q := by omega
  have p0 : (0 : Int) ≤ (p : Int) := by omega
  have q0 : (0 : Int) ≤ (q : Int) := by omega
  have p1 : (p : Int) < (d.size : Int) := by omega
  have q1 : (q : Int) < (d.size : Int) := by omega
  have S : SWK enc k w g 0 d w := SWK.start R.hH
  have la := S.ld1 R rfl Try.prog p hp
  have lb := S.ld1 R rfl Try.prog q hq
  have sa := S.st1 R rfl Try.prog p hp d[q]!
  have sb := S.st2 R rfl Try.prog p q hp hq d[q]! d[p]!
  have na : (enc d[p]!).length = k := R.hk _
  have nb : (enc d[q]!).length = k := R.hk _
  rw [Nat.zero_add] at la lb sa sb
  rw [Nat.zero_add] at sb
  generalize enc d[p]! = cI at la sb na ⊢
  generalize enc d[q]! = cJ at lb sa sb nb ⊢
  clear S R
  go_enter Try.func69, Try.ntmps69
  go_wp2_with fail
  go_big_region_o
  clear la lb sa sb
  go_wp2
  go_end0
  exact ⟨rfl, rfl⟩

theorem swap_any (g cap p q : Nat) (d : Array En) (w : World) (hR : RowN w g cap d) (hp : p < d.size) (hq : q < d.size) :
    Calls Try.prog 69 #[.slice (some ⟨g, 0, none⟩) d.size cap, .int .i64 p, .int .i64 q] w fun e w' => e = .returned (.tuple #[]) ∧ RowN w' g cap (swp d p q) ∧ w.grownBy w' (some g) := by
  have R : RowK enc 7 w g 0 d := ⟨enc_len, enc_one, hR.holds, hR.lt⟩
  have S2 := (SWK.start hR.holds).swapped R p q hp hq
  refine (swap_k 7 g cap p q d w R hp hq).mono ?_
  rintro e w' ⟨rfl, rfl⟩
  refine ⟨rfl, ?_, grown_trans (grown_trans (grown_below (some g) (below_draws (Below.refl _ _) 1)) (grown_setCells g _ _ _)) (grown_setCells g _ _ _)⟩
  refine RowN.of (shape_sets _ _ _ (shape_sets _ _ _ hR.shape)) (by rw [size_swp]; exact hR.cap.1) hR.cap.2 fun i c hi hc => ?_
  have := (HoldsK.cell (S2.holds R.hblk R.hH (size_swp d p q)) hi hc).1
  simp only [Nat.zero_add] at this
  rw [this]
  have : c < (enc (swp d p q)[i]!).length := by rw [enc_len]; exact hc
  simp [this]

end Go.Proofs.Ytaphhgiocahnhaa
