/-
  What slices.SortStableFunc comes to at a slice of events that the call made for itself.
-/
import Derived.Test.YtbdcpjpdonednaaStable
import Derived.Test.YtbdcpjpdonednaaMathOf
import Derived.Test.YtbdcpjpdonednaaTries
import Derived.Sort.OwnSortedInts
namespace Go.Proofs.Ytbdcpjpdonednaa
open Go.RowKit Go.Shelf Go.Lib Go.Sort

theorem flat_list (es : List Ev) : (flatK evc 6 es.toArray).toList = es.flatMap evc := by
  apply List.ext_getElem?
  intro t
  by_cases ht : t < es.length * 6
  · have hj : t / 6 < es.length := by omega
    have hc : t % 6 < 6 := by omega
    have h1 := flatE_get es (t / 6) hj (t % 6) hc
    rw [show t / 6 * 6 + t % 6 = t by omega] at h1
    rw [h1]
    have h2 : t < (flatK evc 6 es.toArray).size := by rw [size_flatK]; simpa using ht
    rw [Array.getElem?_toList, Array.getElem?_eq_getElem h2]
    have h3 := get_flatK evc 6 es.toArray t (by simpa using ht)
    rw [getElem!_pos _ t h2] at h3
    rw [h3]
    have e : (es.toArray)[t / 6]! = es.getD (t / 6) noEv := by simp [hj]
    rw [e]
    have hl : t % 6 < (evc (es.getD (t / 6) noEv)).length := hc
    generalize evc (es.getD (t / 6) noEv) = l at hl
    rw [getElem!_pos l _ hl, List.getElem?_eq_getElem hl]
  · rw [List.getElem?_eq_none (by rw [Array.length_toList, size_flatK]; simpa using ht), List.getElem?_eq_none (by rw [flatE_len]; omega)]

theorem holds_of_blockE {w : World} {g : Nat} {cur : Array Value} {e : TypeId} {es : List Ev} (hb : w.heap[g]? = some (.cells cur e (0, 0))) (ht : cur.toList.take (es.length * 6) = es.flatMap evc) : HoldsK evc 6 w g 0 es.toArray := by
  intro j hj
  have hj' : j < es.length * 6 := by simpa using hj
  refine ⟨?_, by simp [World.frozen?, hb]⟩
  have h1 : (cur.toList.take (es.length * 6))[j]? = (es.flatMap evc)[j]? := by rw [ht]
  rw [List.getElem?_take_of_lt hj', ← flat_list] at h1
  simp only [World.cell?, hb, Nat.zero_add]
  simp only [Option.isSome_none, Bool.false_eq_true, if_false]
  rw [← Array.getElem?_toList, h1, Array.getElem?_toList, Array.getElem?_eq_getElem hj, getElem!_pos _ j hj]
  rfl

theorem heap_sortedE {w : World} {g n : Nat} {os : Array Obj} {cur : Array Value} {e : TypeId} {fr : Nat × Nat} (d : Array Ev) (hb : w.heap[g]? = some (.cells cur e fr)) :
    (sortWorldK evc 6 w g 0 n d os).heap[g]? = some (.cells (putCells id 0 (flatK evc 6 d) cur) e fr) := by
  have hg : g < w.heap.size := (Array.getElem?_eq_some_iff.1 hb).1
  unfold sortWorldK putRowK
  rw [heap_grow_old _ _ (by simpa using hg)]
  simp [putRow, mapBlock, Sort.ahead, Array.getElem?_modify, hb, onCells]

theorem grownBy_sortedE {w : World} {g n : Nat} {os : Array Obj} (d : Array Ev) : w.grownBy (sortWorldK evc 6 w g 0 n d os) (some g) := by
  refine ⟨rfl, rfl, rfl, ?_, fun k hk hne => ?_⟩
  · unfold sortWorldK
    rw [size_grow, size_putRowK]
    exact Nat.le_add_right _ _
  · unfold sortWorldK putRowK
    rw [heap_grow_old _ _ (by simpa using hk)]
    have : g ≠ k := fun e => hne (by rw [e])
    simp [putRow, mapBlock, Sort.ahead, Array.getElem?_modify, this]

theorem take_putCellsE (cur F : Array Value) (h : F.size ≤ cur.size) : (putCells id 0 F cur).toList.take F.size = F.toList := by
  apply List.ext_getElem?
  intro j
  by_cases hj : j < F.size
  · rw [List.getElem?_take_of_lt hj, Array.getElem?_toList]
    simp [putCells, hj, show j < cur.size by omega]
  · rw [List.getElem?_take_eq_none (by omega), List.getElem?_eq_none (by simp; omega)]

set_option maxHeartbeats 1000000 in
theorem sortS_any (g n cap base : Nat) (es : List Ev) (w : World) (hO : OwnsE w base (.slice (some ⟨g, 0, none⟩) n cap) es) (hn : es.length = n) (hl : n ≤ 1024) :
    Calls Try.prog 23 #[.slice (some ⟨g, 0, none⟩) n cap, .func (.func 24) #[] #[]] w fun e w' => e = .returned (.tuple #[]) ∧ OwnsE w' base (.slice (some ⟨g, 0, none⟩) n cap) (stl es) ∧ w.grownBy w' (some g) := by
  subst hn
  rcases hO.2 with ⟨e, _⟩ | ⟨g', cap', cur, e, hbase, hb, h1, h2, h3, h4⟩
  · cases e
  · cases e
    have hH := holds_of_blockE hb h4
    have hg : g < w.heap.size := (Array.getElem?_eq_some_iff.1 hb).1
    have R : RW 6 w g es.toArray := ⟨evc_len, evc_one, hH, hg⟩
    have HC := Lib.hid ((stable_any 6 24 #[] g cap es.length es.toArray es.toArray w w of1_enters (of1_lays 6 g es.toArray.size w) R (by simp) (by simp) (SWK.start hH) (by omega)).mono (R' := fun e w' => e = .returned (.tuple #[]) ∧ OwnsE w' base (.slice (some ⟨g, 0, none⟩) es.length cap) (stl es) ∧ w.grownBy w' (some g)) (by
      rintro e w' ⟨rfl, d', hst, hsr, n, os, rfl⟩
      have hz : d'.size = es.length := by have := hst.1; simpa using this
      have hd : d'.toList = stl es := stl_one (srt_toList (by rw [hz]; exact hsr)) (fun t => by have := hst.2 t; simpa using this)
      refine ⟨rfl, ?_, grownBy_sortedE d'⟩
      unfold OwnsE
      rw [stl_len]
      refine ⟨by rw [flatE_len, stl_len], .inr ⟨g, cap, _, rfl, hbase, heap_sortedE d' hb, h1, h2, by simp [putCells, h3], ?_⟩⟩
      have hF : (flatK evc 6 d').size = es.length * 6 := by rw [size_flatK, hz]
      rw [← hF, take_putCellsE _ _ (by rw [hF, h3]; omega), ← hd, ← flat_list]))
    clear hO hH R
    go_enter Try.func23, Try.ntmps23
    go_wp2_with (go_at_call 31; refine HC.out.mono ?_; rintro e w' ⟨rfl, hO', hG'⟩)
    go_end0
    exact ⟨rfl, hO', hG'⟩

set_option maxHeartbeats 1000000 in
theorem insN_any (x : Option Addr) (cap : Nat) (f : Value) (w : World) :
    Calls Try.prog 34 #[.slice x 0 cap, .int .i64 0, .int .i64 0, f] w fun e w' => e = .returned (.tuple #[]) ∧ w' = w := by
  go_enter Try.func34, Try.ntmps34
  go_wp2
  refine wp_loop_rounds 1 ?_
  rw [rounds_succ]
  go_wp2
  go_end0
  exact ⟨rfl, rfl⟩

set_option maxHeartbeats 1000000 in
theorem stableN_any (x : Option Addr) (cap : Nat) (f : Value) (w : World) :
    Calls Try.prog 31 #[.slice x 0 cap, .int .i64 0, f] w fun e w' => e = .returned (.tuple #[]) ∧ w' = w := by
  have HI := Lib.hid (insN_any x cap f)
  go_enter Try.func31, Try.ntmps31
  go_wp2
  refine wp_loop_rounds 1 ?_
  rw [rounds_succ]
  go_wp2_with (go_at_call 34; refine (HI.out _).mono ?_; rintro e w' ⟨rfl, rfl⟩)
  refine wp_loop_rounds 1 ?_
  rw [rounds_succ]
  go_wp2
  go_end0
  exact ⟨rfl, rfl⟩

set_option maxHeartbeats 1000000 in
theorem sortN_any (x : Option Addr) (cap : Nat) (f : Value) (w : World) :
    Calls Try.prog 23 #[.slice x 0 cap, f] w fun e w' => e = .returned (.tuple #[]) ∧ w' = w := by
  have HC := Lib.hid (stableN_any x cap f)
  go_enter Try.func23, Try.ntmps23
  go_wp2_with (go_at_call 31; refine (HC.out _).mono ?_; rintro e w' ⟨rfl, rfl⟩)
  go_end0
  exact ⟨rfl, rfl⟩

end Go.Proofs.Ytbdcpjpdonednaa
