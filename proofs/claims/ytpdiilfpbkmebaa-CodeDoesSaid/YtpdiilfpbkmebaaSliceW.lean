/-
  What the library's functions on slices of words come to: slices.Equal, slices.IndexFunc (whatever function value), slices.Grow of nothing, slices.Concat of two.
-/
import Derived.Test.YtpdiilfpbkmebaaSameW
import Derived.Test.YtpdiilfpbkmebaaOwnTwo
import Derived.Test.YtpdiilfpbkmebaaCloneW
import Derived.Shelf.Abstract
import Derived.Lib.AppendZerosOnto
import Derived.Lib.SliceRun
import Derived.Lib.AppendZeros
import Derived.OwnWalk
namespace Go.Proofs.Ytpdiilfpbkmebaa
open Go.RowKit Go.Shelf

/-- A row that came in, or one of the call's own, as a source of append. -/
theorem Reads.toSrc {k : IntKind} {w : World} {B : Nat} {x : Option Addr} {n cap : Nat} {xs : List Int} (h : Reads k w B x xs) (hn : xs.length = n) (h0 : 0 < n) : Src k w x n cap xs := by
  obtain ⟨b, off, rfl, -, hc⟩ := h (by omega)
  refine ⟨hn, .inr ⟨_, rfl, fun j hj => ?_⟩⟩
  have ea : (⟨b, off, none⟩ : Addr).add j = ⟨b, off + j, none⟩ := by cases j <;> simp [Addr.add]
  rw [ea]
  exact hc j (by omega)

set_option maxHeartbeats 1000000 in
theorem equalW_any (x y : Option Addr) (n m cap cap' : Nat) (xs ys : List Int) (w : World) (B : Nat) (hx : Reads .u64 w B x xs) (hy : Reads .u64 w B y ys) (hn : xs.length = n) (hm : ys.length = m) (hl : n ≤ 140737488355328) (hl' : m ≤ 140737488355328) :
    Calls Try.prog 36 #[.slice x n cap, .slice y m cap'] w (RetQ (.bool (decide (xs = ys))) w) := by
  subst hn
  subst hm
  have HX := Lib.hid hx; clear hx
  have HY := Lib.hid hy; clear hy
  by_cases hnm : xs.length = ys.length
  · have t : ((xs.length : Int) != (ys.length : Int)) = false := by rw [hnm]; simp
    have HN := Lib.hid hnm; clear hnm
    go_enter Try.func36, Try.ntmps36
    go_wp2
    go_loopw [13] (fun i wr => ∃ k q : Nat, k ≤ xs.length ∧ i = .int .i64 k ∧ wr = w.drewN q ∧ Hid (∀ j, j < k → xs.getD j 0 = ys.getD j 0)) (fun i _ => xs.length - (intOf i).toNat)
    case atStart => exact ⟨0, 0, Nat.zero_le _, rfl, rfl, Lib.hid (fun j hj => by omega)⟩
    case round =>
      obtain ⟨k, q, hk, rfl, rfl, HA⟩ := hrel
      by_cases hlt : k < xs.length
      · have hlt' : k < ys.length := by have := HN.out; omega
        obtain ⟨b, off, rfl, hb, hc⟩ := HX.out (by omega)
        obtain ⟨b', off', rfl, hb', hc'⟩ := HY.out (by omega)
        have c1 := hc k hlt
        have c2 := hc' k hlt'
        obtain ⟨u, hu⟩ : ∃ u, u = xs.getD k 0 := ⟨_, rfl⟩
        obtain ⟨v, hv⟩ : ∃ v, v = ys.getD k 0 := ⟨_, rfl⟩
        rw [← hu] at c1
        rw [← hv] at c2
        by_cases he : u = v
        · have t2 : (u != v) = false := by rw [he]; simp
          have HA' : Hid (∀ j, j < k + 1 → xs.getD j 0 = ys.getD j 0) := Lib.hid (fun j hj => by
            by_cases e : j = k
            · rw [e, ← hu, ← hv]; exact he
            · exact HA.out j (by omega))
          clear he hu hv hc hc' HX HY
          go_wp2
          go_quiet (fail)
          go_wp2
          go_roundw
          case rel => exact ⟨k + 1, _, by omega, by go_num, rfl, HA'⟩
          case measure => simp [intOf]; omega
        · have t2 : (u != v) = true := by rw [bne_iff_ne]; exact he
          have HE : Hid (decide (xs = ys) = false) := Lib.hid (decide_eq_false (fun e => he (by rw [hu, hv, e])))
          clear he hu hv hc hc' HX HY
          go_wp2
          go_quiet (fail)
          go_wp2
          go_ret
          exact ⟨ret_b HE.out.symm, q + nq, by rw [World.drewN_drewN]⟩
      · have HE : Hid (decide (xs = ys) = true) := Lib.hid (decide_eq_true (by
          apply List.ext_getElem HN.out
          intro j h1 h2
          have := HA.out j (by omega)
          simpa [h1, h2] using this))
        clear HX HY
        go_wp2
        go_ret
        exact ⟨ret_b HE.out.symm, _, rfl⟩
  · have t : ((xs.length : Int) != (ys.length : Int)) = true := by rw [bne_iff_ne]; omega
    have HE : Hid (decide (xs = ys) = false) := Lib.hid (decide_eq_false (fun e => hnm (by rw [e])))
    clear hnm
    go_enter Try.func36, Try.ntmps36
    go_wp2
    go_ret
    exact ⟨ret_b HE.out.symm, 0, rfl⟩

/-- What IndexFunc returns: the place of one that is asked for, or -1. -/
def RetIdx (w : World) (n : Nat) (f : Nat → Bool) (e : Ending) (w' : World) : Prop :=
  ∃ s : Int, e = .returned (.int .i64 s) ∧ ((∃ k : Nat, k < n ∧ s = (k : Int) ∧ f k = true) ∨ (s = -1 ∧ ∀ k : Nat, k < n → f k = false)) ∧ Below w.heap.size w w'

set_option maxHeartbeats 2000000 in
theorem indexW_any (fid : FuncId) (lb : Array Value) (hE : ∀ args W, (callFunc fid args).run Try.prog W = .ok (.enter fid args) W) (x : Option Addr) (n cap : Nat) (xs : List Int) (f : Nat → Bool) (w : World) (hx : Reads .u64 w w.heap.size x xs) (hn : xs.length = n) (hl : n ≤ 140737488355328)
    (hC : ∀ W, Below w.heap.size w W → ∀ k : Nat, k < n → Calls Try.prog fid (#[.int .u64 (xs.getD k 0)] ++ lb) W (RetB (.bool (f k)) W)) :
    Calls Try.prog 56 #[.slice x n cap, .func (.func fid) #[] lb] w (RetIdx w n f) := by
  subst hn
  have HX := Lib.hid hx; clear hx
  have HC := Lib.hid hC; clear hC
  go_enter Try.func56, Try.ntmps56
  go_wp2
  go_loopw [8] (fun i wr => ∃ k : Nat, k ≤ xs.length ∧ i = .int .i64 (k : Int) ∧ Hid (Below w.heap.size w wr ∧ ∀ j, j < k → f j = false)) (fun i _ => xs.length - (intOf i).toNat)
  case atStart => exact ⟨0, Nat.zero_le _, rfl, Lib.hid ⟨Below.refl _ _, fun j hj => by omega⟩⟩
  case round =>
    obtain ⟨k, hk, rfl, HI⟩ := hrel
    by_cases hlt : k < xs.length
    · have hdk : decide (k < xs.length) = true := by simpa using hlt
      obtain ⟨b, off, rfl, hb, hc⟩ := HX.out (by omega)
      have c1 := (HI.out.1.cell (p := ⟨b, off + k, none⟩) hb).trans (hc k hlt)
      have HC1 := Lib.hid (fun W hW => HC.out W hW k hlt)
      obtain ⟨u, hu⟩ : ∃ u, u = xs.getD k 0 := ⟨_, rfl⟩
      rw [← hu] at c1 HC1
      clear hc hu
      cases hf : f k
      · rw [hf] at HC1
        have HF := Lib.hid hf; clear hf
        go_wp2_with (go_at_fn fid; refine (HC1.out _ HI.out.1).mono ?_; rintro e w' ⟨rfl, hB⟩)
        go_roundw
        case rel => exact ⟨k + 1, by omega, by go_num, Lib.hid ⟨HI.out.1.trans (hB.mono HI.out.1.size), fun j hj => by
          by_cases e : j = k
          · rw [e]; exact HF.out
          · exact HI.out.2 j (by omega)⟩⟩
        case measure => simp [intOf]; omega
      · rw [hf] at HC1
        have HF := Lib.hid hf; clear hf
        go_wp2_with (go_at_fn fid; refine (HC1.out _ HI.out.1).mono ?_; rintro e w' ⟨rfl, hB⟩)
        go_ret
        exact ⟨_, rfl, .inl ⟨k, hlt, rfl, HF.out⟩, HI.out.1.trans (hB.mono HI.out.1.size)⟩
    · obtain rfl : k = xs.length := by omega
      have hdk : decide (xs.length < xs.length) = false := by simp
      go_wp2
      go_ret
      exact ⟨_, rfl, .inr ⟨rfl, HI.out.2⟩, HI.out.1⟩

/-- What a call returns that makes a row of words. -/
def RetL1 (w : World) (xs : List Int) (e : Ending) (w' : World) : Prop := ∃ v, e = .returned v ∧ Owns .u64 22 w' w.heap.size v xs ∧ Below w.heap.size w w'

set_option maxHeartbeats 2000000 in
theorem growW_nil (n : Nat) (w : World) (h0 : 0 < n) (hl : n ≤ 17592186044416) :
    Calls Try.prog 46 #[.slice none 0 0, .int .i64 (n : Int)] w (RetL1 w []) := by
  obtain ⟨i0, hi, hz0, hz1, hz2⟩ := info_parts info_u64
  have h63 : ((0 + n : Nat) : Int) ≤ 9223372036854775807 := by omega
  have hrz := fun ty => Lib.run_append_grow_zeros w 23 3 ty 22 i0 (.int .u64 0) .i64 .i64 Try.underlying23 Try.underlying3 hi hz0 none 0 0 [] (run_firstCells_none w.drew i0.size 0 0 0) n h0 (by omega) (by omega) h63 (by rw [hz2]; omega) (by rw [hz2]; exact growslice_fits (by omega) (by omega))
  obtain ⟨G, hG⟩ : ∃ G, G = grownCap w (0 + n) 0 22 := ⟨_, rfl⟩
  have hGn : 0 + n ≤ G := by rw [hG]; exact grownCap_ge w _ _ _
  have hGm : G ≤ maxLen := by rw [hG]; exact grownCap_le_maxLen w _ _ _ (by unfold maxLen; omega)
  have hG63 : G ≤ 9223372036854775807 := hGm
  rw [← hG] at hrz
  obtain ⟨cs, hcs⟩ : ∃ cs, cs = ([] : List Value).toArray ++ Builtin.zeroCells (Value.int IntKind.u64 0).cells n ++ Builtin.zeroCells (Value.int IntKind.u64 0).cells (G - (0 + n)) := ⟨_, rfl⟩
  have hsz : cs.size = G * 1 := by
    rw [hcs, Array.size_append, Array.size_append, size_zeroCells, size_zeroCells]
    show 0 + n * 1 + (G - (0 + n)) * 1 = G * 1
    omega
  rw [← hcs] at hrz
  have HO : Hid (Owns .u64 22 (w.drew.alloc (.cells cs 22)) w.heap.size (.slice (some ⟨w.heap.size, 0, none⟩) 0 G) []) :=
    Lib.hid ⟨rfl, .inr ⟨w.heap.size, G, cs, rfl, Nat.le_refl _, World.alloc_heap_new w.drew _, Nat.zero_le _, hGm, hsz, rfl⟩⟩
  have HB : Hid (Below w.heap.size w (w.drew.alloc (.cells cs 22))) := Lib.hid ((Below.refl _ w).drew.alloc (Nat.le_refl _) _)
  have hz : (0 : Int) + (n : Int) = (n : Int) := by omega
  simp only [Nat.zero_add] at hrz hGn
  clear hG hcs hsz h63 hGm
  go_enter Try.func46, Try.ntmps46
  go_wp2_with (at_builtin; refine Lib.wpList_append_run _ rfl _ _ _ _ rfl _ _ rfl rfl _ _ (hrz _) ?_)
  go_ret
  exact ⟨_, rfl, HO.out, HB.out⟩

set_option maxRecDepth 100000 in
set_option maxHeartbeats 4000000 in
/-- Two rows, one behind the other. -/
theorem concatW_any (B c n1 c1 n2 c2 : Nat) (x1 x2 : Option Addr) (xs ys : List Int) (w : World) (h1 : w.cell? ⟨B, 0, none⟩ = some (.slice x1 n1 c1)) (h2 : w.cell? ⟨B, 1, none⟩ = some (.slice x2 n2 c2))
    (s1 : Src .u64 w x1 n1 c1 xs) (s2 : Src .u64 w x2 n2 c2 ys) (h0 : 0 < n1) (l1 : n1 ≤ 1048576) (l2 : n2 ≤ 1048576) :
    Calls Try.prog 32 #[.slice (some ⟨B, 0, none⟩) 2 c] w (RetL1 w (xs ++ ys)) := by
  obtain ⟨i0, hi, hz0, hz1, hz2⟩ := info_parts info_u64
  have HG := Lib.hid (growW_nil (n1 + n2) w (by omega) (by omega))
  have hB := World.block_lt_of_cell? _ _ h1
  have HC : Hid (∀ W, Below w.heap.size w W → W.cell? ⟨B, 0, none⟩ = some (.slice x1 n1 c1) ∧ W.cell? ⟨B, 1, none⟩ = some (.slice x2 n2 c2)) := Lib.hid (fun W hW => ⟨(hW.cell (p := ⟨B, 0, none⟩) hB).trans h1, (hW.cell (p := ⟨B, 1, none⟩) hB).trans h2⟩)
  have HS1 := Lib.hid s1
  have HS2 := Lib.hid s2
  have hz : (n1 : Int) + (n2 : Int) = ((n1 + n2 : Nat) : Int) := by omega
  obtain ⟨N, hN⟩ : ∃ N, N = n1 + n2 := ⟨_, rfl⟩
  rw [← hN] at HG hz
  have hNb : N ≤ 2097152 := by omega
  have HL1 : Hid (xs.length = n1) := Lib.hid s1.1
  have HL2 : Hid (ys.length = n2) := Lib.hid s2.1
  have HSK := Lib.hid (fun W (hW : Below w.heap.size w W) => And.intro (HS1.out.keep hW) (HS2.out.keep hW))
  clear s1 s2 hN hB
  go_enter Try.func32, Try.ntmps32
  go_wp2
  refine wp_loop_rounds 3 ?_
  rw [rounds_succ]
  go_wp2
  rw [rounds_succ]
  go_wp2
  rw [rounds_succ]
  go_wp2_with (go_at_call 46; refine HG.out.mono ?_; rintro e w2 ⟨v2, rfl, hO2, hB2⟩; have O2 := Lib.hid hO2; have B2 := Lib.hid hB2; have k1 := (HC.out _ hB2).1; clear hO2 hB2 HG)
  refine wp_loop_rounds 3 ?_
  rw [rounds_succ]
  go_wp2_with (at_builtin; refine wpList_append_list rfl _ _ 23 rfl w.heap.size 22 i0 .u64 8 Try.underlying23 hi hz0 hz1 hz2 v2 [] rfl O2.out x1 n1 c1 xs rfl (HSK.out _ B2.out).1 (by simp [maxLen]; omega) (by simp; omega) B2.out.size ?_; intro v3 w3 hO3 hg3; have B3 := Lib.hid (B2.out.grown hg3 B2.out.size (fun g e => O2.out.ownBlock g e)); have O3 := Lib.hid hO3; have k2 := (HC.out _ B3.out).2; clear hO3 hg3 k1)
  rw [rounds_succ]
  go_wp2_with (at_builtin; refine wpList_append_list rfl _ _ 23 rfl w.heap.size 22 i0 .u64 8 Try.underlying23 hi hz0 hz1 hz2 v3 _ rfl O3.out x2 n2 c2 ys rfl (HSK.out _ B3.out).2 (by have := HL1.out; simp [maxLen]; omega) (by have := HL1.out; simp; omega) B3.out.size ?_; intro v4 w4 hO4 hg4; have B4 := Lib.hid (B3.out.grown hg4 B3.out.size (fun g e => O3.out.ownBlock g e)); have O4 := Lib.hid hO4; clear hO4 hg4 k2)
  rw [rounds_succ]
  go_wp2
  go_ret
  refine ⟨_, rfl, ?_, B4.out⟩
  have := O4.out
  rwa [List.nil_append] at this

end Go.Proofs.Ytpdiilfpbkmebaa
