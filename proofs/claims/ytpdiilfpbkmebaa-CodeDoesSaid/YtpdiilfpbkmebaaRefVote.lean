/-
  What the document's own answers of layer 13 come to (brackenref13: Put, Three, Cells): the same lists.
-/
import Derived.Test.YtpdiilfpbkmebaaCells
namespace Go.Proofs.Ytpdiilfpbkmebaa
open Go.RowKit

/-- Three numbers, made anew. -/
def trio (k : IntKind) (e : TypeId) (a b c : Int) : Obj := .cells #[.int k a, .int k b, .int k c] e
theorem src_trio (w : World) (k : IntKind) (e : TypeId) (a b c : Int) : Src k (w.alloc (trio k e a b c)) (some ⟨w.heap.size, 0, none⟩) 3 3 [a, b, c] := by
  refine ⟨rfl, .inr ⟨_, rfl, fun j hj => ?_⟩⟩
  unfold trio
  obtain rfl | rfl | rfl : j = 0 ∨ j = 1 ∨ j = 2 := by omega
  all_goals simp [Addr.add]
theorem reads_trio (w : World) (k : IntKind) (e : TypeId) (a b c : Int) : Reads k (w.alloc (trio k e a b c)) (w.alloc (trio k e a b c)).heap.size (some ⟨w.heap.size, 0, none⟩) [a, b, c] := fun _ => by
  refine ⟨w.heap.size, 0, rfl, by simp, fun j hj => ?_⟩
  unfold trio
  obtain rfl | rfl | rfl : j = 0 ∨ j = 1 ∨ j = 2 := by simp at hj; omega
  all_goals simp

theorem rput_many (x : Option Addr) (n cap : Nat) (w : World) (h : 1024 < n) :
    Calls Try.prog 34 #[.slice x n cap] w (RetP w [] 1) := by
  have hd : decide ((1024 : Int) < (n : Int)) = true := by simp; omega
  go_enter Try.func34, Try.ntmps34
  go_wp2
  go_ret2
  exact ⟨_, rfl, Owns.nil, Below.refl _ _⟩

set_option maxHeartbeats 2000000 in
theorem rput_ok (x : Option Addr) (n cap : Nat) (xs : List Int) (w : World) (hx : Reads .u64 w w.heap.size x xs) (hn : xs.length = n) (hl : n ≤ 1024) :
    Calls Try.prog 34 #[.slice x n cap] w (RetP w (thrice xs) 0) := by
  subst hn
  have hd : decide ((1024 : Int) < (xs.length : Int)) = false := by simp; omega
  have HX := Lib.hid hx
  obtain ⟨i0, hi, hz0, hz1, hz2⟩ := info_parts info_u64
  clear hx
  go_enter Try.func34, Try.ntmps34
  go_wp2
  go_loopw [4, 12] (fun v i wr => ∃ (k : Nat) (o : Value), k ≤ xs.length ∧ i = .int .i64 (k : Int) ∧ o = v ∧ Hid (Owns .u64 22 wr w.heap.size o (thrice (xs.take k)) ∧ Below w.heap.size w wr)) (fun _ i _ => xs.length - (intOf i).toNat)
  case atStart => exact ⟨0, _, Nat.zero_le _, rfl, rfl, Lib.hid ⟨Owns.nil, Below.refl _ _⟩⟩
  case round =>
    obtain ⟨k, o, hk, rfl, rfl, HI⟩ := hrel
    by_cases hlt : k < xs.length
    · obtain ⟨b, off, rfl, hb, hc⟩ := (HX.out.below HI.out.2) (by omega)
      have hcu := hc k hlt
      have hT := take_one xs k hlt
      obtain ⟨u, hu⟩ : ∃ u, u = xs.getD k 0 := ⟨_, rfl⟩
      rw [← hu] at hcu hT
      have HT : Hid (thrice (xs.take (k + 1)) = thrice (xs.take k) ++ [u, u, u]) := Lib.hid (by rw [hT, thrice_snoc])
      have HL : Hid ((thrice (xs.take k)).length ≤ 3072) := Lib.hid (by rw [thrice_len, List.length_take]; omega)
      have HS : Hid (w.heap.size ≤ wr.heap.size) := Lib.hid HI.out.2.size
      have HSr := Lib.hid (src_trio wr .u64 22 u u u)
      unfold trio at HSr
      clear hc hu hT
      go_wp2_with (at_builtin; refine wpList_append_num rfl _ _ 23 rfl w.heap.size 22 i0 .u64 8 Try.underlying23 hi hz0 hz1 hz2 o _ rfl (HI.out.1.alloc _) ⟨wr.heap.size, 0, none⟩ 3 3 [u, u, u] rfl HSr.out (by omega) (by have := HL.out; unfold maxLen; omega) (by have := HL.out; omega) (by have := HS.out; simp; omega) ?_; intro v' w3 hO3 hg3 hat3)
      have H3 : Hid (Owns .u64 22 w3 w.heap.size v' (thrice (xs.take (k + 1))) ∧ Below w.heap.size w w3) := Lib.hid ⟨by rw [HT.out]; exact hO3, (below_al HI.out.2 _).grown hg3 (by have := HS.out; simp; omega) (fun g e => HI.out.1.ownBlock g e)⟩
      clear hO3 hg3 hat3
      go_roundw
      case rel => exact ⟨k + 1, v', by omega, by go_num, rfl, H3⟩
      case measure => simp [intOf]; omega
    · have hke : xs.take k = xs := List.take_of_length_le (by omega)
      rw [hke] at HI
      clear HX
      go_wp2
      go_ret2
      exact ⟨_, rfl, HI.out.1, HI.out.2⟩

theorem rput_any (x : Option Addr) (n cap : Nat) (xs : List Int) (w : World) (hx : Reads .u64 w w.heap.size x xs) (hn : xs.length = n) :
    Calls Try.prog 34 #[.slice x n cap] w (RetP w (ptL xs) (ptE xs)) := by
  unfold ptL ptE
  by_cases h : 1024 < xs.length
  · rw [if_pos h, if_pos h]; exact rput_many x n cap w (by omega)
  · rw [if_neg h, if_neg h]; exact rput_ok x n cap xs w hx hn (by omega)

theorem rthree_len (x : Option Addr) (n cap : Nat) (w : World) (h : n ≠ 3) :
    Calls Try.prog 52 #[.slice x n cap] w (RetT w 0 [] 6) := by
  have hd : ((n : Int) != 3) = true := by rw [bne_iff_ne]; omega
  go_enter Try.func52, Try.ntmps52
  go_wp2
  go_ret3
  exact ⟨_, _, rfl, Owns.nil, Below.refl _ _⟩

theorem one_place (w : World) (q : Nat) (u : Int) : Owns .i64 3 ((w.drewN q).alloc (.cells #[.int .i64 u] 3)) w.heap.size (.slice (some ⟨w.heap.size, 0, none⟩) 1 1) [u] := owns_one (w.drewN q) .i64 3 u w.heap.size (Nat.le_refl _)
theorem one_below (w : World) (q : Nat) (u : Int) : Below w.heap.size w ((w.drewN q).alloc (.cells #[.int .i64 u] 3)) := below_al (draws_below _ _ _) _

set_option maxHeartbeats 2000000 in
theorem rthree_ok (b off cap : Nat) (p q r : Int) (w : World) (h0 : w.cell? ⟨b, off, none⟩ = some (.int .u64 p)) (h1 : w.cell? ⟨b, off + 1, none⟩ = some (.int .u64 q)) (h2 : w.cell? ⟨b, off + 2, none⟩ = some (.int .u64 r)) :
    Calls Try.prog 52 #[.slice (some ⟨b, off, none⟩) 3 cap] w (RetT w (t3 p q r) (p3 p q r) (e3 p q r)) := by
  have HO := Lib.hid (fun n u => one_place w n u)
  have HB := Lib.hid (fun n u => one_below w n u)
  by_cases hpq : p = q
  · have t1 : (p == q) = true := by simpa using hpq
    by_cases hqr : q = r
    · have t2 : (q == r) = true := by simpa using hqr
      have HR : Hid (t3 p q r = p ∧ p3 p q r = [] ∧ e3 p q r = 0) := Lib.hid ⟨by unfold t3; rw [if_pos hqr, hpq], by unfold p3; rw [if_pos hqr, if_pos hpq], by unfold e3; rw [if_pos hqr]⟩
      clear hpq hqr
      go_enter Try.func52, Try.ntmps52
      go_wp2
      go_quiet (fail)
      go_wp2
      go_ret3
      rw [HR.out.1, HR.out.2.1, HR.out.2.2]
      exact ⟨_, _, rfl, Owns.nil, draws_below _ _ _⟩
    · have t2 : (q == r) = false := by simpa using hqr
      have hpr : ¬ r = p := fun e => hqr (by rw [e, hpq])
      have t3' : (p == r) = false := by simpa using fun e => hpr e.symm
      have HR : Hid (t3 p q r = p ∧ p3 p q r = [2] ∧ e3 p q r = 0) := Lib.hid ⟨by unfold t3; rw [if_neg hqr, if_neg hpr, if_pos hpq], by unfold p3; rw [if_neg hqr, if_neg hpr, if_pos hpq], by unfold e3; rw [if_neg hqr, if_neg hpr, if_pos hpq]⟩
      clear hpq hqr hpr
      go_enter Try.func52, Try.ntmps52
      go_wp2
      go_quiet (fail)
      go_wp2
      go_quiet (fail)
      go_wp2
      go_quiet (fail)
      go_wp2
      go_quiet (fail)
      go_wp2
      go_ret3
      rw [HR.out.1, HR.out.2.1, HR.out.2.2]
      exact ⟨_, _, rfl, HO.out _ 2, HB.out _ 2⟩
  · have t1 : (p == q) = false := by simpa using hpq
    by_cases hqr : q = r
    · have t2 : (q == r) = true := by simpa using hqr
      have HR : Hid (t3 p q r = q ∧ p3 p q r = [0] ∧ e3 p q r = 0) := Lib.hid ⟨by unfold t3; rw [if_pos hqr], by unfold p3; rw [if_pos hqr, if_neg hpq], by unfold e3; rw [if_pos hqr]⟩
      clear hpq hqr
      go_enter Try.func52, Try.ntmps52
      go_wp2
      go_quiet (fail)
      go_wp2
      go_quiet (fail)
      go_wp2
      go_ret3
      rw [HR.out.1, HR.out.2.1, HR.out.2.2]
      exact ⟨_, _, rfl, HO.out _ 0, HB.out _ 0⟩
    · have t2 : (q == r) = false := by simpa using hqr
      by_cases hpr : r = p
      · have t3' : (p == r) = true := by simpa using hpr.symm
        have HR : Hid (t3 p q r = p ∧ p3 p q r = [1] ∧ e3 p q r = 0) := Lib.hid ⟨by unfold t3; rw [if_neg hqr, if_pos hpr, hpr], by unfold p3; rw [if_neg hqr, if_pos hpr], by unfold e3; rw [if_neg hqr, if_pos hpr]⟩
        clear hpq hqr hpr
        go_enter Try.func52, Try.ntmps52
        go_wp2
        go_quiet (fail)
        go_wp2
        go_quiet (fail)
        go_wp2
        go_quiet (fail)
        go_wp2
        go_ret3
        rw [HR.out.1, HR.out.2.1, HR.out.2.2]
        exact ⟨_, _, rfl, HO.out _ 1, HB.out _ 1⟩
      · have t3' : (p == r) = false := by simpa using fun e => hpr e.symm
        have HR : Hid (t3 p q r = 0 ∧ p3 p q r = [] ∧ e3 p q r = 10) := Lib.hid ⟨by unfold t3; rw [if_neg hqr, if_neg hpr, if_neg hpq], by unfold p3; rw [if_neg hqr, if_neg hpr, if_neg hpq], by unfold e3; rw [if_neg hqr, if_neg hpr, if_neg hpq]⟩
        clear hpq hqr hpr
        go_enter Try.func52, Try.ntmps52
        go_wp2
        go_quiet (fail)
        go_wp2
        go_quiet (fail)
        go_wp2
        go_quiet (fail)
        go_wp2
        go_quiet (fail)
        go_wp2
        go_ret3
        rw [HR.out.1, HR.out.2.1, HR.out.2.2]
        exact ⟨_, _, rfl, Owns.nil, rfl, rfl, rfl, Nat.le_refl _, fun _ _ => rfl⟩

theorem rthree_any (x : Option Addr) (n cap : Nat) (xs : List Int) (w : World) (B : Nat) (hx : Reads .u64 w B x xs) (hn : xs.length = n) :
    Calls Try.prog 52 #[.slice x n cap] w (RetT w (thW xs) (thP xs) (thE xs)) := by
  unfold thW thP thE
  by_cases h : xs.length = 3
  · obtain rfl : n = 3 := by omega
    rw [if_neg (by omega), if_neg (by omega), if_neg (by omega)]
    obtain ⟨b, off, rfl, hb, hc⟩ := hx (by omega)
    exact rthree_ok b off cap _ _ _ w (hc 0 (by omega)) (hc 1 (by omega)) (hc 2 (by omega))
  · rw [if_pos h, if_pos h, if_pos h]
    exact rthree_len x n cap w (by omega)

end Go.Proofs.Ytpdiilfpbkmebaa
