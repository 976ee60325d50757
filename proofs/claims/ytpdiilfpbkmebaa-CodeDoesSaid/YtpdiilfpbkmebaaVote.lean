/-
  What package vote comes to: Put, Three, Cells.
-/
import Derived.Test.YtpdiilfpbkmebaaMathVote
import Derived.Test.YtpdiilfpbkmebaaLate
import Derived.Test.YtpdiilfpbkmebaaSameW
import Derived.BigRegion
import Derived.OwnWalk
namespace Go.Proofs.Ytpdiilfpbkmebaa
open Go.RowKit

/-- What a call returns that makes a list of words, or tells why not. -/
def RetP (w : World) (xs : List Int) (er : Int) (e : Ending) (w' : World) : Prop :=
  ∃ v, e = .returned (.tuple #[v, .int .i64 er]) ∧ Owns .u64 22 w' w.heap.size v xs ∧ Below w.heap.size w w'

/-- What a call returns that tells a word, places, or why not. -/
def RetT (w : World) (u : Int) (ps : List Int) (er : Int) (e : Ending) (w' : World) : Prop :=
  ∃ x cap, e = .returned (.tuple #[.int .u64 u, .slice x ps.length cap, .int .i64 er]) ∧ Owns .i64 3 w' w.heap.size (.slice x ps.length cap) ps ∧ Below w.heap.size w w'

/-- What a call returns that makes a list of words and one of fixes, or tells why not. -/
def RetC (w : World) (xs : List Int) (fs : List Fx) (er : Int) (e : Ending) (w' : World) : Prop :=
  ∃ v1 v2, e = .returned (.tuple #[v1, v2, .int .i64 er]) ∧ Beside w w' v1 v2 xs fs

theorem put_many (x : Option Addr) (n cap : Nat) (w : World) (h : 1024 < n) :
    Calls Try.prog 31 #[.slice x n cap] w (RetP w [] 1) := by
  have hd : decide ((1024 : Int) < (n : Int)) = true := by simp; omega
  go_enter Try.func31, Try.ntmps31
  go_wp2
  go_ret2
  exact ⟨_, rfl, Owns.nil, Below.refl _ _⟩

set_option maxHeartbeats 2000000 in
theorem put_ok (x : Option Addr) (n cap : Nat) (xs : List Int) (w : World) (hx : Reads .u64 w w.heap.size x xs) (hn : xs.length = n) (hl : n ≤ 1024) :
    Calls Try.prog 31 #[.slice x n cap] w (RetP w (thrice xs) 0) := by
  subst hn
  have hd : decide ((1024 : Int) < (xs.length : Int)) = false := by simp; omega
  have HX := Lib.hid hx
  obtain ⟨i0, hi, hz0, hz1, hz2⟩ := info_parts info_u64
  clear hx
  go_enter Try.func31, Try.ntmps31
  go_wp2_with (refine wpList_make_own _ rfl _ _ 23 rfl w.heap.size 22 i0 (.int .u64 0) 1 Try.underlying23 hi hz0 hz1 .i64 .i64 _ (3 * xs.length) rfl rfl (by omega) (by rw [hz2]; omega) (by unfold maxLen; omega) (Nat.le_refl _) ?_; intro w1 hO1 hg1)
  have HO1 : Hid (Owns .u64 22 w1 w.heap.size (.slice (some ⟨w.heap.size, 0, none⟩) 0 (3 * xs.length)) [] ∧ Below w.heap.size w w1) := Lib.hid ⟨hO1, (Below.refl _ _).grown hg1 (Nat.le_refl _) (fun g e => by cases e)⟩
  clear hO1 hg1
  go_loopw [4, 16] (fun v i wr => ∃ (k : Nat) (o : Value), k ≤ xs.length ∧ i = .int .i64 (k : Int) ∧ o = v ∧ Hid (Owns .u64 22 wr w.heap.size o (thrice (xs.take k)) ∧ Below w.heap.size w wr)) (fun _ i _ => xs.length - (intOf i).toNat)
  case atStart => exact ⟨0, _, Nat.zero_le _, rfl, rfl, HO1⟩
  case round =>
    obtain ⟨k, o, hk, rfl, rfl, HI⟩ := hrel
    clear HO1
    by_cases hlt : k < xs.length
    · have hdk : decide (k < xs.length) = true := by simpa using hlt
      obtain ⟨b, off, rfl, hb, hc⟩ := (HX.out.below HI.out.2) (by omega)
      have hcu := hc k hlt
      have hT := take_one xs k hlt
      obtain ⟨u, hu⟩ : ∃ u, u = xs.getD k 0 := ⟨_, rfl⟩
      rw [← hu] at hcu hT
      have HT : Hid (thrice (xs.take (k + 1)) = thrice (xs.take k) ++ List.replicate 3 u) := Lib.hid (by rw [hT, thrice_snoc]; rfl)
      have HL : Hid ((thrice (xs.take k)).length ≤ 3072) := Lib.hid (by rw [thrice_len, List.length_take]; omega)
      obtain ⟨ys, hys⟩ : ∃ ys, ys = thrice (xs.take k) := ⟨_, rfl⟩
      rw [← hys] at HI HT HL
      have HS : Hid (w.heap.size ≤ wr.heap.size) := Lib.hid HI.out.2.size
      clear hc hu hT hys
      go_wp2
      go_loopw [4, 20] (fun v j wi => ∃ (q : Nat) (o2 : Value), q ≤ 3 ∧ j = .int .i64 (q : Int) ∧ o2 = v ∧ Hid (Owns .u64 22 wi w.heap.size o2 (ys ++ List.replicate q u) ∧ Below w.heap.size w wi)) (fun _ j _ => 3 - (intOf j).toNat)
      case atStart => exact ⟨0, _, Nat.zero_le _, rfl, rfl, Lib.hid (by simpa using HI.out)⟩
      case round =>
        obtain ⟨q, o2, hq, rfl, rfl, HJ⟩ := hrel
        clear HI
        by_cases hlq : q < 3
        · have hs2 : Hid (w.heap.size ≤ wr.heap.size) := Lib.hid HJ.out.2.size
          go_wp2_with (at_builtin; refine wpList_append_num rfl _ _ 23 rfl w.heap.size 22 i0 .u64 8 Try.underlying23 hi hz0 hz1 hz2 o2 _ rfl (HJ.out.1.alloc _) ⟨wr.heap.size, 0, none⟩ 1 1 [u] rfl (src_one wr .u64 22 u) (by omega) (by have := HL.out; simp; unfold maxLen; omega) (by have := HL.out; simp; omega) (by have := hs2.out; simp; omega) ?_; intro v' w3 hO3 hg3 hat3)
          have H3 : Hid (Owns .u64 22 w3 w.heap.size v' (ys ++ List.replicate (q + 1) u) ∧ Below w.heap.size w w3) := Lib.hid ⟨by rw [List.replicate_succ', ← List.append_assoc]; exact hO3, (below_al HJ.out.2 _).grown hg3 (by have := hs2.out; simp; omega) (fun g e => HJ.out.1.ownBlock g e)⟩
          clear hO3 hg3 hat3
          go_roundw
          case rel => exact ⟨q + 1, v', by omega, by go_num, rfl, H3⟩
          case measure => simp [intOf]; omega
        · obtain rfl : q = 3 := by omega
          go_wp2
          go_roundw
          case rel => exact ⟨k + 1, o2, by omega, by go_num, rfl, Lib.hid (by rw [HT.out]; exact HJ.out)⟩
          case measure => simp [intOf]; omega
    · have hdk : decide (k < xs.length) = false := by simpa using hlt
      have hke : xs.take k = xs := List.take_of_length_le (by omega)
      rw [hke] at HI
      clear HX
      go_wp2
      go_ret2
      exact ⟨_, rfl, HI.out.1, HI.out.2⟩

/-- Put, of whatever words. -/
theorem put_any (x : Option Addr) (n cap : Nat) (xs : List Int) (w : World) (hx : Reads .u64 w w.heap.size x xs) (hn : xs.length = n) :
    Calls Try.prog 31 #[.slice x n cap] w (RetP w (ptL xs) (ptE xs)) := by
  unfold ptL ptE
  by_cases h : 1024 < xs.length
  · rw [if_pos h, if_pos h]; exact put_many x n cap w (by omega)
  · rw [if_neg h, if_neg h]; exact put_ok x n cap xs w hx hn (by omega)

theorem three_len (x : Option Addr) (n cap : Nat) (w : World) (h : n ≠ 3) :
    Calls Try.prog 47 #[.slice x n cap] w (RetT w 0 [] 6) := by
  have hd : ((n : Int) != 3) = true := by rw [bne_iff_ne]; omega
  go_enter Try.func47, Try.ntmps47
  go_wp2
  go_ret3
  exact ⟨_, _, rfl, Owns.nil, Below.refl _ _⟩

/-- The array, before anything is in it. -/
def noughts : Obj := .cells #[.int .u64 0, .int .u64 0, .int .u64 0] 71

set_option maxHeartbeats 2000000 in
theorem three_ok (b off cap : Nat) (p q r : Int) (w : World) (h0 : w.cell? ⟨b, off, none⟩ = some (.int .u64 p)) (h1 : w.cell? ⟨b, off + 1, none⟩ = some (.int .u64 q)) (h2 : w.cell? ⟨b, off + 2, none⟩ = some (.int .u64 r)) :
    Calls Try.prog 47 #[.slice (some ⟨b, off, none⟩) 3 cap] w (RetT w (t3 p q r) (p3 p q r) (e3 p q r)) := by
  have hb : b < w.heap.size := World.block_lt_of_cell? _ _ h0
  have hB := below_al (Below.refl _ w) noughts
  have k0 := (hB.cell (p := ⟨b, off, none⟩) hb).trans h0
  have k1 := (hB.cell (p := ⟨b, off + 1, none⟩) hb).trans h1
  have k2 := (hB.cell (p := ⟨b, off + 2, none⟩) hb).trans h2
  unfold noughts at k0 k1 k2
  clear hB hb
  go_enter Try.func47, Try.ntmps47
  go_wp2
  go_region
  obtain ⟨wA, hA⟩ : ∃ wA, wA = (w.alloc (.cells #[.int .u64 p, .int .u64 q, .int .u64 r] 71)).drew := ⟨_, rfl⟩
  rw [← hA]
  have g0 : wA.cell? ⟨w.heap.size, 0, none⟩ = some (.int .u64 p) := by rw [hA]; simp
  have g1 : wA.cell? ⟨w.heap.size, 1, none⟩ = some (.int .u64 q) := by rw [hA]; simp
  have g2 : wA.cell? ⟨w.heap.size, 2, none⟩ = some (.int .u64 r) := by rw [hA]; simp
  have HB : Hid (Below w.heap.size w wA) := Lib.hid (by rw [hA]; exact (below_al (Below.refl _ w) _).drew)
  have HO : Hid (∀ u : Int, Owns .i64 3 (wA.alloc (.cells #[.int .i64 u] 3)) w.heap.size (.slice (some ⟨wA.heap.size, 0, none⟩) 1 1) [u]) := Lib.hid (fun u => owns_one wA .i64 3 u w.heap.size HB.out.size)
  clear hA k0 k1 k2 h0 h1 h2
  go_wp2
  go_loopw [21] (fun i wr => ∃ k : Int, i = .int .i64 k ∧ wr = wA ∧ Hid (k = 0 ∨ (k = 1 ∧ q ≠ r) ∨ (k = 2 ∧ q ≠ r ∧ r ≠ p) ∨ (k = 3 ∧ q ≠ r ∧ r ≠ p ∧ p ≠ q))) (fun i _ => 3 - (intOf i).toNat)
  case atStart => exact ⟨0, rfl, rfl, Lib.hid (.inl rfl)⟩
  case round =>
    obtain ⟨k, rfl, rfl, HK⟩ := hrel
    obtain rfl | ⟨rfl, hqr⟩ | ⟨rfl, hqr, hrp⟩ | ⟨rfl, hqr, hrp, hpq⟩ := HK.out
    · clear HK
      by_cases hqr : q = r
      · have t1 : (q != r) = false := by rw [hqr]; simp
        by_cases hpq : p = q
        · have t2 : (p == q) = true := by rw [hpq]; simp
          have HR : Hid (t3 p q r = q ∧ p3 p q r = [] ∧ e3 p q r = 0) := Lib.hid ⟨by unfold t3; rw [if_pos hqr], by unfold p3; rw [if_pos hqr, if_pos hpq], by unfold e3; rw [if_pos hqr]⟩
          clear hqr hpq
          go_wp2
          go_ret3
          rw [HR.out.1, HR.out.2.1, HR.out.2.2]
          exact ⟨_, _, rfl, Owns.nil, HB.out⟩
        · have t2 : (p == q) = false := by simpa using hpq
          have HR : Hid (t3 p q r = q ∧ p3 p q r = [0] ∧ e3 p q r = 0) := Lib.hid ⟨by unfold t3; rw [if_pos hqr], by unfold p3; rw [if_pos hqr, if_neg hpq], by unfold e3; rw [if_pos hqr]⟩
          clear hqr hpq
          go_wp2
          go_ret3
          rw [HR.out.1, HR.out.2.1, HR.out.2.2]
          exact ⟨_, _, rfl, HO.out 0, below_al HB.out _⟩
      · have t1 : (q != r) = true := by rw [bne_iff_ne]; exact hqr
        have HQ := Lib.hid hqr
        clear hqr
        go_wp2
        go_roundw
        case rel => exact ⟨1, by go_num, by first | rfl | trivial, Lib.hid (.inr (.inl ⟨by first | rfl | trivial, HQ.out⟩))⟩
        case measure => simp [intOf]
    · clear HK
      by_cases hrp : r = p
      · have t1 : (r != p) = false := by rw [hrp]; simp
        have t2 : (q == r) = false := by simpa using hqr
        have HR : Hid (t3 p q r = r ∧ p3 p q r = [1] ∧ e3 p q r = 0) := Lib.hid ⟨by unfold t3; rw [if_neg hqr, if_pos hrp], by unfold p3; rw [if_neg hqr, if_pos hrp], by unfold e3; rw [if_neg hqr, if_pos hrp]⟩
        clear hqr hrp
        go_wp2
        go_ret3
        rw [HR.out.1, HR.out.2.1, HR.out.2.2]
        exact ⟨_, _, rfl, HO.out 1, below_al HB.out _⟩
      · have t1 : (r != p) = true := by rw [bne_iff_ne]; exact hrp
        have HQ := Lib.hid (And.intro hqr hrp)
        clear hqr hrp
        go_wp2
        go_roundw
        case rel => exact ⟨2, by go_num, by first | rfl | trivial, Lib.hid (.inr (.inr (.inl ⟨by first | rfl | trivial, HQ.out⟩)))⟩
        case measure => simp [intOf]
    · clear HK
      by_cases hpq : p = q
      · have t1 : (p != q) = false := by rw [hpq]; simp
        have t2 : (r == p) = false := by simpa using hrp
        have HR : Hid (t3 p q r = p ∧ p3 p q r = [2] ∧ e3 p q r = 0) := Lib.hid ⟨by unfold t3; rw [if_neg hqr, if_neg hrp, if_pos hpq], by unfold p3; rw [if_neg hqr, if_neg hrp, if_pos hpq], by unfold e3; rw [if_neg hqr, if_neg hrp, if_pos hpq]⟩
        clear hqr hrp hpq
        go_wp2
        go_ret3
        rw [HR.out.1, HR.out.2.1, HR.out.2.2]
        exact ⟨_, _, rfl, HO.out 2, below_al HB.out _⟩
      · have t1 : (p != q) = true := by rw [bne_iff_ne]; exact hpq
        have HQ := Lib.hid (And.intro hqr (And.intro hrp hpq))
        clear hqr hrp hpq
        go_wp2
        go_roundw
        case rel => exact ⟨3, by go_num, by first | rfl | trivial, Lib.hid (.inr (.inr (.inr ⟨by first | rfl | trivial, HQ.out⟩)))⟩
        case measure => simp [intOf]
    · have HR : Hid (t3 p q r = 0 ∧ p3 p q r = [] ∧ e3 p q r = 10) := Lib.hid ⟨by unfold t3; rw [if_neg hqr, if_neg hrp, if_neg hpq], by unfold p3; rw [if_neg hqr, if_neg hrp, if_neg hpq], by unfold e3; rw [if_neg hqr, if_neg hrp, if_neg hpq]⟩
      clear HK hqr hrp hpq
      go_wp2
      go_ret3
      rw [HR.out.1, HR.out.2.1, HR.out.2.2]
      exact ⟨_, _, rfl, Owns.nil, HB.out⟩

/-- Three, of whatever words. -/
theorem three_any (x : Option Addr) (n cap : Nat) (xs : List Int) (w : World) (B : Nat) (hx : Reads .u64 w B x xs) (hn : xs.length = n) :
    Calls Try.prog 47 #[.slice x n cap] w (RetT w (thW xs) (thP xs) (thE xs)) := by
  unfold thW thP thE
  by_cases h : xs.length = 3
  · obtain rfl : n = 3 := by omega
    rw [if_neg (by omega), if_neg (by omega), if_neg (by omega)]
    obtain ⟨b, off, rfl, hb, hc⟩ := hx (by omega)
    exact three_ok b off cap _ _ _ w (hc 0 (by omega)) (hc 1 (by omega)) (hc 2 (by omega))
  · rw [if_pos h, if_pos h, if_pos h]
    exact three_len x n cap w (by omega)

end Go.Proofs.Ytpdiilfpbkmebaa
