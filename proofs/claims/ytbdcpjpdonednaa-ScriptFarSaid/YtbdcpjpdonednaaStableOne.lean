/-
  What the parts of slices.SortStableFunc come to at events: the closure that compares ticks, exchanges of blocks, rotations.
-/
import Derived.Test.YtbdcpjpdonednaaMathStable
import Derived.Test.YtbdcpjpdonednaaScriptOne
import Derived.Test.YtbdcpjpdonednaaShelf
import Derived.Sort.WalkB2
import Derived.Sort.WalkB12
import Derived.Deep.LoopGhost
namespace Go.Proofs.Ytbdcpjpdonednaa
open Go.RowKit Go.Shelf Go.Lib Go.Sort

theorem evc_len (s : Ev) : (evc s).length = 6 := rfl
theorem evc_one (s : Ev) : ∀ v ∈ evc s, v.oneCell' = true := by
  intro v hv
  simp [evc] at hv
  rcases hv with rfl | rfl | rfl | rfl | rfl | rfl <;> rfl
theorem agg_ev (w : World) : (isAgg 38).run Try.prog w = .ok true w := Try.isAgg38 w
theorem size_ev (w : World) : (Go.sizeOf 38).run Try.prog w = .ok 6 w := Try.sizeOf38 w

/-- A row of events in a world of the sort's. -/
abbrev SW (k : Nat) (w0 : World) (blk : Nat) (d : Array Ev) (W : World) : Prop := SWK evc k w0 blk 0 d W
abbrev RW (k : Nat) (w0 : World) (blk : Nat) (d0 : Array Ev) : Prop := RowK evc k w0 blk 0 d0
theorem RW.size {k : Nat} {w0 : World} {blk : Nat} {d0 : Array Ev} (R : RW k w0 blk d0) (w : World) : (Go.sizeOf 38).run Try.prog w = .ok k w := by
  have h : k = 6 := (R.hk noEv).symm
  subst h
  exact size_ev w

set_option maxHeartbeats 4000000 in
set_option maxRecDepth 1000000 in
theorem swapRange_any (k g : Nat) (cb : Array Value) (blk cap a b n : Nat) (d0 d : Array Ev) (w0 w : World) (R : RW k w0 blk d0) (hs : d0.size = d.size) (S : SW k w0 blk d w) (hab : a + n ≤ b) (hb : b + n ≤ d.size) (hsz : d.size < 4611686018427387904) :
    Calls Try.prog 50 #[.slice (some ⟨blk, 0, none⟩) d.size cap, .int .i64 a, .int .i64 b, .int .i64 n, .func (.func g) #[] cb] w fun e w' => e = .returned (.tuple #[]) ∧ ∃ d', d'.size = d.size ∧ (∀ i, i < d.size → d'[i]! = swr a b n (fun i => d[i]!) i) ∧ SW k w0 blk d' w' := by
  have mixed : Try.prog.follows .mixedOrders = true := by kernel_rfl
  have aE := agg_ev
  have zE := R.size
  have S0 : Aside (SW k w0 blk d w) := S
  clear S
  go_enter Try.func50, Try.ntmps50
  go_wp2
  go_loopw [10] (fun s wr => ∃ (i : Nat) (dk : Array Ev), s = .int .i64 i ∧ i ≤ n ∧ dk.size = d.size ∧ Aside (SW k w0 blk dk wr) ∧ Hid (∀ j, j < dk.size → dk[j]! = swr a b i (fun i => d[i]!) j)) (fun s _ => n - (intOf s).toNat)
  case atStart => exact ⟨0, d, rfl, Nat.zero_le _, rfl, S0, Lib.hid (fun j _ => (swr_zero _ _ _ _).symm)⟩
  case round =>
    clear S0
    obtain ⟨i, dk, rfl, hi, hds, S1, HD⟩ := hrel
    by_cases hlt : i < n
    · have HD' := Lib.hid (swr_step (d := dk) (a := a) (b := b) (n := i) (by omega) (by omega) HD.out rfl)
      obtain ⟨p, hp⟩ : ∃ p, p = a + i := ⟨_, rfl⟩
      obtain ⟨q, hq⟩ : ∃ q, q = b + i := ⟨_, rfl⟩
      rw [← hp, ← hq] at HD'
      have ep : (a : Int) + (i : Int) = (p : Int) := by omega
      have eq : (b : Int) + (i : Int) = (q : Int) := by omega
      have wp : IntKind.i64.wrap ((p : Int)) = (p : Int) := by rw [IntKind.wrap_i64]; omega
      have wq : IntKind.i64.wrap ((q : Int)) = (q : Int) := by rw [IntKind.wrap_i64]; omega
      have np : ((p : Int)).toNat = p := by omega
      have nq' : ((q : Int)).toNat = q := by omega
      have p0 : (0 : Int) ≤ (p : Int) := by omega
      have q0 : (0 : Int) ≤ (q : Int) := by omega
      have p1 : (p : Int) < (d.size : Int) := by omega
      have q1 : (q : Int) < (d.size : Int) := by omega
      have S2 : Aside (SW k w0 blk (swp dk p q) ((wr.drew.setCells blk (0 + p * k) (evc dk[q]!)).setCells blk (0 + q * k) (evc dk[p]!))) := S1.out.swapped R p q (by omega) (by omega)
      have la := S1.out.ld1 R (by omega) Try.prog p (by omega)
      have lb := S1.out.ld1 R (by omega) Try.prog q (by omega)
      have sa := S1.out.st1 R (by omega) Try.prog p (by omega) dk[q]!
      have sb := S1.out.st2 R (by omega) Try.prog p q (by omega) (by omega) dk[q]! dk[p]!
      have na : (evc dk[p]!).length = k := R.hk _
      have nb : (evc dk[q]!).length = k := R.hk _
      rw [Nat.zero_add] at S2 la lb sa sb
      rw [Nat.zero_add] at S2 sb
      generalize evc dk[p]! = cI at S2 la sb na
      generalize evc dk[q]! = cJ at S2 lb sa sb nb
      clear S1 hp hq
      go_wp2_with fail
      go_big_region_o
      clear la lb sa sb
      generalize (wr.drew.setCells blk (p * k) cJ).setCells blk (q * k) cI = w2 at S2 ⊢
      go_wp2
      go_roundw
      case rel => exact ⟨i + 1, swp dk p q, by go_num, by omega, by rw [size_swp]; exact hds, S2, HD'⟩
      case measure => simp [intOf]; omega
    · obtain rfl : i = n := by omega
      go_wp2
      go_end0
      exact ⟨rfl, dk, hds, fun j hj => HD.out j (by omega), S1.out⟩

set_option maxHeartbeats 2000000 in
theorem rotate_any (k g : Nat) (cb : Array Value) (blk cap a m b : Nat) (d0 d : Array Ev) (w0 w : World) (R : RW k w0 blk d0) (hs : d0.size = d.size) (S : SW k w0 blk d w) (ham : a < m) (hmb : m < b) (hb : b ≤ d.size) (hsz : d.size < 4611686018427387904) :
    Calls Try.prog 38 #[.slice (some ⟨blk, 0, none⟩) d.size cap, .int .i64 a, .int .i64 m, .int .i64 b, .func (.func g) #[] cb] w fun e w' => e = .returned (.tuple #[]) ∧ ∃ d', d'.size = d.size ∧ (∀ i, i < d.size → d'[i]! = rot a m b (fun i => d[i]!) i) ∧ SW k w0 blk d' w' := by
  have S0 : Aside (SW k w0 blk d w) := S
  have HSR := Lib.hid (fun dk W (hd : dk.size = d.size) (hS : SW k w0 blk dk W) x y n (h1 : x + n ≤ y) (h2 : y + n ≤ d.size) => by
    have := swapRange_any k g cb blk cap x y n d0 dk w0 W R (by omega) hS h1 (by omega) (by omega)
    rw [hd] at this
    exact this)
  clear S
  go_enter Try.func38, Try.ntmps38
  go_wp2
  go_loopw [10, 11] (fun s s' wr => ∃ (i j : Nat) (dk : Array Ev), s = .int .i64 i ∧ s' = .int .i64 j ∧ 0 < i ∧ 0 < j ∧ i ≤ m ∧ m + j ≤ d.size ∧ dk.size = d.size ∧ Aside (SW k w0 blk dk wr) ∧ Hid (∀ p, p < d.size → rot (m - i) m (m + j) (fun i => dk[i]!) p = rot a m b (fun i => d[i]!) p)) (fun s s' _ => (intOf s).toNat + (intOf s').toNat)
  case atStart => exact ⟨m - a, b - m, d, by congr 1; omega, by congr 1; omega, by omega, by omega, by omega, by omega, rfl, S0, Lib.hid (fun p _ => by rw [show m - (m - a) = a by omega, show m + (b - m) = b by omega])⟩
  case round =>
    clear S0
    obtain ⟨i, j, dk, rfl, rfl, hi, hj, him, hmj, hds, S1, HD⟩ := hrel
    by_cases hij : i = j
    · subst hij
      have t0 : ((i : Int) != (i : Int)) = false := by simp
      have HC := Lib.hid (HSR.out dk wr hds S1.out (m - i) m i (by omega) (by omega))
      have e1 : (m : Int) - (i : Int) = ((m - i : Nat) : Int) := by omega
      have HE := Lib.hid (fun p (hp : p < d.size) => (rot_even (fun i => dk[i]!) him p).symm.trans (HD.out p hp))
      obtain ⟨q, hq⟩ : ∃ q, q = m - i := ⟨_, rfl⟩
      rw [← hq] at HC e1
      have hqm : q ≤ m := by omega
      rw [← hq] at HE
      clear hq HSR S1
      go_wp2_with (go_at_call 50; refine HC.out.mono ?_; rintro e w2 ⟨rfl, d', hs', hd', S2⟩)
      go_end0
      exact ⟨rfl, d', hs', fun p hp => (hd' p (by omega)).trans (HE.out p hp), S2⟩
    · have t0 : ((i : Int) != (j : Int)) = true := by rw [bne_iff_ne]; omega
      by_cases hgt : j < i
      · have t1 : decide ((j : Int) < (i : Int)) = true := by simp; omega
        have t1' : decide (j < i) = true := by simp; omega
        have HC := Lib.hid (HSR.out dk wr hds S1.out (m - i) m j (by omega) (by omega))
        have e1 : (m : Int) - (i : Int) = ((m - i : Nat) : Int) := by omega
        have e2 : (i : Int) - (j : Int) = ((i - j : Nat) : Int) := by omega
        have HE := Lib.hid (fun p (hp : p < d.size) => (rot_more (fun i => dk[i]!) him hgt p).symm.trans (HD.out p hp))
        obtain ⟨q, hq⟩ : ∃ q, q = m - i := ⟨_, rfl⟩
        obtain ⟨u, hu⟩ : ∃ u, u = i - j := ⟨_, rfl⟩
        rw [← hq] at HC e1 HE
        rw [← hu] at e2 HE
        have HU : Hid (0 < u ∧ u ≤ m ∧ u < i) := Lib.hid (by omega)
        have hum : u ≤ i := by omega
        have hqm : q ≤ m := by omega
        clear hq hu HSR S1 HD hgt
        go_wp2_with (go_at_call 50; refine HC.out.mono ?_; rintro e w2 ⟨rfl, d', hs', hd', S2⟩)
        go_roundw
        case rel => exact ⟨u, j, d', by go_num, rfl, HU.out.1, hj, HU.out.2.1, hmj, hs', S2, Lib.hid (fun p hp => (rot_congr (n := d.size) hmj (by have := HU.out; omega) (by omega) (fun k hk => hd' k (by omega)) p hp).trans (HE.out p hp))⟩
        case measure => have := HU.out; simp [intOf]; omega
      · have t1 : decide ((j : Int) < (i : Int)) = false := by simp; omega
        have t1' : decide (j < i) = false := by simp; omega
        have HC := Lib.hid (HSR.out dk wr hds S1.out (m - i) (m + j - i) i (by omega) (by omega))
        have e1 : (m : Int) - (i : Int) = ((m - i : Nat) : Int) := by omega
        have e2 : (j : Int) - (i : Int) = ((j - i : Nat) : Int) := by omega
        have e3 : (m : Int) + (j : Int) - (i : Int) = ((m + j - i : Nat) : Int) := by omega
        have HE := Lib.hid (fun p (hp : p < d.size) => (rot_less (fun i => dk[i]!) him (show i < j by omega) p).symm.trans (HD.out p hp))
        obtain ⟨q, hq⟩ : ∃ q, q = m - i := ⟨_, rfl⟩
        obtain ⟨u, hu⟩ : ∃ u, u = j - i := ⟨_, rfl⟩
        obtain ⟨v, hv⟩ : ∃ v, v = m + j - i := ⟨_, rfl⟩
        rw [← hq, ← hv] at HC HE
        rw [← hq] at e1
        rw [← hu] at e2 HE
        rw [← hv] at e3
        have HU : Hid (0 < u ∧ m + u ≤ d.size ∧ u < j ∧ q ≤ m ∧ q = m - i) := Lib.hid (by omega)
        have hum : u ≤ j := by omega
        have hqm : q ≤ m := by omega
        have hvm : v ≤ m + j := by omega
        clear hq hu hv HSR S1 HD hgt
        go_wp2_with (go_at_call 50; refine HC.out.mono ?_; rintro e w2 ⟨rfl, d', hs', hd', S2⟩)
        go_roundw
        case rel => exact ⟨i, u, d', rfl, by go_num, hi, HU.out.1, him, HU.out.2.1, hs', S2, Lib.hid (fun p hp => by rw [← HU.out.2.2.2.2]; exact (rot_congr (n := d.size) HU.out.2.1 HU.out.2.2.2.1 (by omega) (fun k hk => hd' k (by omega)) p hp).trans (HE.out p hp))⟩
        case measure => have := HU.out; simp [intOf]; omega

end Go.Proofs.Ytbdcpjpdonednaa
