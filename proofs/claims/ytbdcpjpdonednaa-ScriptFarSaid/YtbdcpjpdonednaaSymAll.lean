/-
  What slices.symMergeCmpFunc comes to at events where both blocks have more than one: the search by halves, the rotation, and both parts merged; so of any two blocks in order.
-/
import Derived.Test.YtbdcpjpdonednaaSymMerge
import Derived.Deep.RegionWith
namespace Go.Proofs.Ytbdcpjpdonednaa
open Go.RowKit Go.Shelf Go.Lib Go.Sort

theorem turned {d d1 : Array Ev} {a m b mid st en : Nat} (hb : b ≤ d.size) (h1 : a ≤ st) (h2 : st ≤ m) (h3 : m ≤ en) (h4 : en ≤ b) (hse : st + en = mid + m) (hA : Srt a m d) (hB : Srt m b d)
    (hd : ∀ k, k < d.size → d1[k]! = rot st m en (fun k => d[k]!) k) : Srt a st d1 ∧ Srt st mid d1 ∧ Srt mid en d1 ∧ Srt en b d1 := by
  have eL : ∀ k, k < st → d1[k]! = d[k]! := fun k hk => by rw [hd k (by omega), rot_out (by omega)]
  have eM : ∀ k, st ≤ k → k < mid → d1[k]! = d[k + (m - st)]! := fun k h h' => by rw [hd k (by omega), rot_left (by omega) (by omega) (by omega)]
  have eN : ∀ k, mid ≤ k → k < en → d1[k]! = d[k - (en - m)]! := fun k h h' => by rw [hd k (by omega), rot_right (by omega) (by omega)]
  have eR : ∀ k, k < d.size → en ≤ k → d1[k]! = d[k]! := fun k hk h => by rw [hd k hk, rot_out (by omega)]
  refine ⟨fun i j i1 i2 i3 => ?_, fun i j i1 i2 i3 => ?_, fun i j i1 i2 i3 => ?_, fun i j i1 i2 i3 => ?_⟩
  · rw [eL i (by omega), eL j (by omega)]; exact hA i j i1 i2 (by omega)
  · rw [eM i i1 (by omega), eM j (by omega) i3]; exact hB.le (by omega) (by omega) (by omega)
  · rw [eN i i1 (by omega), eN j (by omega) i3]; exact hA.le (by omega) (by omega) (by omega)
  · rw [eR i (by omega) i1, eR j (by omega) (by omega)]; exact hB i j (by omega) i2 i3

/-- What is known when the search has ended. -/
structure Cut (a m b mid st en : Nat) (d : Array Ev) : Prop where
  hb : b ≤ d.size
  h1 : a ≤ st
  h2 : st ≤ m
  h3 : m ≤ en
  h4 : en ≤ b
  hm : st ≤ mid
  he : mid ≤ en
  hse : st + en = mid + m
  hA : Srt a m d
  hB : Srt m b d
  lo : ∀ p q, a ≤ p → p < st → en ≤ q → q < b → (d[p]!).tk ≤ (d[q]!).tk
  hi : ∀ p q, st ≤ p → p < m → m ≤ q → q < en → (d[q]!).tk < (d[p]!).tk

/-- The row behind the rotation, where there is one. -/
def Rtd (m st en : Nat) (d d1 : Array Ev) : Prop := d1.size = d.size ∧ ∀ k, k < d.size → d1[k]! = rot st m en (fun k => d[k]!) k
theorem Cut.stays {a m b mid st en : Nat} {d : Array Ev} (h : Cut a m b mid st en d) (hn : ¬ (st < m ∧ m < en)) : Rtd m st en d d := by
  refine ⟨rfl, fun k _ => ?_⟩
  by_cases c : st < m
  · have := h.h3
    obtain rfl : m = en := by omega
    exact (rot_none _ _ _ _).symm
  · have := h.h2
    obtain rfl : st = m := by omega
    exact (rot_nil _ _ _ _).symm
theorem Cut.srt {a m b mid st en : Nat} {d d1 : Array Ev} (h : Cut a m b mid st en d) (hr : Rtd m st en d d1) : Srt a st d1 ∧ Srt st mid d1 ∧ Srt mid en d1 ∧ Srt en b d1 := turned h.hb h.h1 h.h2 h.h3 h.h4 h.hse h.hA h.hB hr.2
theorem Cut.low {a m b mid st en : Nat} {d d1 : Array Ev} (h : Cut a m b mid st en d) (hr : Rtd m st en d d1) (hn : ¬ (a < st ∧ st < mid)) : Mg a mid d1 d1 := by
  obtain ⟨s1, s2, -, -⟩ := h.srt hr
  by_cases c : a < st
  · have := h.hm
    obtain rfl : st = mid := by omega
    exact Mg.same s1
  · have := h.h1
    obtain rfl : a = st := by omega
    exact Mg.same s2
theorem Cut.srt2 {a m b mid st en : Nat} {d d1 d2 : Array Ev} (h : Cut a m b mid st en d) (hr : Rtd m st en d d1) (h2 : Mg a mid d1 d2) : Srt mid en d2 ∧ Srt en b d2 := by
  obtain ⟨-, -, s3, s4⟩ := h.srt hr
  exact ⟨s3.out h2.out (Or.inr (Nat.le_refl _)), s4.out h2.out (Or.inr h.he)⟩
theorem Cut.high {a m b mid st en : Nat} {d d1 d2 : Array Ev} (h : Cut a m b mid st en d) (hr : Rtd m st en d d1) (h2 : Mg a mid d1 d2) (hn : ¬ (mid < en ∧ en < b)) : Mg mid b d2 d2 := by
  obtain ⟨s3, s4⟩ := h.srt2 hr h2
  by_cases c : mid < en
  · have := h.h4
    obtain rfl : en = b := by omega
    exact Mg.same s3
  · have := h.he
    obtain rfl : mid = en := by omega
    exact Mg.same s4
theorem Cut.all {a m b mid st en : Nat} {d d1 d2 d3 : Array Ev} (h : Cut a m b mid st en d) (hr : Rtd m st en d d1) (h2 : Mg a mid d1 d2) (h3 : Mg mid b d2 d3) : Mg a b d d3 :=
  Mg.both h.hb h.h1 h.h2 h.h3 h.h4 h.hse h.hA h.hB h.lo h.hi hr.1 hr.2 (fun _ _ => h2) (fun _ _ => h3)

/-- symMerge at these places, whatever the row. -/
def SymAt (k g : Nat) (cb : Array Value) (blk cap n : Nat) (w0 : World) (a m b : Nat) : Prop := ∀ (d : Array Ev) (w : World), d.size = n → Srt a m d → Srt m b d → SW k w0 blk d w →
  Calls Try.prog 35 #[.slice (some ⟨blk, 0, none⟩) n cap, .int .i64 a, .int .i64 m, .int .i64 b, .func (.func g) #[] cb] w (MgRet k w0 blk a b d)

set_option maxHeartbeats 8000000 in
set_option maxRecDepth 1000000 in
theorem sym_hi (k g : Nat) (cb : Array Value) (blk cap a m b mid : Nat) (d0 d : Array Ev) (w0 w : World) (eg : ∀ args w, (callFunc g args).run Try.prog w = .ok (.enter g args) w) (hC : CmpLays Try.prog g cb evc k cfE blk 0 d0.size w0) (R : RW k w0 blk d0) (hs : d0.size = d.size) (S : SW k w0 blk d w)
    (IH : ∀ a' m' b', b' - a' < b - a → a' < m' → m' < b' → b' ≤ d.size → SymAt k g cb blk cap d.size w0 a' m' b') (ham : a + 1 < m) (hmb : m + 1 < b) (hb : b ≤ d.size) (hsz : d.size < 2305843009213693952) (hmid : mid = (a + b) / 2) (hmm : mid < m) (hA : Srt a m d) (hB : Srt m b d) :
    Calls Try.prog 35 #[.slice (some ⟨blk, 0, none⟩) d.size cap, .int .i64 a, .int .i64 m, .int .i64 b, .func (.func g) #[] cb] w (MgRet k w0 blk a b d) := by
  have mixed : Try.prog.follows .mixedOrders = true := by kernel_rfl
  have aE := agg_ev
  have zE := R.size
  have S0 : Aside (SW k w0 blk d w) := S
  have HC : Aside _ := hC
  have HAB : Aside (Srt a m d ∧ Srt m b d) := ⟨hA, hB⟩
  clear S hC hA hB
  have HIH := Lib.hid IH
  have HROT := Lib.hid (fun W (hS : SW k w0 blk d W) x y => rotate_any k g cb blk cap x m y d0 d w0 W R hs hS)
  clear IH
  have t1 : ((m : Int) - (a : Int) == 1) = false := by rw [beq_eq_false_iff_ne]; omega
  have t2 : ((b : Int) - (m : Int) == 1) = false := by rw [beq_eq_false_iff_ne]; omega
  have em : ((a : Int) + (b : Int)) / 2 = (mid : Int) := by omega
  obtain ⟨n, hn⟩ : ∃ n, n = mid + m := ⟨_, rfl⟩
  have en1 : (mid : Int) + (m : Int) = (n : Int) := by omega
  obtain ⟨p, hp⟩ : ∃ p, p = n - 1 := ⟨_, rfl⟩
  have ep : (n : Int) - 1 = (p : Int) := by omega
  obtain ⟨s0, hs0⟩ : ∃ s0, s0 = n - b := ⟨_, rfl⟩
  obtain ⟨r0, hr0⟩ : ∃ r0, r0 = mid := ⟨_, rfl⟩
  have fm : decide ((mid : Int) < (m : Int)) = true := by simp; omega
  have fm' : decide (mid < m) = true := by simp; omega
  have es : (n : Int) - (b : Int) = (s0 : Int) := by omega
  have hN : Hid (mid = (a + b) / 2 ∧ n = mid + m ∧ p = n - 1 ∧ s0 = n - b ∧ r0 = mid ∧ a < m ∧ m < b) := Lib.hid ⟨hmid, hn, hp, hs0, hr0, by omega, by omega⟩
  have bmid : a ≤ mid ∧ mid ≤ b := by omega
  have bn : n < 4611686018427387904 := by omega
  have bp : p < 4611686018427387904 := by omega
  have bs0 : a ≤ s0 ∧ s0 ≤ r0 ∧ r0 ≤ m ∧ r0 ≤ mid ∧ m ≤ n ∧ r0 ≤ p ∧ mid ≤ n := by omega
  have HB : Hid ((∀ c, s0 ≤ c → c < r0 → m ≤ p - c ∧ p - c < b ∧ c ≤ p) ∧ m + r0 ≤ n ∧ n ≤ b + s0) := Lib.hid ⟨fun c c1 c2 => by omega, by omega, by omega⟩
  clear hmid hn hp hs0 hr0
  go_enter Try.func35, Try.ntmps35
  go_wp2
  go_loopw [20, 21] (fun s s' wr => ∃ (i j : Nat), s = .int .i64 i ∧ s' = .int .i64 j ∧ s0 ≤ i ∧ i ≤ j ∧ j ≤ r0 ∧ Aside (SW k w0 blk d wr) ∧ Aside ((∀ c, s0 ≤ c → c < i → (d[c]!).tk ≤ (d[p - c]!).tk) ∧ (∀ c, j ≤ c → c < r0 → (d[p - c]!).tk < (d[c]!).tk))) (fun s s' _ => (intOf s').toNat - (intOf s).toNat)
  case atStart =>
    have hNo := hN.out
    exact ⟨s0, r0, by first | rfl | (congr 1; omega), by first | rfl | (congr 1; omega), Nat.le_refl _, by omega, Nat.le_refl _, S0, (⟨fun h h1 h2 => by omega, fun h h1 h2 => by omega⟩ : (∀ c, s0 ≤ c → c < s0 → (d[c]!).tk ≤ (d[p - c]!).tk) ∧ (∀ c, r0 ≤ c → c < r0 → (d[p - c]!).tk < (d[c]!).tk))⟩
  case round =>
    clear S0
    obtain ⟨i, j, rfl, rfl, hmi, hij, hjb, S1, I⟩ := hrel
    by_cases hlt : i < j
    · obtain ⟨h, hh⟩ : ∃ h, h = (i + j) / 2 := ⟨_, rfl⟩
      have eh : ((i : Int) + (j : Int)) / 2 = (h : Int) := by omega
      have hh1 : Hid (i ≤ h ∧ h < j) := Lib.hid (by omega)
      obtain ⟨q1, q2, q3⟩ := HB.out.1 h (by omega) (by omega)
      obtain ⟨q, hq⟩ : ∃ q, q = p - h := ⟨_, rfl⟩
      have eq : (p : Int) - (h : Int) = (q : Int) := by omega
      rw [← hq] at q1 q2
      have n1 : ((h : Int)).toNat = h := by omega
      have p1 : (0 : Int) ≤ (h : Int) := by omega
      have b1 : (h : Int) < (d.size : Int) := by omega
      have r1 : IntKind.i64.wrap ((h : Int)) = (h : Int) := by rw [IntKind.wrap_i64]; omega
      have n2 : ((q : Int)).toNat = q := by omega
      have p2 : (0 : Int) ≤ (q : Int) := by omega
      have b2 : (q : Int) < (d.size : Int) := by omega
      have r2 : IntKind.i64.wrap ((q : Int)) = (q : Int) := by rw [IntKind.wrap_i64]; omega
      obtain ⟨x, hx⟩ : ∃ x, x = d[q]! := ⟨_, rfl⟩
      obtain ⟨y, hy⟩ : ∃ x, x = d[h]! := ⟨_, rfl⟩
      have la := S1.out.ld R (by omega) Try.prog q (by omega)
      have lb := S1.out.ld R (by omega) Try.prog h (by omega)
      rw [← hx, Nat.zero_add] at la
      rw [← hy, Nat.zero_add] at lb
      have hc := S1.out.cmp HC.out (by omega) x y
      have HXY : Hid (x = d[q]! ∧ y = d[h]!) := Lib.hid ⟨hx, hy⟩
      have HQ : Hid (q = p - h ∧ m ≤ q ∧ q < b ∧ h ≤ p) := Lib.hid ⟨hq, q1, q2, q3⟩
      have hbound : h + 1 < 4611686018427387904 := by omega
      clear hx hy hh hq q1 q2
      by_cases hv : cfE x y < 0
      · have hd : decide (cfE x y < 0) = true := decide_eq_true hv
        have hlx : Hid ((d[q]!).tk < (d[h]!).tk) := Lib.hid (by rw [← HXY.out.1, ← HXY.out.2]; rw [cfE_lt] at hd; simpa using hd)
        go_wp2_with fail
        go_quiet_grown (first | (go_at_fn g; refine Calls.grown_of (hc _ _)))
        have S2 : Aside (SW k w0 blk d (grow (wr.drewN nq) osq)) := S1.out.grown nq osq
        clear la lb hc S1
        generalize grow (wr.drewN nq) osq = w2 at S2 ⊢
        clear nq osq
        go_wp2
        go_roundw
        case rel =>
          have hhh := hh1.out
          have hqq := HQ.out
          refine ⟨i, h, rfl, rfl, hmi, by omega, by omega, S2, (⟨I.out.1, fun t t1 t2 => ?_⟩ : _ ∧ (∀ c, h ≤ c → c < r0 → (d[p - c]!).tk < (d[c]!).tk))⟩
          have hbt := HB.out.1 t (by omega) t2
          have h3 := HAB.out.1.le (i := h) (j := t) (by omega) t1 (by omega)
          have h4 := HAB.out.2.le (i := p - t) (j := q) (by omega) (by omega) (by omega)
          have h5 := hlx.out
          omega
        case measure => have := hh1.out; simp [intOf]; omega
      · have hd : decide (cfE x y < 0) = false := decide_eq_false hv
        have hlx : Hid ((d[h]!).tk ≤ (d[q]!).tk) := Lib.hid (by rw [← HXY.out.1, ← HXY.out.2]; rw [cfE_lt] at hd; simpa using hd)
        go_wp2_with fail
        go_quiet_grown (first | (go_at_fn g; refine Calls.grown_of (hc _ _)))
        have S2 : Aside (SW k w0 blk d (grow (wr.drewN nq) osq)) := S1.out.grown nq osq
        clear la lb hc S1
        generalize grow (wr.drewN nq) osq = w2 at S2 ⊢
        clear nq osq
        go_wp2
        go_roundw
        case rel =>
          have hhh := hh1.out
          have hqq := HQ.out
          refine ⟨h + 1, j, by go_num, rfl, by omega, by omega, hjb, S2, (⟨fun t t1 t2 => ?_, I.out.2⟩ : (∀ c, s0 ≤ c → c < h + 1 → (d[c]!).tk ≤ (d[p - c]!).tk) ∧ _)⟩
          have hbt := HB.out.1 t t1 (by omega)
          have h3 := HAB.out.1.le (i := t) (j := h) (by omega) (by omega) (by omega)
          have h4 := HAB.out.2.le (i := q) (j := p - t) (by omega) (by omega) (by omega)
          have h5 := hlx.out
          omega
        case measure => have := hh1.out; simp [intOf]; omega
    · obtain rfl : i = j := by omega
      obtain ⟨e, he⟩ : ∃ e, e = n - i := ⟨_, rfl⟩
      have ee : (n : Int) - (i : Int) = (e : Int) := by omega
      have HCUT : Hid (Cut a m b mid i e d) := Lib.hid (by
        obtain ⟨hmid, hn, hp, hs0, hr0, hn5, hn6⟩ := hN.out
        have hbo := HB.out.2
        have tf := turn_facts (d := d) (a := a) (m := m) (b := b) (mid := mid) (st := i) (s0 := s0) (r0 := r0) (by omega) hmid (by rw [if_pos hmm]; omega) (by rw [if_pos hmm]; omega) hmi hjb HAB.out.1 HAB.out.2
          (fun c c1 c2 => by have := I.out.1 c c1 c2; rwa [show mid + m - 1 - c = p - c by omega]) (fun c c1 c2 => by have := I.out.2 c c1 c2; rwa [show mid + m - 1 - c = p - c by omega])
        rw [show mid + m - i = e by omega] at tf
        exact ⟨hb, by omega, by omega, by omega, by omega, by omega, by omega, by omega, HAB.out.1, HAB.out.2, tf.1, tf.2⟩)
      have be : e < 4611686018427387904 := by omega
      have HLT : Hid (a < i ∧ i < mid → SymAt k g cb blk cap d.size w0 a i mid) := Lib.hid (fun h => by
        obtain ⟨hmid, hn, hp, hs0, hr0, hn5, hn6⟩ := hN.out
        exact HIH.out a i mid (by omega) h.1 h.2 (by omega))
      have HHT : Hid (mid < e ∧ e < b → SymAt k g cb blk cap d.size w0 mid e b) := Lib.hid (fun h => by
        obtain ⟨hmid, hn, hp, hs0, hr0, hn5, hn6⟩ := hN.out
        exact HIH.out mid e b (by omega) h.1 h.2 hb)
      have HRT : Hid (i < m ∧ m < e → Calls Try.prog 38 #[.slice (some ⟨blk, 0, none⟩) d.size cap, .int .i64 i, .int .i64 m, .int .i64 e, .func (.func g) #[] cb] wr fun e' w' => e' = .returned (.tuple #[]) ∧ ∃ d', d'.size = d.size ∧ (∀ x, x < d.size → d'[x]! = rot i m e (fun x => d[x]!) x) ∧ SW k w0 blk d' w') := Lib.hid (fun h =>
        HROT.out wr S1.out i e h.1 h.2 (Nat.le_trans HCUT.out.h4 hb) (by omega))
      clear he HIH HROT HB hN
      by_cases hR : i < m ∧ m < e
      · have HR1 := Lib.hid (HRT.out hR)
        obtain ⟨hR1, hR2⟩ := hR
        have f1 : decide ((i : Int) < (m : Int)) = true := by simp; omega
        have f2 : decide ((m : Int) < (e : Int)) = true := by simp; omega
        have f1' : decide (i < m) = true := by simp; omega
        have f2' : decide (m < e) = true := by simp; omega
        clear HRT S1
        by_cases hL : a < i ∧ i < mid
        · have HL1 := Lib.hid (HLT.out hL)
          obtain ⟨hL1, hL2⟩ := hL
          have g1 : decide ((a : Int) < (i : Int)) = true := by simp; omega
          have g2 : decide ((i : Int) < (mid : Int)) = true := by simp; omega
          have g1' : decide (a < i) = true := by simp; omega
          have g2' : decide (i < mid) = true := by simp; omega
          by_cases hH : mid < e ∧ e < b
          · have HH1 := Lib.hid (HHT.out hH)
            obtain ⟨hH1, hH2⟩ := hH
            have k1 : decide ((mid : Int) < (e : Int)) = true := by simp; omega
            have k2 : decide ((e : Int) < (b : Int)) = true := by simp; omega
            have k1' : decide (mid < e) = true := by simp; omega
            have k2' : decide (e < b) = true := by simp; omega
            go_wp2_with (first | (go_at_call 38; refine HR1.out.mono ?_; rintro e' w1 ⟨rfl, d1, z1, y1, s1⟩; have HD1 : Hid (Rtd m i e d d1) := Lib.hid ⟨z1, y1⟩; have S1 : Aside (SW k w0 blk d1 w1) := s1; clear s1 y1 z1 HR1) | (go_at_call_of 35 (Value.int .i64 (i : Int)); refine (HL1.out d1 _ HD1.out.1 (HCUT.out.srt HD1.out).1 (HCUT.out.srt HD1.out).2.1 S1.out).mono ?_; rintro e' w2 ⟨rfl, d2, m2, s2⟩; have HD2 : Hid (Mg a mid d1 d2) := Lib.hid m2; have S2 : Aside (SW k w0 blk d2 w2) := s2; clear s2 m2) | (go_at_call_of 35 (Value.int .i64 (e : Int)); refine (HH1.out d2 _ (HD2.out.stb.1.trans HD1.out.1) (HCUT.out.srt2 HD1.out HD2.out).1 (HCUT.out.srt2 HD1.out HD2.out).2 S2.out).mono ?_; rintro e' w3 ⟨rfl, d3, m3, s3⟩; have HD3 : Hid (Mg mid b d2 d3) := Lib.hid m3; have S3 : Aside (SW k w0 blk d3 w3) := s3; clear s3 m3))
            go_end0
            exact ⟨rfl, d3, HCUT.out.all HD1.out HD2.out HD3.out, S3.out⟩
          · have HH1 := Lib.hid hH
            have k1 : (decide (mid < e) && decide (e < b)) = false := by rw [Bool.and_eq_false_iff]; simp; omega
            go_wp2_with (first | (go_at_call 38; refine HR1.out.mono ?_; rintro e' w1 ⟨rfl, d1, z1, y1, s1⟩; have HD1 : Hid (Rtd m i e d d1) := Lib.hid ⟨z1, y1⟩; have S1 : Aside (SW k w0 blk d1 w1) := s1; clear s1 y1 z1 HR1) | (go_at_call_of 35 (Value.int .i64 (i : Int)); refine (HL1.out d1 _ HD1.out.1 (HCUT.out.srt HD1.out).1 (HCUT.out.srt HD1.out).2.1 S1.out).mono ?_; rintro e' w2 ⟨rfl, d2, m2, s2⟩; have HD2 : Hid (Mg a mid d1 d2) := Lib.hid m2; have S2 : Aside (SW k w0 blk d2 w2) := s2; clear s2 m2))
            go_end0
            exact ⟨rfl, d2, HCUT.out.all HD1.out HD2.out (HCUT.out.high HD1.out HD2.out HH1.out), S2.out⟩
        · have HL1 := Lib.hid hL
          have g1 : (decide (a < i) && decide (i < mid)) = false := by rw [Bool.and_eq_false_iff]; simp; omega
          by_cases hH : mid < e ∧ e < b
          · have HH1 := Lib.hid (HHT.out hH)
            obtain ⟨hH1, hH2⟩ := hH
            have k1 : decide ((mid : Int) < (e : Int)) = true := by simp; omega
            have k2 : decide ((e : Int) < (b : Int)) = true := by simp; omega
            have k1' : decide (mid < e) = true := by simp; omega
            have k2' : decide (e < b) = true := by simp; omega
            go_wp2_with (first | (go_at_call 38; refine HR1.out.mono ?_; rintro e' w1 ⟨rfl, d1, z1, y1, s1⟩; have HD1 : Hid (Rtd m i e d d1) := Lib.hid ⟨z1, y1⟩; have S1 : Aside (SW k w0 blk d1 w1) := s1; clear s1 y1 z1 HR1) | (go_at_call_of 35 (Value.int .i64 (e : Int)); refine (HH1.out d1 _ HD1.out.1 (HCUT.out.srt2 HD1.out (HCUT.out.low HD1.out HL1.out)).1 (HCUT.out.srt2 HD1.out (HCUT.out.low HD1.out HL1.out)).2 S1.out).mono ?_; rintro e' w3 ⟨rfl, d3, m3, s3⟩; have HD3 : Hid (Mg mid b d1 d3) := Lib.hid m3; have S3 : Aside (SW k w0 blk d3 w3) := s3; clear s3 m3))
          · have HH1 := Lib.hid hH
            have k1 : (decide (mid < e) && decide (e < b)) = false := by rw [Bool.and_eq_false_iff]; simp; omega
            go_wp2_with (first | (go_at_call 38; refine HR1.out.mono ?_; rintro e' w1 ⟨rfl, d1, z1, y1, s1⟩; have HD1 : Hid (Rtd m i e d d1) := Lib.hid ⟨z1, y1⟩; have S1 : Aside (SW k w0 blk d1 w1) := s1; clear s1 y1 z1 HR1))
            go_end0
            exact ⟨rfl, d1, HCUT.out.all HD1.out (HCUT.out.low HD1.out HL1.out) (HCUT.out.high HD1.out (HCUT.out.low HD1.out HL1.out) HH1.out), S1.out⟩
      · have HR1 : Hid (Rtd m i e d d) := Lib.hid (HCUT.out.stays hR)
        have f1 : (decide (i < m) && decide (m < e)) = false := by rw [Bool.and_eq_false_iff]; simp; omega
        have S1' := S1
        clear HRT S1
        by_cases hL : a < i ∧ i < mid
        · have HL1 := Lib.hid (HLT.out hL)
          obtain ⟨hL1, hL2⟩ := hL
          have g1 : decide ((a : Int) < (i : Int)) = true := by simp; omega
          have g2 : decide ((i : Int) < (mid : Int)) = true := by simp; omega
          have g1' : decide (a < i) = true := by simp; omega
          have g2' : decide (i < mid) = true := by simp; omega
          by_cases hH : mid < e ∧ e < b
          · have HH1 := Lib.hid (HHT.out hH)
            obtain ⟨hH1, hH2⟩ := hH
            have k1 : decide ((mid : Int) < (e : Int)) = true := by simp; omega
            have k2 : decide ((e : Int) < (b : Int)) = true := by simp; omega
            have k1' : decide (mid < e) = true := by simp; omega
            have k2' : decide (e < b) = true := by simp; omega
            go_wp2_with (first | (go_at_call_of 35 (Value.int .i64 (i : Int)); refine (HL1.out d _ rfl (HCUT.out.srt HR1.out).1 (HCUT.out.srt HR1.out).2.1 S1'.out).mono ?_; rintro e' w2 ⟨rfl, d2, m2, s2⟩; have HD2 : Hid (Mg a mid d d2) := Lib.hid m2; have S2 : Aside (SW k w0 blk d2 w2) := s2; clear s2 m2) | (go_at_call_of 35 (Value.int .i64 (e : Int)); refine (HH1.out d2 _ HD2.out.stb.1 (HCUT.out.srt2 HR1.out HD2.out).1 (HCUT.out.srt2 HR1.out HD2.out).2 S2.out).mono ?_; rintro e' w3 ⟨rfl, d3, m3, s3⟩; have HD3 : Hid (Mg mid b d2 d3) := Lib.hid m3; have S3 : Aside (SW k w0 blk d3 w3) := s3; clear s3 m3))
          · have HH1 := Lib.hid hH
            have k1 : (decide (mid < e) && decide (e < b)) = false := by rw [Bool.and_eq_false_iff]; simp; omega
            go_wp2_with (first | (go_at_call_of 35 (Value.int .i64 (i : Int)); refine (HL1.out d _ rfl (HCUT.out.srt HR1.out).1 (HCUT.out.srt HR1.out).2.1 S1'.out).mono ?_; rintro e' w2 ⟨rfl, d2, m2, s2⟩; have HD2 : Hid (Mg a mid d d2) := Lib.hid m2; have S2 : Aside (SW k w0 blk d2 w2) := s2; clear s2 m2))
        · have HL1 := Lib.hid hL
          have g1 : (decide (a < i) && decide (i < mid)) = false := by rw [Bool.and_eq_false_iff]; simp; omega
          by_cases hH : mid < e ∧ e < b
          · have HH1 := Lib.hid (HHT.out hH)
            obtain ⟨hH1, hH2⟩ := hH
            have k1 : decide ((mid : Int) < (e : Int)) = true := by simp; omega
            have k2 : decide ((e : Int) < (b : Int)) = true := by simp; omega
            have k1' : decide (mid < e) = true := by simp; omega
            have k2' : decide (e < b) = true := by simp; omega
            go_wp2_with (first | (go_at_call_of 35 (Value.int .i64 (e : Int)); refine (HH1.out d _ rfl (HCUT.out.srt2 HR1.out (HCUT.out.low HR1.out HL1.out)).1 (HCUT.out.srt2 HR1.out (HCUT.out.low HR1.out HL1.out)).2 S1'.out).mono ?_; rintro e' w3 ⟨rfl, d3, m3, s3⟩; have HD3 : Hid (Mg mid b d d3) := Lib.hid m3; have S3 : Aside (SW k w0 blk d3 w3) := s3; clear s3 m3))
            go_end0
            exact ⟨rfl, d3, HCUT.out.all HR1.out (HCUT.out.low HR1.out HL1.out) HD3.out, S3.out⟩
          · have HH1 := Lib.hid hH
            have k1 : (decide (mid < e) && decide (e < b)) = false := by rw [Bool.and_eq_false_iff]; simp; omega
            go_wp2

set_option maxHeartbeats 8000000 in
set_option maxRecDepth 1000000 in
theorem sym_lo (k g : Nat) (cb : Array Value) (blk cap a m b mid : Nat) (d0 d : Array Ev) (w0 w : World) (eg : ∀ args w, (callFunc g args).run Try.prog w = .ok (.enter g args) w) (hC : CmpLays Try.prog g cb evc k cfE blk 0 d0.size w0) (R : RW k w0 blk d0) (hs : d0.size = d.size) (S : SW k w0 blk d w)
    (IH : ∀ a' m' b', b' - a' < b - a → a' < m' → m' < b' → b' ≤ d.size → SymAt k g cb blk cap d.size w0 a' m' b') (ham : a + 1 < m) (hmb : m + 1 < b) (hb : b ≤ d.size) (hsz : d.size < 2305843009213693952) (hmid : mid = (a + b) / 2) (hmm : ¬ mid < m) (hA : Srt a m d) (hB : Srt m b d) :
    Calls Try.prog 35 #[.slice (some ⟨blk, 0, none⟩) d.size cap, .int .i64 a, .int .i64 m, .int .i64 b, .func (.func g) #[] cb] w (MgRet k w0 blk a b d) := by
  have mixed : Try.prog.follows .mixedOrders = true := by kernel_rfl
  have aE := agg_ev
  have zE := R.size
  have S0 : Aside (SW k w0 blk d w) := S
  have HC : Aside _ := hC
  have HAB : Aside (Srt a m d ∧ Srt m b d) := ⟨hA, hB⟩
  clear S hC hA hB
  have HIH := Lib.hid IH
  have HROT := Lib.hid (fun W (hS : SW k w0 blk d W) x y => rotate_any k g cb blk cap x m y d0 d w0 W R hs hS)
  clear IH
  have t1 : ((m : Int) - (a : Int) == 1) = false := by rw [beq_eq_false_iff_ne]; omega
  have t2 : ((b : Int) - (m : Int) == 1) = false := by rw [beq_eq_false_iff_ne]; omega
  have em : ((a : Int) + (b : Int)) / 2 = (mid : Int) := by omega
  obtain ⟨n, hn⟩ : ∃ n, n = mid + m := ⟨_, rfl⟩
  have en1 : (mid : Int) + (m : Int) = (n : Int) := by omega
  obtain ⟨p, hp⟩ : ∃ p, p = n - 1 := ⟨_, rfl⟩
  have ep : (n : Int) - 1 = (p : Int) := by omega
  obtain ⟨s0, hs0⟩ : ∃ s0, s0 = a := ⟨_, rfl⟩
  obtain ⟨r0, hr0⟩ : ∃ r0, r0 = m := ⟨_, rfl⟩
  have fm : decide ((mid : Int) < (m : Int)) = false := by simp; omega
  have fm' : decide (mid < m) = false := by simp; omega
  have hN : Hid (mid = (a + b) / 2 ∧ n = mid + m ∧ p = n - 1 ∧ s0 = a ∧ r0 = m ∧ a < m ∧ m < b) := Lib.hid ⟨hmid, hn, hp, hs0, hr0, by omega, by omega⟩
  have bmid : a ≤ mid ∧ mid ≤ b := by omega
  have bn : n < 4611686018427387904 := by omega
  have bp : p < 4611686018427387904 := by omega
  have bs0 : a ≤ s0 ∧ s0 ≤ r0 ∧ r0 ≤ m ∧ r0 ≤ mid ∧ m ≤ n ∧ r0 ≤ p ∧ mid ≤ n := by omega
  have HB : Hid ((∀ c, s0 ≤ c → c < r0 → m ≤ p - c ∧ p - c < b ∧ c ≤ p) ∧ m + r0 ≤ n ∧ n ≤ b + s0) := Lib.hid ⟨fun c c1 c2 => by omega, by omega, by omega⟩
  clear hmid hn hp hs0 hr0
  go_enter Try.func35, Try.ntmps35
  go_wp2
  go_loopw [20, 21] (fun s s' wr => ∃ (i j : Nat), s = .int .i64 i ∧ s' = .int .i64 j ∧ s0 ≤ i ∧ i ≤ j ∧ j ≤ r0 ∧ Aside (SW k w0 blk d wr) ∧ Aside ((∀ c, s0 ≤ c → c < i → (d[c]!).tk ≤ (d[p - c]!).tk) ∧ (∀ c, j ≤ c → c < r0 → (d[p - c]!).tk < (d[c]!).tk))) (fun s s' _ => (intOf s').toNat - (intOf s).toNat)
  case atStart =>
    have hNo := hN.out
    exact ⟨s0, r0, by first | rfl | (congr 1; omega), by first | rfl | (congr 1; omega), Nat.le_refl _, by omega, Nat.le_refl _, S0, (⟨fun h h1 h2 => by omega, fun h h1 h2 => by omega⟩ : (∀ c, s0 ≤ c → c < s0 → (d[c]!).tk ≤ (d[p - c]!).tk) ∧ (∀ c, r0 ≤ c → c < r0 → (d[p - c]!).tk < (d[c]!).tk))⟩
  case round =>
    clear S0
    obtain ⟨i, j, rfl, rfl, hmi, hij, hjb, S1, I⟩ := hrel
    by_cases hlt : i < j
    · obtain ⟨h, hh⟩ : ∃ h, h = (i + j) / 2 := ⟨_, rfl⟩
      have eh : ((i : Int) + (j : Int)) / 2 = (h : Int) := by omega
      have hh1 : Hid (i ≤ h ∧ h < j) := Lib.hid (by omega)
      obtain ⟨q1, q2, q3⟩ := HB.out.1 h (by omega) (by omega)
      obtain ⟨q, hq⟩ : ∃ q, q = p - h := ⟨_, rfl⟩
      have eq : (p : Int) - (h : Int) = (q : Int) := by omega
      rw [← hq] at q1 q2
      have n1 : ((h : Int)).toNat = h := by omega
      have p1 : (0 : Int) ≤ (h : Int) := by omega
      have b1 : (h : Int) < (d.size : Int) := by omega
      have r1 : IntKind.i64.wrap ((h : Int)) = (h : Int) := by rw [IntKind.wrap_i64]; omega
      have n2 : ((q : Int)).toNat = q := by omega
      have p2 : (0 : Int) ≤ (q : Int) := by omega
      have b2 : (q : Int) < (d.size : Int) := by omega
      have r2 : IntKind.i64.wrap ((q : Int)) = (q : Int) := by rw [IntKind.wrap_i64]; omega
      obtain ⟨x, hx⟩ : ∃ x, x = d[q]! := ⟨_, rfl⟩
      obtain ⟨y, hy⟩ : ∃ x, x = d[h]! := ⟨_, rfl⟩
      have la := S1.out.ld R (by omega) Try.prog q (by omega)
      have lb := S1.out.ld R (by omega) Try.prog h (by omega)
      rw [← hx, Nat.zero_add] at la
      rw [← hy, Nat.zero_add] at lb
      have hc := S1.out.cmp HC.out (by omega) x y
      have HXY : Hid (x = d[q]! ∧ y = d[h]!) := Lib.hid ⟨hx, hy⟩
      have HQ : Hid (q = p - h ∧ m ≤ q ∧ q < b ∧ h ≤ p) := Lib.hid ⟨hq, q1, q2, q3⟩
      have hbound : h + 1 < 4611686018427387904 := by omega
      clear hx hy hh hq q1 q2
      by_cases hv : cfE x y < 0
      · have hd : decide (cfE x y < 0) = true := decide_eq_true hv
        have hlx : Hid ((d[q]!).tk < (d[h]!).tk) := Lib.hid (by rw [← HXY.out.1, ← HXY.out.2]; rw [cfE_lt] at hd; simpa using hd)
        go_wp2_with fail
        go_quiet_grown (first | (go_at_fn g; refine Calls.grown_of (hc _ _)))
        have S2 : Aside (SW k w0 blk d (grow (wr.drewN nq) osq)) := S1.out.grown nq osq
        clear la lb hc S1
        generalize grow (wr.drewN nq) osq = w2 at S2 ⊢
        clear nq osq
        go_wp2
        go_roundw
        case rel =>
          have hhh := hh1.out
          have hqq := HQ.out
          refine ⟨i, h, rfl, rfl, hmi, by omega, by omega, S2, (⟨I.out.1, fun t t1 t2 => ?_⟩ : _ ∧ (∀ c, h ≤ c → c < r0 → (d[p - c]!).tk < (d[c]!).tk))⟩
          have hbt := HB.out.1 t (by omega) t2
          have h3 := HAB.out.1.le (i := h) (j := t) (by omega) t1 (by omega)
          have h4 := HAB.out.2.le (i := p - t) (j := q) (by omega) (by omega) (by omega)
          have h5 := hlx.out
          omega
        case measure => have := hh1.out; simp [intOf]; omega
      · have hd : decide (cfE x y < 0) = false := decide_eq_false hv
        have hlx : Hid ((d[h]!).tk ≤ (d[q]!).tk) := Lib.hid (by rw [← HXY.out.1, ← HXY.out.2]; rw [cfE_lt] at hd; simpa using hd)
        go_wp2_with fail
        go_quiet_grown (first | (go_at_fn g; refine Calls.grown_of (hc _ _)))
        have S2 : Aside (SW k w0 blk d (grow (wr.drewN nq) osq)) := S1.out.grown nq osq
        clear la lb hc S1
        generalize grow (wr.drewN nq) osq = w2 at S2 ⊢
        clear nq osq
        go_wp2
        go_roundw
        case rel =>
          have hhh := hh1.out
          have hqq := HQ.out
          refine ⟨h + 1, j, by go_num, rfl, by omega, by omega, hjb, S2, (⟨fun t t1 t2 => ?_, I.out.2⟩ : (∀ c, s0 ≤ c → c < h + 1 → (d[c]!).tk ≤ (d[p - c]!).tk) ∧ _)⟩
          have hbt := HB.out.1 t t1 (by omega)
          have h3 := HAB.out.1.le (i := t) (j := h) (by omega) (by omega) (by omega)
          have h4 := HAB.out.2.le (i := q) (j := p - t) (by omega) (by omega) (by omega)
          have h5 := hlx.out
          omega
        case measure => have := hh1.out; simp [intOf]; omega
    · obtain rfl : i = j := by omega
      obtain ⟨e, he⟩ : ∃ e, e = n - i := ⟨_, rfl⟩
      have ee : (n : Int) - (i : Int) = (e : Int) := by omega
      have HCUT : Hid (Cut a m b mid i e d) := Lib.hid (by
        obtain ⟨hmid, hn, hp, hs0, hr0, hn5, hn6⟩ := hN.out
        have hbo := HB.out.2
        have tf := turn_facts (d := d) (a := a) (m := m) (b := b) (mid := mid) (st := i) (s0 := s0) (r0 := r0) (by omega) hmid (by rw [if_neg hmm]; omega) (by rw [if_neg hmm]; omega) hmi hjb HAB.out.1 HAB.out.2
          (fun c c1 c2 => by have := I.out.1 c c1 c2; rwa [show mid + m - 1 - c = p - c by omega]) (fun c c1 c2 => by have := I.out.2 c c1 c2; rwa [show mid + m - 1 - c = p - c by omega])
        rw [show mid + m - i = e by omega] at tf
        exact ⟨hb, by omega, by omega, by omega, by omega, by omega, by omega, by omega, HAB.out.1, HAB.out.2, tf.1, tf.2⟩)
      have be : e < 4611686018427387904 := by omega
      have HLT : Hid (a < i ∧ i < mid → SymAt k g cb blk cap d.size w0 a i mid) := Lib.hid (fun h => by
        obtain ⟨hmid, hn, hp, hs0, hr0, hn5, hn6⟩ := hN.out
        exact HIH.out a i mid (by omega) h.1 h.2 (by omega))
      have HHT : Hid (mid < e ∧ e < b → SymAt k g cb blk cap d.size w0 mid e b) := Lib.hid (fun h => by
        obtain ⟨hmid, hn, hp, hs0, hr0, hn5, hn6⟩ := hN.out
        exact HIH.out mid e b (by omega) h.1 h.2 hb)
      have HRT : Hid (i < m ∧ m < e → Calls Try.prog 38 #[.slice (some ⟨blk, 0, none⟩) d.size cap, .int .i64 i, .int .i64 m, .int .i64 e, .func (.func g) #[] cb] wr fun e' w' => e' = .returned (.tuple #[]) ∧ ∃ d', d'.size = d.size ∧ (∀ x, x < d.size → d'[x]! = rot i m e (fun x => d[x]!) x) ∧ SW k w0 blk d' w') := Lib.hid (fun h =>
        HROT.out wr S1.out i e h.1 h.2 (Nat.le_trans HCUT.out.h4 hb) (by omega))
      clear he HIH HROT HB hN
      by_cases hR : i < m ∧ m < e
      · have HR1 := Lib.hid (HRT.out hR)
        obtain ⟨hR1, hR2⟩ := hR
        have f1 : decide ((i : Int) < (m : Int)) = true := by simp; omega
        have f2 : decide ((m : Int) < (e : Int)) = true := by simp; omega
        have f1' : decide (i < m) = true := by simp; omega
        have f2' : decide (m < e) = true := by simp; omega
        clear HRT S1
        by_cases hL : a < i ∧ i < mid
        · have HL1 := Lib.hid (HLT.out hL)
          obtain ⟨hL1, hL2⟩ := hL
          have g1 : decide ((a : Int) < (i : Int)) = true := by simp; omega
          have g2 : decide ((i : Int) < (mid : Int)) = true := by simp; omega
          have g1' : decide (a < i) = true := by simp; omega
          have g2' : decide (i < mid) = true := by simp; omega
          by_cases hH : mid < e ∧ e < b
          · have HH1 := Lib.hid (HHT.out hH)
            obtain ⟨hH1, hH2⟩ := hH
            have k1 : decide ((mid : Int) < (e : Int)) = true := by simp; omega
            have k2 : decide ((e : Int) < (b : Int)) = true := by simp; omega
            have k1' : decide (mid < e) = true := by simp; omega
            have k2' : decide (e < b) = true := by simp; omega
            go_wp2_with (first | (go_at_call 38; refine HR1.out.mono ?_; rintro e' w1 ⟨rfl, d1, z1, y1, s1⟩; have HD1 : Hid (Rtd m i e d d1) := Lib.hid ⟨z1, y1⟩; have S1 : Aside (SW k w0 blk d1 w1) := s1; clear s1 y1 z1 HR1) | (go_at_call_of 35 (Value.int .i64 (i : Int)); refine (HL1.out d1 _ HD1.out.1 (HCUT.out.srt HD1.out).1 (HCUT.out.srt HD1.out).2.1 S1.out).mono ?_; rintro e' w2 ⟨rfl, d2, m2, s2⟩; have HD2 : Hid (Mg a mid d1 d2) := Lib.hid m2; have S2 : Aside (SW k w0 blk d2 w2) := s2; clear s2 m2) | (go_at_call_of 35 (Value.int .i64 (e : Int)); refine (HH1.out d2 _ (HD2.out.stb.1.trans HD1.out.1) (HCUT.out.srt2 HD1.out HD2.out).1 (HCUT.out.srt2 HD1.out HD2.out).2 S2.out).mono ?_; rintro e' w3 ⟨rfl, d3, m3, s3⟩; have HD3 : Hid (Mg mid b d2 d3) := Lib.hid m3; have S3 : Aside (SW k w0 blk d3 w3) := s3; clear s3 m3))
            go_end0
            exact ⟨rfl, d3, HCUT.out.all HD1.out HD2.out HD3.out, S3.out⟩
          · have HH1 := Lib.hid hH
            have k1 : (decide (mid < e) && decide (e < b)) = false := by rw [Bool.and_eq_false_iff]; simp; omega
            go_wp2_with (first | (go_at_call 38; refine HR1.out.mono ?_; rintro e' w1 ⟨rfl, d1, z1, y1, s1⟩; have HD1 : Hid (Rtd m i e d d1) := Lib.hid ⟨z1, y1⟩; have S1 : Aside (SW k w0 blk d1 w1) := s1; clear s1 y1 z1 HR1) | (go_at_call_of 35 (Value.int .i64 (i : Int)); refine (HL1.out d1 _ HD1.out.1 (HCUT.out.srt HD1.out).1 (HCUT.out.srt HD1.out).2.1 S1.out).mono ?_; rintro e' w2 ⟨rfl, d2, m2, s2⟩; have HD2 : Hid (Mg a mid d1 d2) := Lib.hid m2; have S2 : Aside (SW k w0 blk d2 w2) := s2; clear s2 m2))
        · have HL1 := Lib.hid hL
          have g1 : (decide (a < i) && decide (i < mid)) = false := by rw [Bool.and_eq_false_iff]; simp; omega
          by_cases hH : mid < e ∧ e < b
          · have HH1 := Lib.hid (HHT.out hH)
            obtain ⟨hH1, hH2⟩ := hH
            have k1 : decide ((mid : Int) < (e : Int)) = true := by simp; omega
            have k2 : decide ((e : Int) < (b : Int)) = true := by simp; omega
            have k1' : decide (mid < e) = true := by simp; omega
            have k2' : decide (e < b) = true := by simp; omega
            go_wp2_with (first | (go_at_call 38; refine HR1.out.mono ?_; rintro e' w1 ⟨rfl, d1, z1, y1, s1⟩; have HD1 : Hid (Rtd m i e d d1) := Lib.hid ⟨z1, y1⟩; have S1 : Aside (SW k w0 blk d1 w1) := s1; clear s1 y1 z1 HR1) | (go_at_call_of 35 (Value.int .i64 (e : Int)); refine (HH1.out d1 _ HD1.out.1 (HCUT.out.srt2 HD1.out (HCUT.out.low HD1.out HL1.out)).1 (HCUT.out.srt2 HD1.out (HCUT.out.low HD1.out HL1.out)).2 S1.out).mono ?_; rintro e' w3 ⟨rfl, d3, m3, s3⟩; have HD3 : Hid (Mg mid b d1 d3) := Lib.hid m3; have S3 : Aside (SW k w0 blk d3 w3) := s3; clear s3 m3))
            go_end0
            exact ⟨rfl, d3, HCUT.out.all HD1.out (HCUT.out.low HD1.out HL1.out) HD3.out, S3.out⟩
          · have HH1 := Lib.hid hH
            have k1 : (decide (mid < e) && decide (e < b)) = false := by rw [Bool.and_eq_false_iff]; simp; omega
            go_wp2_with (first | (go_at_call 38; refine HR1.out.mono ?_; rintro e' w1 ⟨rfl, d1, z1, y1, s1⟩; have HD1 : Hid (Rtd m i e d d1) := Lib.hid ⟨z1, y1⟩; have S1 : Aside (SW k w0 blk d1 w1) := s1; clear s1 y1 z1 HR1))
            go_end0
            exact ⟨rfl, d1, HCUT.out.all HD1.out (HCUT.out.low HD1.out HL1.out) (HCUT.out.high HD1.out (HCUT.out.low HD1.out HL1.out) HH1.out), S1.out⟩
      · have HR1 : Hid (Rtd m i e d d) := Lib.hid (HCUT.out.stays hR)
        have f1 : (decide (i < m) && decide (m < e)) = false := by rw [Bool.and_eq_false_iff]; simp; omega
        have S1' := S1
        clear HRT S1
        by_cases hL : a < i ∧ i < mid
        · have HL1 := Lib.hid (HLT.out hL)
          obtain ⟨hL1, hL2⟩ := hL
          have g1 : decide ((a : Int) < (i : Int)) = true := by simp; omega
          have g2 : decide ((i : Int) < (mid : Int)) = true := by simp; omega
          have g1' : decide (a < i) = true := by simp; omega
          have g2' : decide (i < mid) = true := by simp; omega
          by_cases hH : mid < e ∧ e < b
          · have HH1 := Lib.hid (HHT.out hH)
            obtain ⟨hH1, hH2⟩ := hH
            have k1 : decide ((mid : Int) < (e : Int)) = true := by simp; omega
            have k2 : decide ((e : Int) < (b : Int)) = true := by simp; omega
            have k1' : decide (mid < e) = true := by simp; omega
            have k2' : decide (e < b) = true := by simp; omega
            go_wp2_with (first | (go_at_call_of 35 (Value.int .i64 (i : Int)); refine (HL1.out d _ rfl (HCUT.out.srt HR1.out).1 (HCUT.out.srt HR1.out).2.1 S1'.out).mono ?_; rintro e' w2 ⟨rfl, d2, m2, s2⟩; have HD2 : Hid (Mg a mid d d2) := Lib.hid m2; have S2 : Aside (SW k w0 blk d2 w2) := s2; clear s2 m2) | (go_at_call_of 35 (Value.int .i64 (e : Int)); refine (HH1.out d2 _ HD2.out.stb.1 (HCUT.out.srt2 HR1.out HD2.out).1 (HCUT.out.srt2 HR1.out HD2.out).2 S2.out).mono ?_; rintro e' w3 ⟨rfl, d3, m3, s3⟩; have HD3 : Hid (Mg mid b d2 d3) := Lib.hid m3; have S3 : Aside (SW k w0 blk d3 w3) := s3; clear s3 m3))
          · have HH1 := Lib.hid hH
            have k1 : (decide (mid < e) && decide (e < b)) = false := by rw [Bool.and_eq_false_iff]; simp; omega
            go_wp2_with (first | (go_at_call_of 35 (Value.int .i64 (i : Int)); refine (HL1.out d _ rfl (HCUT.out.srt HR1.out).1 (HCUT.out.srt HR1.out).2.1 S1'.out).mono ?_; rintro e' w2 ⟨rfl, d2, m2, s2⟩; have HD2 : Hid (Mg a mid d d2) := Lib.hid m2; have S2 : Aside (SW k w0 blk d2 w2) := s2; clear s2 m2))
            go_end0
            exact ⟨rfl, d2, HCUT.out.all HR1.out HD2.out (HCUT.out.high HR1.out HD2.out HH1.out), S2.out⟩
        · have HL1 := Lib.hid hL
          have g1 : (decide (a < i) && decide (i < mid)) = false := by rw [Bool.and_eq_false_iff]; simp; omega
          by_cases hH : mid < e ∧ e < b
          · have HH1 := Lib.hid (HHT.out hH)
            obtain ⟨hH1, hH2⟩ := hH
            have k1 : decide ((mid : Int) < (e : Int)) = true := by simp; omega
            have k2 : decide ((e : Int) < (b : Int)) = true := by simp; omega
            have k1' : decide (mid < e) = true := by simp; omega
            have k2' : decide (e < b) = true := by simp; omega
            go_wp2_with (first | (go_at_call_of 35 (Value.int .i64 (e : Int)); refine (HH1.out d _ rfl (HCUT.out.srt2 HR1.out (HCUT.out.low HR1.out HL1.out)).1 (HCUT.out.srt2 HR1.out (HCUT.out.low HR1.out HL1.out)).2 S1'.out).mono ?_; rintro e' w3 ⟨rfl, d3, m3, s3⟩; have HD3 : Hid (Mg mid b d d3) := Lib.hid m3; have S3 : Aside (SW k w0 blk d3 w3) := s3; clear s3 m3))
          · have HH1 := Lib.hid hH
            have k1 : (decide (mid < e) && decide (e < b)) = false := by rw [Bool.and_eq_false_iff]; simp; omega
            go_wp2
            go_end0
            exact ⟨rfl, d, HCUT.out.all HR1.out (HCUT.out.low HR1.out HL1.out) (HCUT.out.high HR1.out (HCUT.out.low HR1.out HL1.out) HH1.out), S1'.out⟩

/-- Any two blocks in order, one behind the other. -/
theorem sym_all (k g : Nat) (cb : Array Value) (blk cap n : Nat) (d0 : Array Ev) (w0 : World) (eg : ∀ args w, (callFunc g args).run Try.prog w = .ok (.enter g args) w) (hC : CmpLays Try.prog g cb evc k cfE blk 0 d0.size w0) (R : RW k w0 blk d0) (hs : d0.size = n) (hsz : n < 2305843009213693952) :
    ∀ (N a m b : Nat), b - a ≤ N → a < m → m < b → b ≤ n → SymAt k g cb blk cap n w0 a m b
  | 0, a, m, b, hN, h1, h2, _ => by omega
  | N + 1, a, m, b, hN, h1, h2, h3 => by
    intro d w hd hA hB S
    subst hd
    by_cases c1 : m = a + 1
    · exact sym_one k g cb blk cap a m b d0 d w0 w eg hC R hs S c1 h2 h3 (by omega) hB
    · by_cases c2 : b = m + 1
      · exact sym_two k g cb blk cap a m b d0 d w0 w eg hC R hs S c1 h1 c2 h3 (by omega) hA
      · have IH : ∀ a' m' b', b' - a' < b - a → a' < m' → m' < b' → b' ≤ d.size → SymAt k g cb blk cap d.size w0 a' m' b' := fun a' m' b' x1 x2 x3 x4 =>
          sym_all k g cb blk cap d.size d0 w0 eg hC R hs hsz N a' m' b' (by omega) x2 x3 x4
        by_cases c3 : (a + b) / 2 < m
        · exact sym_hi k g cb blk cap a m b _ d0 d w0 w eg hC R hs S IH (by omega) (by omega) h3 hsz rfl c3 hA hB
        · exact sym_lo k g cb blk cap a m b _ d0 d w0 w eg hC R hs S IH (by omega) (by omega) h3 hsz rfl c3 hA hB

end Go.Proofs.Ytbdcpjpdonednaa
