/-
  What slices.symMergeCmpFunc comes to at events, compared by their ticks: two blocks in order, one behind the other, become one in order; of each tick those that have it stay as they stood.
-/
import Derived.Test.YtbdcpjpdonednaaStableCmp
namespace Go.Proofs.Ytbdcpjpdonednaa
open Go.RowKit Go.Shelf Go.Lib Go.Sort

theorem rot_none (a b : Nat) (f : Nat → Ev) (i : Nat) : rot a b b f i = f i := by
  unfold rot
  by_cases c0 : i < a ∨ b ≤ i
  · rw [if_pos c0]
  · rw [if_neg c0, if_neg (by omega)]
    congr 1; omega
theorem rot_nil (a b : Nat) (f : Nat → Ev) (i : Nat) : rot a a b f i = f i := by
  unfold rot
  by_cases c0 : i < a ∨ b ≤ i
  · rw [if_pos c0]
  · rw [if_neg c0, if_pos (by omega)]
    congr 1; omega

/-- What symMerge tells: the row, merged. -/
def MgRet (k : Nat) (w0 : World) (blk a b : Nat) (d : Array Ev) (e : Ending) (w' : World) : Prop := e = .returned (.tuple #[]) ∧ ∃ d', Mg a b d d' ∧ SW k w0 blk d' w'

set_option maxHeartbeats 4000000 in
set_option maxRecDepth 1000000 in
theorem sym_one (k g : Nat) (cb : Array Value) (blk cap a m b : Nat) (d0 d : Array Ev) (w0 w : World) (eg : ∀ args w, (callFunc g args).run Try.prog w = .ok (.enter g args) w) (hC : CmpLays Try.prog g cb evc k cfE blk 0 d0.size w0) (R : RW k w0 blk d0) (hs : d0.size = d.size) (S : SW k w0 blk d w)
    (hma : m = a + 1) (hmb : m < b) (hb : b ≤ d.size) (hsz : d.size < 4611686018427387904) (hB : Srt m b d) :
    Calls Try.prog 35 #[.slice (some ⟨blk, 0, none⟩) d.size cap, .int .i64 a, .int .i64 m, .int .i64 b, .func (.func g) #[] cb] w (MgRet k w0 blk a b d) := by
  have mixed : Try.prog.follows .mixedOrders = true := by kernel_rfl
  have aE := agg_ev
  have zE := R.size
  have S0 : Aside (SW k w0 blk d w) := S
  have HC : Aside _ := hC
  have HB : Aside (Srt m b d) := hB
  clear S hC hB
  have e1 : (m : Int) - (a : Int) = 1 := by omega
  have HM : Hid (m = a + 1) := Lib.hid hma
  have ham : a < m := by omega
  clear hma
  go_enter Try.func35, Try.ntmps35
  go_wp2
  go_loopw [10, 11] (fun s s' wr => ∃ (i j : Nat), s = .int .i64 i ∧ s' = .int .i64 j ∧ m ≤ i ∧ i ≤ j ∧ j ≤ b ∧ Aside (SW k w0 blk d wr) ∧ Aside ((∀ h, m ≤ h → h < i → (d[h]!).tk < (d[a]!).tk) ∧ (∀ h, j ≤ h → h < b → (d[a]!).tk ≤ (d[h]!).tk))) (fun s s' _ => (intOf s').toNat - (intOf s).toNat)
  case atStart => exact ⟨m, b, rfl, rfl, Nat.le_refl _, by omega, Nat.le_refl _, S0, (⟨fun h h1 h2 => by omega, fun h h1 h2 => by omega⟩ : (∀ h, m ≤ h → h < m → (d[h]!).tk < (d[a]!).tk) ∧ (∀ h, b ≤ h → h < b → (d[a]!).tk ≤ (d[h]!).tk))⟩
  case round =>
    clear S0
    obtain ⟨i, j, rfl, rfl, hmi, hij, hjb, S1, I⟩ := hrel
    by_cases hlt : i < j
    · obtain ⟨h, hh⟩ : ∃ h, h = (i + j) / 2 := ⟨_, rfl⟩
      have eh : ((i : Int) + (j : Int)) / 2 = (h : Int) := by omega
      have hh1 : Hid (i ≤ h ∧ h < j) := Lib.hid (by omega)
      have n1 : ((h : Int)).toNat = h := by omega
      have p1 : (0 : Int) ≤ (h : Int) := by omega
      have b1 : (h : Int) < (d.size : Int) := by omega
      have r1 : IntKind.i64.wrap ((h : Int)) = (h : Int) := by rw [IntKind.wrap_i64]; omega
      have n2 : ((a : Int)).toNat = a := by omega
      have p2 : (0 : Int) ≤ (a : Int) := by omega
      have b2 : (a : Int) < (d.size : Int) := by omega
      have r2 : IntKind.i64.wrap ((a : Int)) = (a : Int) := by rw [IntKind.wrap_i64]; omega
      obtain ⟨x, hx⟩ : ∃ x, x = d[h]! := ⟨_, rfl⟩
      obtain ⟨y, hy⟩ : ∃ x, x = d[a]! := ⟨_, rfl⟩
      have la := S1.out.ld R (by omega) Try.prog h (by omega)
      have lb := S1.out.ld R (by omega) Try.prog a (by omega)
      rw [← hx, Nat.zero_add] at la
      rw [← hy, Nat.zero_add] at lb
      have hc := S1.out.cmp HC.out (by omega) x y
      have HXY : Hid (x = d[h]! ∧ y = d[a]!) := Lib.hid ⟨hx, hy⟩
      have hbound : h + 1 < 4611686018427387904 := by omega
      clear hx hy hh
      by_cases hv : cfE x y < 0
      · have hd : decide (cfE x y < 0) = true := decide_eq_true hv
        have hlx : Hid ((d[h]!).tk < (d[a]!).tk) := Lib.hid (by rw [← HXY.out.1, ← HXY.out.2]; rw [cfE_lt] at hd; simpa using hd)
        go_wp2_with fail
        go_quiet_grown (first | (go_at_fn g; refine Calls.grown_of (hc _ _)))
        have S2 : Aside (SW k w0 blk d (grow (wr.drewN nq) osq)) := S1.out.grown nq osq
        clear la lb hc S1
        generalize grow (wr.drewN nq) osq = w2 at S2 ⊢
        clear nq osq
        go_wp2
        go_roundw
        case rel =>
          have := hh1.out
          exact ⟨h + 1, j, by go_num, rfl, by omega, by omega, hjb, S2, (⟨fun t t1 t2 => by have h3 := HB.out.le (i := t) (j := h) t1 (by omega) (by omega); have := hlx.out; omega, I.out.2⟩ : (∀ t, m ≤ t → t < h + 1 → (d[t]!).tk < (d[a]!).tk) ∧ _)⟩
        case measure => have := hh1.out; simp [intOf]; omega
      · have hd : decide (cfE x y < 0) = false := decide_eq_false hv
        have hlx : Hid ((d[a]!).tk ≤ (d[h]!).tk) := Lib.hid (by rw [← HXY.out.1, ← HXY.out.2]; rw [cfE_lt] at hd; simpa using hd)
        go_wp2_with fail
        go_quiet_grown (first | (go_at_fn g; refine Calls.grown_of (hc _ _)))
        have S2 : Aside (SW k w0 blk d (grow (wr.drewN nq) osq)) := S1.out.grown nq osq
        clear la lb hc S1
        generalize grow (wr.drewN nq) osq = w2 at S2 ⊢
        clear nq osq
        go_wp2
        go_roundw
        case rel =>
          have := hh1.out
          exact ⟨i, h, rfl, rfl, hmi, by omega, by omega, S2, (⟨I.out.1, fun t t1 t2 => by have h3 := HB.out.le (i := h) (j := t) (by omega) t1 t2; have := hlx.out; omega⟩ : _ ∧ (∀ t, h ≤ t → t < b → (d[a]!).tk ≤ (d[t]!).tk))⟩
        case measure => have := hh1.out; simp [intOf]; omega
    · obtain rfl : i = j := by omega
      have S0 := S1
      clear S1
      go_wp2
      go_loopw [13] (fun s wr => ∃ (q : Nat) (dk : Array Ev), s = .int .i64 q ∧ a ≤ q ∧ q ≤ i - 1 ∧ dk.size = d.size ∧ Aside (SW k w0 blk dk wr) ∧ Hid (∀ p, p < dk.size → dk[p]! = rot a (a + 1) (q + 1) (fun p => d[p]!) p)) (fun s _ => i - (intOf s).toNat)
      case atStart => exact ⟨a, d, rfl, Nat.le_refl _, by omega, rfl, S0, Lib.hid (fun p _ => (rot_none _ _ _ _).symm)⟩
      case round =>
        clear S0
        obtain ⟨q, dk, rfl, haq, hqi, hds, S1, HD⟩ := hrel
        have ei : (i : Int) - 1 = ((i - 1 : Nat) : Int) := by omega
        obtain ⟨i', hi'⟩ : ∃ i', i' = i - 1 := ⟨_, rfl⟩
        rw [← hi'] at ei
        by_cases hlt2 : q < i'
        · have HD' := Lib.hid (rot_up (d := dk) (a := a) (k := q) haq (by omega) HD.out rfl)
          obtain ⟨p, hp⟩ : ∃ p, p = q + 1 := ⟨_, rfl⟩
          rw [← hp] at HD'
          have ep : (q : Int) + 1 = (p : Int) := by omega
          have wp : IntKind.i64.wrap ((p : Int)) = (p : Int) := by rw [IntKind.wrap_i64]; omega
          have wq : IntKind.i64.wrap ((q : Int)) = (q : Int) := by rw [IntKind.wrap_i64]; omega
          have np : ((p : Int)).toNat = p := by omega
          have nq' : ((q : Int)).toNat = q := by omega
          have p0 : (0 : Int) ≤ (p : Int) := by omega
          have q0 : (0 : Int) ≤ (q : Int) := by omega
          have p1 : (p : Int) < (d.size : Int) := by omega
          have q1 : (q : Int) < (d.size : Int) := by omega
          have S2 : Aside (SW k w0 blk (swp dk q p) ((wr.drew.setCells blk (0 + q * k) (evc dk[p]!)).setCells blk (0 + p * k) (evc dk[q]!))) := S1.out.swapped R q p (by omega) (by omega)
          have la := S1.out.ld1 R (by omega) Try.prog q (by omega)
          have lb := S1.out.ld1 R (by omega) Try.prog p (by omega)
          have sa := S1.out.st1 R (by omega) Try.prog q (by omega) dk[p]!
          have sb := S1.out.st2 R (by omega) Try.prog q p (by omega) (by omega) dk[p]! dk[q]!
          have na : (evc dk[q]!).length = k := R.hk _
          have nb : (evc dk[p]!).length = k := R.hk _
          rw [Nat.zero_add] at S2 la lb sa sb
          rw [Nat.zero_add] at S2 sb
          generalize evc dk[q]! = cI at S2 la sb na
          generalize evc dk[p]! = cJ at S2 lb sa sb nb
          have HP : Hid (p = q + 1 ∧ p ≤ i - 1) := Lib.hid (by omega)
          clear S1 hp
          go_wp2_with fail
          go_big_region_o
          clear la lb sa sb
          generalize (wr.drew.setCells blk (q * k) cJ).setCells blk (p * k) cI = w2 at S2 ⊢
          go_wp2
          go_roundw
          case rel =>
            obtain ⟨rfl, h3⟩ := HP.out
            exact ⟨q + 1, swp dk q (q + 1), by go_num, by omega, h3, by rw [size_swp]; exact hds, S2, HD'⟩
          case measure => have := HP.out; simp [intOf]; omega
        · obtain rfl : q = i - 1 := by omega
          go_wp2
          go_end0
          have hma := HM.out
          refine ⟨rfl, dk, Mg.ahead (i := i) hb (by omega) hjb hds (fun p hp => ?_) (by rw [← hma]; exact HB.out) (by rw [← hma]; exact I.out.1) I.out.2, S1.out⟩
          rw [HD.out p (by omega), show i - 1 + 1 = i by omega]

set_option maxHeartbeats 4000000 in
set_option maxRecDepth 1000000 in
theorem sym_two (k g : Nat) (cb : Array Value) (blk cap a m b : Nat) (d0 d : Array Ev) (w0 w : World) (eg : ∀ args w, (callFunc g args).run Try.prog w = .ok (.enter g args) w) (hC : CmpLays Try.prog g cb evc k cfE blk 0 d0.size w0) (R : RW k w0 blk d0) (hs : d0.size = d.size) (S : SW k w0 blk d w)
    (hma : m ≠ a + 1) (ham : a < m) (hbm : b = m + 1) (hb : b ≤ d.size) (hsz : d.size < 4611686018427387904) (hA : Srt a m d) :
    Calls Try.prog 35 #[.slice (some ⟨blk, 0, none⟩) d.size cap, .int .i64 a, .int .i64 m, .int .i64 b, .func (.func g) #[] cb] w (MgRet k w0 blk a b d) := by
  have mixed : Try.prog.follows .mixedOrders = true := by kernel_rfl
  have aE := agg_ev
  have zE := R.size
  have S0 : Aside (SW k w0 blk d w) := S
  have HC : Aside _ := hC
  have HA : Aside (Srt a m d) := hA
  clear S hC hA
  have t1 : ((m : Int) - (a : Int) == 1) = false := by rw [beq_eq_false_iff_ne]; omega
  have e1 : (b : Int) - (m : Int) = 1 := by omega
  have HM : Hid (b = m + 1) := Lib.hid hbm
  have hmb : m < b := by omega
  clear hbm hma
  go_enter Try.func35, Try.ntmps35
  go_wp2
  go_loopw [14, 15] (fun s s' wr => ∃ (i j : Nat), s = .int .i64 i ∧ s' = .int .i64 j ∧ a ≤ i ∧ i ≤ j ∧ j ≤ m ∧ Aside (SW k w0 blk d wr) ∧ Aside ((∀ h, a ≤ h → h < i → (d[h]!).tk ≤ (d[m]!).tk) ∧ (∀ h, j ≤ h → h < m → (d[m]!).tk < (d[h]!).tk))) (fun s s' _ => (intOf s').toNat - (intOf s).toNat)
  case atStart => exact ⟨a, m, rfl, rfl, Nat.le_refl _, by omega, Nat.le_refl _, S0, (⟨fun h h1 h2 => by omega, fun h h1 h2 => by omega⟩ : (∀ h, a ≤ h → h < a → (d[h]!).tk ≤ (d[m]!).tk) ∧ (∀ h, m ≤ h → h < m → (d[m]!).tk < (d[h]!).tk))⟩
  case round =>
    clear S0
    obtain ⟨i, j, rfl, rfl, hmi, hij, hjb, S1, I⟩ := hrel
    by_cases hlt : i < j
    · obtain ⟨h, hh⟩ : ∃ h, h = (i + j) / 2 := ⟨_, rfl⟩
      have eh : ((i : Int) + (j : Int)) / 2 = (h : Int) := by omega
      have hh1 : Hid (i ≤ h ∧ h < j) := Lib.hid (by omega)
      have n1 : ((h : Int)).toNat = h := by omega
      have p1 : (0 : Int) ≤ (h : Int) := by omega
      have b1 : (h : Int) < (d.size : Int) := by omega
      have r1 : IntKind.i64.wrap ((h : Int)) = (h : Int) := by rw [IntKind.wrap_i64]; omega
      have n2 : ((m : Int)).toNat = m := by omega
      have p2 : (0 : Int) ≤ (m : Int) := by omega
      have b2 : (m : Int) < (d.size : Int) := by omega
      have r2 : IntKind.i64.wrap ((m : Int)) = (m : Int) := by rw [IntKind.wrap_i64]; omega
      obtain ⟨x, hx⟩ : ∃ x, x = d[m]! := ⟨_, rfl⟩
      obtain ⟨y, hy⟩ : ∃ x, x = d[h]! := ⟨_, rfl⟩
      have la := S1.out.ld R (by omega) Try.prog m (by omega)
      have lb := S1.out.ld R (by omega) Try.prog h (by omega)
      rw [← hx, Nat.zero_add] at la
      rw [← hy, Nat.zero_add] at lb
      have hc := S1.out.cmp HC.out (by omega) x y
      have HXY : Hid (x = d[m]! ∧ y = d[h]!) := Lib.hid ⟨hx, hy⟩
      have hbound : h + 1 < 4611686018427387904 := by omega
      clear hx hy hh
      by_cases hv : cfE x y < 0
      · have hd : decide (cfE x y < 0) = true := decide_eq_true hv
        have hlx : Hid ((d[m]!).tk < (d[h]!).tk) := Lib.hid (by rw [← HXY.out.1, ← HXY.out.2]; rw [cfE_lt] at hd; simpa using hd)
        go_wp2_with fail
        go_quiet_grown (first | (go_at_fn g; refine Calls.grown_of (hc _ _)))
        have S2 : Aside (SW k w0 blk d (grow (wr.drewN nq) osq)) := S1.out.grown nq osq
        clear la lb hc S1
        generalize grow (wr.drewN nq) osq = w2 at S2 ⊢
        clear nq osq
        go_wp2
        go_roundw
        case rel =>
          have := hh1.out
          exact ⟨i, h, rfl, rfl, hmi, by omega, by omega, S2, (⟨I.out.1, fun t t1 t2 => by have h3 := HA.out.le (i := h) (j := t) (by omega) t1 t2; have := hlx.out; omega⟩ : _ ∧ (∀ t, h ≤ t → t < m → (d[m]!).tk < (d[t]!).tk))⟩
        case measure => have := hh1.out; simp [intOf]; omega
      · have hd : decide (cfE x y < 0) = false := decide_eq_false hv
        have hlx : Hid ((d[h]!).tk ≤ (d[m]!).tk) := Lib.hid (by rw [← HXY.out.1, ← HXY.out.2]; rw [cfE_lt] at hd; simpa using hd)
        go_wp2_with fail
        go_quiet_grown (first | (go_at_fn g; refine Calls.grown_of (hc _ _)))
        have S2 : Aside (SW k w0 blk d (grow (wr.drewN nq) osq)) := S1.out.grown nq osq
        clear la lb hc S1
        generalize grow (wr.drewN nq) osq = w2 at S2 ⊢
        clear nq osq
        go_wp2
        go_roundw
        case rel =>
          have := hh1.out
          exact ⟨h + 1, j, by go_num, rfl, by omega, by omega, hjb, S2, (⟨fun t t1 t2 => by have h3 := HA.out.le (i := t) (j := h) t1 (by omega) (by omega); have := hlx.out; omega, I.out.2⟩ : (∀ t, a ≤ t → t < h + 1 → (d[t]!).tk ≤ (d[m]!).tk) ∧ _)⟩
        case measure => have := hh1.out; simp [intOf]; omega
    · obtain rfl : i = j := by omega
      have S0 := S1
      clear S1
      go_wp2
      go_loopw [17] (fun s wr => ∃ (q : Nat) (dk : Array Ev), s = .int .i64 q ∧ i ≤ q ∧ q ≤ m ∧ dk.size = d.size ∧ Aside (SW k w0 blk dk wr) ∧ Hid (∀ p, p < dk.size → dk[p]! = rot q m (m + 1) (fun p => d[p]!) p)) (fun s _ => (intOf s).toNat)
      case atStart => exact ⟨m, d, rfl, hjb, Nat.le_refl _, rfl, S0, Lib.hid (fun p _ => (rot_nil _ _ _ _).symm)⟩
      case round =>
        clear S0
        obtain ⟨q, dk, rfl, haq, hqi, hds, S1, HD⟩ := hrel
        by_cases hlt2 : i < q
        · obtain ⟨p, hp⟩ : ∃ p, q = p + 1 := ⟨q - 1, by omega⟩
          have HD' := Lib.hid (rot_down (d := dk) (k := p) (m := m) (by omega) (by omega) (by rw [← hp]; exact HD.out) rfl)
          rw [← hp] at HD'
          have ep : (q : Int) - 1 = (p : Int) := by omega
          have wp : IntKind.i64.wrap ((p : Int)) = (p : Int) := by rw [IntKind.wrap_i64]; omega
          have wq : IntKind.i64.wrap ((q : Int)) = (q : Int) := by rw [IntKind.wrap_i64]; omega
          have np : ((p : Int)).toNat = p := by omega
          have nq' : ((q : Int)).toNat = q := by omega
          have p0 : (0 : Int) ≤ (p : Int) := by omega
          have q0 : (0 : Int) ≤ (q : Int) := by omega
          have p1 : (p : Int) < (d.size : Int) := by omega
          have q1 : (q : Int) < (d.size : Int) := by omega
          have S2 : Aside (SW k w0 blk (swp dk q p) ((wr.drew.setCells blk (0 + q * k) (evc dk[p]!)).setCells blk (0 + p * k) (evc dk[q]!))) := S1.out.swapped R q p (by omega) (by omega)
          have la := S1.out.ld1 R (by omega) Try.prog q (by omega)
          have lb := S1.out.ld1 R (by omega) Try.prog p (by omega)
          have sa := S1.out.st1 R (by omega) Try.prog q (by omega) dk[p]!
          have sb := S1.out.st2 R (by omega) Try.prog q p (by omega) (by omega) dk[p]! dk[q]!
          have na : (evc dk[q]!).length = k := R.hk _
          have nb : (evc dk[p]!).length = k := R.hk _
          rw [Nat.zero_add] at S2 la lb sa sb
          rw [Nat.zero_add] at S2 sb
          generalize evc dk[q]! = cI at S2 la sb na
          generalize evc dk[p]! = cJ at S2 lb sa sb nb
          have HP : Hid (q = p + 1 ∧ i ≤ p) := Lib.hid (by omega)
          clear S1 hp
          go_wp2_with fail
          go_big_region_o
          clear la lb sa sb
          generalize (wr.drew.setCells blk (q * k) cJ).setCells blk (p * k) cI = w2 at S2 ⊢
          go_wp2
          go_roundw
          case rel =>
            obtain ⟨h2, h3⟩ := HP.out
            exact ⟨p, swp dk q p, by go_num, h3, by omega, by rw [size_swp]; exact hds, S2, HD'⟩
          case measure => have := HP.out; simp [intOf]; omega
        · obtain rfl : q = i := by omega
          go_wp2
          go_end0
          have hbm := HM.out
          subst hbm
          exact ⟨rfl, dk, Mg.behind (i := q) hb hmi hqi hds (fun p hp => HD.out p (by omega)) HA.out I.out.1 I.out.2, S1.out⟩

end Go.Proofs.Ytbdcpjpdonednaa
