/-
  What slices.SortStableFunc comes to at events, compared by their ticks: in order, and of each tick those that have it as they stood.
-/
import Derived.Test.YtbdcpjpdonednaaSymAll
namespace Go.Proofs.Ytbdcpjpdonednaa
open Go.RowKit Go.Shelf Go.Lib Go.Sort

theorem dvd_gap {s x a : Nat} (h1 : s ∣ x) (h2 : s ∣ a) (h : x < a) : x + s ≤ a := by
  have h3 : s ∣ a - x := Nat.dvd_sub h2 h1
  have := Nat.le_of_dvd (by omega) h3
  omega

/-- All blocks of length s ahead of a are in order. -/
def LoB (s a : Nat) (d : Array Ev) : Prop := ∀ x, x < a → s ∣ x → Srt x (x + s) d
/-- All blocks of length s from a on are. -/
def HiB (s a n : Nat) (d : Array Ev) : Prop := ∀ x, a ≤ x → x < n → s ∣ x → Srt x (min (x + s) n) d
theorem LoB.none (s : Nat) (d : Array Ev) : LoB s 0 d := fun _ hx => absurd hx (Nat.not_lt_zero _)
theorem LoB.more {s a : Nat} {d d' : Array Ev} (h : LoB s a d) (ha : s ∣ a) (ho : Out a (a + s) d d') (hs : Srt a (a + s) d') : LoB s (a + s) d' := fun x hx hd => by
  by_cases c : x < a
  · exact (h x c hd).out ho (Or.inl (dvd_gap hd ha c))
  · by_cases c' : x = a
    · subst c'; exact hs
    · have := dvd_gap ha hd (by omega); omega
theorem HiB.more {s s' a n : Nat} {d d' : Array Ev} (h : HiB s a n d) (ho : Out a (a + s') d d') : HiB s (a + s') n d' := fun x hx hn hd => (h x (by omega) hn hd).out ho (Or.inr (by omega))
/-- The last block is in order as well. -/
theorem LoB.last {s a n : Nat} {d d' : Array Ev} (h : LoB s a d) (ha : s ∣ a) (han : a ≤ n) (hn : n < a + s) (ho : Out a n d d') (hs : Srt a n d') : HiB s 0 n d' := fun x _ hx hd => by
  by_cases c : x < a
  · have := dvd_gap hd ha c
    exact ((h x c hd).out ho (Or.inl this)).part (Nat.le_refl _) (by omega)
  · by_cases c' : x = a
    · subst c'; exact hs.part (Nat.le_refl _) (by omega)
    · have := dvd_gap ha hd (by omega); omega
theorem HiB.two {s a n : Nat} {d : Array Ev} (h : HiB s a n d) (hs : 0 < s) (ha : 2 * s ∣ a) (hm : a + s < n) : Srt a (a + s) d ∧ Srt (a + s) (min (a + 2 * s) n) d := by
  have ha' : s ∣ a := Nat.dvd_trans (Nat.dvd_mul_left s 2) ha
  have h1 := h a (Nat.le_refl _) (by omega) ha'
  have h2 := h (a + s) (by omega) hm (Nat.dvd_add ha' (Nat.dvd_refl s))
  exact ⟨h1.part (Nat.le_refl _) (by omega), h2.part (Nat.le_refl _) (by omega)⟩
theorem HiB.one {s a n : Nat} {d : Array Ev} (h : HiB s a n d) (ha : 2 * s ∣ a) (han : a ≤ n) (hm : ¬ a + s < n) : Srt a n d := by
  by_cases c : a < n
  · have h1 := h a (Nat.le_refl _) c (Nat.dvd_trans (Nat.dvd_mul_left s 2) ha)
    exact h1.part (Nat.le_refl _) (by omega)
  · exact Srt.few (by omega)
theorem HiB.all {s n : Nat} {d : Array Ev} (h : HiB s 0 n d) (hs : ¬ s < n) : Srt 0 n d := by
  by_cases c : 0 < n
  · exact (h 0 (Nat.le_refl _) c (Nat.dvd_zero s)).part (Nat.le_refl _) (by omega)
  · exact Srt.few (by omega)

/-- What the stable sort tells. -/
def StRet (k : Nat) (w0 : World) (blk n : Nat) (d : Array Ev) (e : Ending) (w' : World) : Prop := e = .returned (.tuple #[]) ∧ ∃ d', Stb d d' ∧ Srt 0 n d' ∧ SW k w0 blk d' w'

set_option maxHeartbeats 4000000 in
set_option maxRecDepth 1000000 in
theorem stable_any (k g : Nat) (cb : Array Value) (blk cap n : Nat) (d0 d : Array Ev) (w0 w : World) (eg : ∀ args w, (callFunc g args).run Try.prog w = .ok (.enter g args) w) (hC : CmpLays Try.prog g cb evc k cfE blk 0 d0.size w0) (R : RW k w0 blk d0) (hs : d0.size = n) (hd : d.size = n) (S : SW k w0 blk d w) (hsz : n < 1152921504606846976) :
    Calls Try.prog 31 #[.slice (some ⟨blk, 0, none⟩) n cap, .int .i64 n, .func (.func g) #[] cb] w (StRet k w0 blk n d) := by
  have S0 : Aside (SW k w0 blk d w) := S
  have HI : Hid (∀ (dk : Array Ev) (W : World) (a b : Nat), dk.size = n → SW k w0 blk dk W → a ≤ b → b ≤ n → Calls Try.prog 34 #[.slice (some ⟨blk, 0, none⟩) n cap, .int .i64 a, .int .i64 b, .func (.func g) #[] cb] W fun e w' => e = .returned (.tuple #[]) ∧ ∃ d', (Stb dk d' ∧ Out a b dk d' ∧ Srt a b d') ∧ SW k w0 blk d' w') := Lib.hid (fun dk W a b hk hS h1 h2 => by
    have h := ins_any k g cb blk cap a b d0 dk w0 W eg hC R (by omega) hS h1 (by omega) (by omega)
    rw [hk] at h
    exact h)
  have HM : Hid (∀ a m b, a < m → m < b → b ≤ n → SymAt k g cb blk cap n w0 a m b) := Lib.hid (fun a m b h1 h2 h3 => sym_all k g cb blk cap n d0 w0 eg hC R hs (by omega) _ a m b (Nat.le_refl _) h1 h2 h3)
  clear S hC R
  go_enter Try.func31, Try.ntmps31
  go_wp2
  go_loopw [7, 8] (fun s s' wr => ∃ (a : Nat) (dk : Array Ev), s = .int .i64 a ∧ s' = .int .i64 ((a : Int) + 20) ∧ a ≤ n ∧ Aside (SW k w0 blk dk wr) ∧ Aside (20 ∣ a ∧ Stb d dk ∧ LoB 20 a dk)) (fun s _ _ => n - (intOf s).toNat)
  case atStart => exact ⟨0, d, rfl, rfl, Nat.zero_le _, S0, (⟨Nat.dvd_zero _, Stb.refl d, LoB.none _ _⟩ : 20 ∣ 0 ∧ Stb d d ∧ LoB 20 0 d)⟩
  case round =>
    clear S0
    obtain ⟨a, dk, rfl, rfl, han, S1, I⟩ := hrel
    obtain ⟨b, hb⟩ : ∃ b, b = a + 20 := ⟨_, rfl⟩
    have eb : (a : Int) + 20 = (b : Int) := by omega
    have hdk : dk.size = n := by have := I.out.2.1.1; omega
    rw [eb]
    by_cases hlt : b ≤ n
    · have hC1 := Lib.hid (HI.out dk wr a b hdk S1.out (by omega) hlt)
      have HB : Hid (b = a + 20) := Lib.hid hb
      have hab : a ≤ b := by omega
      clear hb eb S1
      go_wp2_with (go_at_call 34; refine hC1.out.mono ?_; rintro e w2 ⟨rfl, d', h', s'⟩; have H' := Lib.hid h'; have S' : Aside (SW k w0 blk d' w2) := s'; clear h' s')
      go_roundw
      case rel =>
        have hb := HB.out
        have I' : Aside (20 ∣ b ∧ Stb d d' ∧ LoB 20 b d') := by
          obtain ⟨i1, i2, i3⟩ := I.out
          obtain ⟨j1, j2, j3⟩ := H'.out
          rw [hb] at j2 j3 ⊢
          exact (⟨Nat.dvd_add i1 (Nat.dvd_refl _), i2.trans j1, i3.more i1 j2 j3⟩ : 20 ∣ (a + 20) ∧ Stb d d' ∧ LoB 20 (a + 20) d')
        exact ⟨b, d', by go_num, by go_num, hlt, S', I'⟩
      case measure => have hb := HB.out; simp [intOf]; omega
    · have hC1 := Lib.hid (HI.out dk wr a n hdk S1.out han (Nat.le_refl _))
      have HB : Hid (b = a + 20) := Lib.hid hb
      have hab : a ≤ b := by omega
      have hbb : b < 4611686018427387904 := by omega
      clear hb eb S1
      go_wp2_with (go_at_call 34; refine hC1.out.mono ?_; rintro e w2 ⟨rfl, d', h', s'⟩; have H' := Lib.hid h'; have S' : Aside (SW k w0 blk d' w2) := s'; clear h' s')
      have I' : Aside (Stb d d' ∧ HiB 20 0 n d') := by
        obtain ⟨i1, i2, i3⟩ := I.out
        obtain ⟨j1, j2, j3⟩ := H'.out
        have hb := HB.out
        exact (⟨i2.trans j1, i3.last i1 han (by omega) j2 j3⟩ : Stb d d' ∧ HiB 20 0 n d')
      clear H' I hC1 HB hdk
      go_loopw [6] (fun s wr => ∃ (z : Nat) (dk : Array Ev), s = .int .i64 z ∧ 0 < z ∧ z < 2305843009213693952 ∧ Aside (SW k w0 blk dk wr) ∧ Aside (Stb d dk ∧ HiB z 0 n dk)) (fun s _ => n - (intOf s).toNat)
      case atStart => exact ⟨20, d', rfl, by omega, by omega, S', I'⟩
      case round =>
        clear S' I'
        obtain ⟨z, dk, rfl, hz0, hzb, S1, I⟩ := hrel
        by_cases hzn : z < n
        · obtain ⟨y, hy⟩ : ∃ y, y = 2 * z := ⟨_, rfl⟩
          have ey : (2 : Int) * (z : Int) = (y : Int) := by omega
          have ey2 : (z : Int) * 2 = (y : Int) := by omega
          have hyb : 0 < y ∧ y < 2305843009213693952 := by omega
          have HY : Hid (y = 2 * z) := Lib.hid hy
          have hzy : z ≤ y := by omega
          clear hy
          go_wp2
          go_loopw [7, 8] (fun s s' wr => ∃ (a : Nat) (dk : Array Ev), s = .int .i64 a ∧ s' = .int .i64 ((a : Int) + y) ∧ a ≤ n ∧ Aside (SW k w0 blk dk wr) ∧ Aside (y ∣ a ∧ Stb d dk ∧ LoB y a dk ∧ HiB z a n dk)) (fun s _ _ => n - (intOf s).toNat)
          case atStart => exact ⟨0, dk, rfl, by congr 1; omega, Nat.zero_le _, S1, (⟨Nat.dvd_zero _, I.out.1, LoB.none _ _, I.out.2⟩ : y ∣ 0 ∧ Stb d dk ∧ LoB y 0 dk ∧ HiB z 0 n dk)⟩
          case round =>
            clear S1 I
            obtain ⟨a, dk, rfl, rfl, han, S1, I⟩ := hrel
            have hdk : dk.size = n := by have := I.out.2.1.1; omega
            obtain ⟨b, hb⟩ : ∃ b, b = a + y := ⟨_, rfl⟩
            have eb : (a : Int) + (y : Int) = (b : Int) := by omega
            obtain ⟨m, hm⟩ : ∃ m, m = a + z := ⟨_, rfl⟩
            have em : (a : Int) + (z : Int) = (m : Int) := by omega
            have hmb : m < 4611686018427387904 ∧ b < 4611686018427387904 := by omega
            have HB : Hid (b = a + y ∧ m = a + z ∧ y = 2 * z) := Lib.hid ⟨hb, hm, HY.out⟩
            have hyz := HY.out
            rw [eb]
            by_cases hlt : b ≤ n
            · have hC1 := Lib.hid (HM.out a m b (by omega) (by omega) hlt dk wr hdk (by rw [hm]; exact (I.out.2.2.2.two hz0 (by rw [← hyz]; exact I.out.1) (by omega)).1) (by have h := (I.out.2.2.2.two hz0 (by rw [← hyz]; exact I.out.1) (by omega)).2; rw [hm]; exact h.part (Nat.le_refl _) (by omega)) S1.out)
              have hab : a ≤ b := by omega
              clear hb hm hyz S1 eb
              go_wp2_with (go_at_call 35; refine hC1.out.mono ?_; rintro e w3 ⟨rfl, d2, h', s'⟩; have H' := Lib.hid h'; have S' : Aside (SW k w0 blk d2 w3) := s'; clear h' s')
              go_roundw
              case rel =>
                have hb := HB.out
                have I' : Aside (y ∣ b ∧ Stb d d2 ∧ LoB y b d2 ∧ HiB z b n d2) := by
                  obtain ⟨i1, i2, i3, i4⟩ := I.out
                  have hM := H'.out
                  rw [hb.1] at hM ⊢
                  exact (⟨Nat.dvd_add i1 (Nat.dvd_refl _), i2.trans hM.stb, i3.more i1 hM.out hM.srt, i4.more hM.out⟩ : y ∣ (a + y) ∧ Stb d d2 ∧ LoB y (a + y) d2 ∧ HiB z (a + y) n d2)
                exact ⟨b, d2, by go_num, by go_num, hlt, S', I'⟩
              case measure => have hb := HB.out; simp [intOf]; omega
            · by_cases hmn : m < n
              · have hC1 := Lib.hid (HM.out a m n (by omega) hmn (Nat.le_refl _) dk wr hdk (by rw [hm]; exact (I.out.2.2.2.two hz0 (by rw [← hyz]; exact I.out.1) (by omega)).1) (by have h := (I.out.2.2.2.two hz0 (by rw [← hyz]; exact I.out.1) (by omega)).2; rw [hm]; exact h.part (Nat.le_refl _) (by omega)) S1.out)
                have hab : a ≤ b := by omega
                clear hb hm hyz S1 eb
                go_wp2_with (go_at_call 35; refine hC1.out.mono ?_; rintro e w3 ⟨rfl, d2, h', s'⟩; have H' := Lib.hid h'; have S' : Aside (SW k w0 blk d2 w3) := s'; clear h' s')
                go_roundw
                case rel =>
                  have hb := HB.out
                  have I' : Aside (Stb d d2 ∧ HiB y 0 n d2) := by
                    obtain ⟨i1, i2, i3, i4⟩ := I.out
                    have hM := H'.out
                    exact (⟨i2.trans hM.stb, i3.last i1 han (by omega) hM.out hM.srt⟩ : Stb d d2 ∧ HiB y 0 n d2)
                  exact ⟨y, d2, by go_num, by omega, by omega, S', I'⟩
                case measure => have hb := HB.out; simp [intOf]; omega
              · have hab : a ≤ b := by omega
                have I' : Aside (Stb d dk ∧ HiB y 0 n dk) := by
                  obtain ⟨i1, i2, i3, i4⟩ := I.out
                  exact (⟨i2, i3.last i1 han (by omega) (fun _ _ => rfl) (i4.one (by rw [← hyz]; exact i1) han (by omega))⟩ : Stb d dk ∧ HiB y 0 n dk)
                clear hb hm hyz eb
                go_wp2
                go_roundw
                case rel => exact ⟨y, dk, by go_num, by omega, by omega, S1, I'⟩
                case measure => have hb := HB.out; simp [intOf]; omega
        · go_wp2
          go_end0
          exact ⟨rfl, dk, I.out.1, I.out.2.all hzn, S1.out⟩

end Go.Proofs.Ytbdcpjpdonednaa
