/-
  What Put and New of the document's agenda come to.
-/
import Derived.Test.YtfkidghillnknaaRefAg
namespace Go.Proofs.Ytfkidghillnknaa
open Go.RowKit

theorem putK_due (es : List Ev) (x : Ev) : putK es x = due x.tk es ++ x :: yet x.tk es := rfl

/-- Another row is kept now. -/
theorem RG.stored {w w3 W : World} {F : Nat → Prop} {B : Nat} {v u : Value} {es : List Ev} (hB : RgB w3 B v) (hF : F B) (hl : ∀ k, F k → k < w.heap.size) (hb : But F w w3) (hW : Below w3.heap.size w3 W) (hO : OwnsE W w3.heap.size u es) :
    RG (W.setCell ⟨B, 0, none⟩ u) (Or2 F (Nw w (W.setCell ⟨B, 0, none⟩ u))) B es ∧ But F w (W.setCell ⟨B, 0, none⟩ u) := by
  have hs := hb.size
  have hs' := hW.size
  have hBl := hB.lt
  have hne : ∀ g, u.ownBlock = some g → g ≠ B := fun g e => by have := hO.ownBlock g e; omega
  have hsz : (W.setCell ⟨B, 0, none⟩ u).heap.size = W.heap.size := by simp [World.setCell]
  refine ⟨⟨u, (hB.keep (hW.block B hBl)).set u, (hO.mono (Nat.zero_le _)).blocks fun g e => Below.heap_setCell _ _ _ _ (hne g e), (fun e => hne B e rfl), .inl hF, fun g e => .inr ⟨by have := hO.ownBlock g e; omega, by rw [hsz]; exact hO.blt e⟩, fun k c => ?_⟩, ?_⟩
  · rcases c with c | c
    · have := hl k c; rw [hsz]; omega
    · exact c.2
  · exact (hb.trans (But.of_below (F := F) hW) fun _ _ c => c).trans (But.setCell W B 0 u) fun k _ c => by rw [c]; exact hF

set_option maxHeartbeats 8000000 in
set_option maxRecDepth 100000 in
theorem rPut_ok (B : Nat) (F : Nat → Prop) (es : List Ev) (x : Option Addr) (n cap : Nat) (ys : List Ev) (w : World) (h : RG w F B es) (hx : RdF w F x ys) (hn : ys.length = n) (hle : es.length + n ≤ 1024) :
    Calls Try.prog 20 #[.pointer (some ⟨B, 0, none⟩), .slice x n cap] w fun e w' => e = .returned (.int .i64 0) ∧ RG w' (Or2 F (Nw w w')) B (putAll es ys) ∧ But F w w' := by
  subst hn
  have HF := Lib.hid h.lt
  have HX := Lib.hid hx
  have HS : Hid (RG w (Or2 F (Nw w w)) B (putAll es (ys.take 0)) ∧ But F w w) := Lib.hid ⟨h.more (fun k c => .inl c) (fun k c => by rcases c with c | c; exact h.lt k c; exact c.2), But.refl _ _⟩
  obtain ⟨v0, h1, h2, -, hFB, -⟩ := h
  obtain ⟨x0, cap0, rfl, -⟩ := h2.form
  have c0 := h1.c0
  have HFB := Lib.hid hFB
  obtain ⟨e0, he0⟩ : ∃ e0, e0 = es.length := ⟨_, rfl⟩
  rw [← he0] at c0
  have t0 : decide ((1024 : Int) < (ys.length : Int)) = false := by simp; omega
  have t1 : decide ((1024 : Int) < (e0 : Int) + (ys.length : Int)) = false := by simp; omega
  have hb0 : e0 ≤ 1024 := by omega
  have HE0 := Lib.hid he0
  clear h1 h2 hx hFB he0
  go_enter Try.func20, Try.ntmps20
  go_wp2
  go_loopw [32] (fun i wr => ∃ k : Nat, k ≤ ys.length ∧ i = .int .i64 k ∧ Hid (RG wr (Or2 F (Nw w wr)) B (putAll es (ys.take k)) ∧ But F w wr)) (fun i _ => ys.length - (intOf i).toNat)
  case atStart => exact ⟨0, Nat.zero_le _, rfl, HS⟩
  case round =>
    clear HS c0
    obtain ⟨k, hk, rfl, HI⟩ := hrel
    by_cases hlt : k < ys.length
    · obtain ⟨b, off, rfl, hb, -, hc⟩ := (HX.out.but HI.out.2) (by omega)
      have hcu := hc k hlt
      have hT := putAll_one es ys k hlt
      obtain ⟨u, hu⟩ : ∃ u, u = ys.getD k noEv := ⟨_, rfl⟩
      rw [← hu] at hcu hT
      obtain ⟨⟨v, hB3, hO3, -⟩, hBt⟩ := HI.out
      have hkl := putAll_len es (ys.take k)
      rw [List.length_take] at hkl
      obtain ⟨ks, hks⟩ : ∃ ks, ks = putAll es (ys.take k) := ⟨_, rfl⟩
      rw [← hks] at hO3 hkl hT
      obtain ⟨xk, ck, rfl, -, -, hRk, -⟩ := hO3.form
      have hkb : ks.length ≤ 1024 := by omega
      have hBl := hB3.lt
      have c3 := hB3.c0
      have HB3 := Lib.hid hB3
      have HRk := Lib.hid hRk
      have HBt := Lib.hid hBt
      have HT := Lib.hid hT
      have HS6 := Lib.hid (Six.new wr u)
      have HW0 := Lib.hid (below_al (Below.refl _ wr) (evO u))
      obtain ⟨m, hm⟩ : ∃ m, m = ks.length := ⟨_, rfl⟩
      have HM := Lib.hid hm
      rw [← hm] at c3 hkb
      obtain ⟨u1, u2, u3, u4, u5, u6'⟩ := u
      obtain ⟨k0, k1, k2, k3, k4, k5⟩ := hcu
      unfold evO at HS6 HW0
      dsimp only at k0 k1 k2 k3 k4 k5 HW0
      clear hc hu hT hB3 hO3 hBt hkl hks hRk HI hm
      generalize wr = w3 at *
      go_wp2
      obtain ⟨W0, hW0⟩ : ∃ W0, W0 = w3.alloc (.cells #[.int .i64 u1, .int .i64 u2, .int .i64 u3, .int .i64 u4, .int .i64 u5, .int .u64 u6'] 39) := ⟨_, rfl⟩
      rw [← hW0]
      rw [← hW0] at HW0
      have HSx : Hid (Six W0 w3.heap.size ⟨u1, u2, u3, u4, u5, u6'⟩) := Lib.hid (by rw [hW0]; exact HS6.out)
      obtain ⟨R, hR⟩ : ∃ R, R = w3.heap.size := ⟨_, rfl⟩
      have HRl : Hid (R < W0.heap.size) := Lib.hid (by rw [hR]; exact HSx.out.at.lt)
      rw [← hR] at HSx ⊢
      clear hW0 hR HS6 k0 k1 k2 k3 k4 k5
      go_loopw [41, 7] (fun i v wr => ∃ j : Nat, j ≤ m ∧ i = .int .i64 j ∧ Hid (OwnsE wr W0.heap.size v (due u4 (ks.take j)) ∧ Below W0.heap.size W0 wr)) (fun i _ _ => m - (intOf i).toNat)
      case atStart => exact ⟨0, Nat.zero_le _, rfl, Lib.hid ⟨OwnsE.nil, Below.refl _ _⟩⟩
      case round =>
        obtain ⟨j, hj, rfl, HJ⟩ := hrel
        have ex : wr.cell? ⟨R, 3, none⟩ = some (.int .i64 u4) := by
          have := (HSx.out.at.below HJ.out.2).2.2.2.1
          rwa [Nat.zero_add] at this
        have hRw : R < wr.heap.size := by have := HRl.out; have := HJ.out.2.size; omega
        by_cases hjl : j < m
        · obtain ⟨b', off', rfl, hb', hc'⟩ := (HRk.out.below (below_on HW0.out HJ.out.2)) (by have := HM.out; omega)
          have hcy := hc' j (by have := HM.out; omega)
          have hd := due_one u4 ks j (by have := HM.out; omega)
          have hdl : (due u4 (ks.take j)).length ≤ 10000 := by have := due_len u4 (ks.take j); have := List.length_take_le j ks; omega
          obtain ⟨y, hy⟩ : ∃ y, y = ks.getD j noEv := ⟨_, rfl⟩
          rw [← hy] at hcy hd
          have hsx := SrcE.one (wr.alloc (evO y)) y
          rw [World.size_alloc] at hsx
          obtain ⟨y1, y2, y3, y4, y5, y6⟩ := y
          obtain ⟨k0, k1, k2, k3, k4, k5⟩ := hcy
          unfold evO at hsx
          dsimp only at k0 k1 k2 k3 k4 k5 hsx hd
          have HSy := Lib.hid hsx
          have HLd := Lib.hid hdl
          by_cases he : y4 ≤ u4
          · have t2 : decide (y4 ≤ u4) = true := by simpa using he
            rw [if_pos he] at hd
            have HD := Lib.hid hd
            clear hc' hy hsx hd he hdl
            go_wp2_with (at_builtin; refine wpList_append_ev rfl _ _ rfl W0.heap.size u7 (due u4 (ks.take j)) rfl ((HJ.out.1.alloc _).alloc _) _ 1 1 [⟨y1, y2, y3, y4, y5, y6⟩] rfl HSy.out (by have := HLd.out; omega) (by have := HJ.out.2.size; simp; omega) ?_; intro v4 w4 hO4 hg4)
            go_roundw
            case rel => exact ⟨j + 1, by omega, by congr 1, Lib.hid ⟨by rw [HD.out]; exact hO4, (below_al (below_al HJ.out.2 _) _).grown hg4 (by have := HJ.out.2.size; simp; omega) (fun g e => HJ.out.1.ownBlock g e)⟩⟩
            case measure => simp [intOf]; omega
          · have t2 : decide (y4 ≤ u4) = false := by simpa using he
            rw [if_neg he] at hd
            have HD := Lib.hid hd
            clear hc' hy hsx hd he hdl
            go_wp2
            go_roundw
            case rel => exact ⟨j + 1, by omega, by congr 1, Lib.hid ⟨by rw [HD.out]; exact HJ.out.1.alloc _, below_al HJ.out.2 _⟩⟩
            case measure => simp [intOf]; omega
        · have HP2 : Hid (OwnsE wr W0.heap.size u7 (due u4 ks) ∧ Below W0.heap.size W0 wr) := Lib.hid (by
            have := HJ.out
            rw [List.take_of_length_le (by have := HM.out; omega)] at this
            exact this)
          obtain ⟨r0, r1, r2, r3, r4, r5⟩ := HSx.out.at.below HJ.out.2
          dsimp only at r0 r1 r2 r3 r4 r5
          rw [Nat.zero_add] at r1 r2 r3 r4 r5
          have HSy := Lib.hid (SrcE.one wr ⟨u1, u2, u3, u4, u5, u6'⟩)
          unfold evO at HSy
          have hdl := Lib.hid (due_len u4 ks)
          have cB : ∀ W, Below W0.heap.size W0 W → W.cell? ⟨B, 0, none⟩ = some (.slice xk m ck) := fun W hW => (World.cell?_of_block ((below_on HW0.out hW).block B HB3.out.lt)).trans c3
          have HcB := Lib.hid cB
          clear HJ ex cB
          generalize wr = W2 at *
          go_wp2_with (at_builtin; refine wpList_append_ev rfl _ _ rfl W0.heap.size u7 (due u4 ks) rfl (HP2.out.1.alloc _) _ 1 1 [⟨u1, u2, u3, u4, u5, u6'⟩] rfl HSy.out (by have := hdl.out; have := HM.out; omega) (by have := HP2.out.2.size; simp; omega) ?_; intro v6 w6 hO6 hg6; have HP6 := Lib.hid (And.intro hO6 ((below_al HP2.out.2 _).grown hg6 (by have := HP2.out.2.size; simp; omega) (fun g e => HP2.out.1.ownBlock g e))); have b6 := HcB.out w6 HP6.out.2; clear hO6 hg6)
          have HT' : Hid (putAll es (ys.take (k + 1)) = due u4 ks ++ [(⟨u1, u2, u3, u4, u5, u6'⟩ : Ev)] ++ yet u4 ks) := Lib.hid (by rw [HT.out, putK_due]; simp)
          have hPl : Hid ((due u4 ks ++ [(⟨u1, u2, u3, u4, u5, u6'⟩ : Ev)]).length ≤ 5000) := Lib.hid (by have := hdl.out; have := HM.out; simp; omega)
          obtain ⟨Pr, hPr⟩ : ∃ Pr, Pr = due u4 ks ++ [(⟨u1, u2, u3, u4, u5, u6'⟩ : Ev)] := ⟨_, rfl⟩
          rw [← hPr] at HP6 HT' hPl
          clear hPr HT HP2 HSy r0 r1 r2 r3 r4 r5 hdl
          go_loopw [64, 7] (fun i v wr => ∃ j : Nat, j ≤ m ∧ i = .int .i64 j ∧ Hid (OwnsE wr W0.heap.size v (Pr ++ yet u4 (ks.take j)) ∧ Below W0.heap.size W0 wr)) (fun i _ _ => m - (intOf i).toNat)
          case atStart => exact ⟨0, Nat.zero_le _, rfl, Lib.hid ⟨by simpa [yet] using HP6.out.1, HP6.out.2⟩⟩
          case round =>
            obtain ⟨j, hj, rfl, HJ⟩ := hrel
            have ex : wr.cell? ⟨R, 3, none⟩ = some (.int .i64 u4) := by
              have := (HSx.out.at.below HJ.out.2).2.2.2.1
              rwa [Nat.zero_add] at this
            have hRw : R < wr.heap.size := by have := HRl.out; have := HJ.out.2.size; omega
            by_cases hjl : j < m
            · obtain ⟨b', off', rfl, hb', hc'⟩ := (HRk.out.below (below_on HW0.out HJ.out.2)) (by have := HM.out; omega)
              have hcy := hc' j (by have := HM.out; omega)
              have hd := yet_one u4 ks j (by have := HM.out; omega)
              have hdl : (Pr ++ yet u4 (ks.take j)).length ≤ 10000 := by have := yet_len u4 (ks.take j); have := List.length_take_le j ks; have := hPl.out; rw [List.length_append]; omega
              obtain ⟨y, hy⟩ : ∃ y, y = ks.getD j noEv := ⟨_, rfl⟩
              rw [← hy] at hcy hd
              have hsx := SrcE.one (wr.alloc (evO y)) y
              rw [World.size_alloc] at hsx
              obtain ⟨y1, y2, y3, y4, y5, y6⟩ := y
              obtain ⟨k0, k1, k2, k3, k4, k5⟩ := hcy
              unfold evO at hsx
              dsimp only at k0 k1 k2 k3 k4 k5 hsx hd
              have HSy := Lib.hid hsx
              have HLd := Lib.hid hdl
              by_cases he : u4 < y4
              · have t2 : decide (u4 < y4) = true := by simpa using he
                rw [if_pos he] at hd
                have HD := Lib.hid hd
                clear hc' hy hsx hd he hdl
                go_wp2_with (at_builtin; refine wpList_append_ev rfl _ _ rfl W0.heap.size u7 (Pr ++ yet u4 (ks.take j)) rfl ((HJ.out.1.alloc _).alloc _) _ 1 1 [⟨y1, y2, y3, y4, y5, y6⟩] rfl HSy.out (by have := HLd.out; omega) (by have := HJ.out.2.size; simp; omega) ?_; intro v4 w4 hO4 hg4)
                go_roundw
                case rel => exact ⟨j + 1, by omega, by congr 1, Lib.hid ⟨by rw [HD.out, ← List.append_assoc]; exact hO4, (below_al (below_al HJ.out.2 _) _).grown hg4 (by have := HJ.out.2.size; simp; omega) (fun g e => HJ.out.1.ownBlock g e)⟩⟩
                case measure => simp [intOf]; omega
              · have t2 : decide (u4 < y4) = false := by simpa using he
                rw [if_neg he] at hd
                have HD := Lib.hid hd
                clear hc' hy hsx hd he hdl
                go_wp2
                go_roundw
                case rel => exact ⟨j + 1, by omega, by congr 1, Lib.hid ⟨by rw [HD.out]; exact HJ.out.1.alloc _, below_al HJ.out.2 _⟩⟩
                case measure => simp [intOf]; omega
            · have hO7 : OwnsE wr W0.heap.size u7 (putAll es (ys.take (k + 1))) := by
                have := HJ.out.1
                rw [List.take_of_length_le (by have := HM.out; omega), ← HT'.out] at this
                exact this
              obtain ⟨x7, c7, rfl, -⟩ := hO7.form
              have HE := Lib.hid (RG.stored (F := F) HB3.out HFB.out HF.out HBt.out (below_on HW0.out HJ.out.2) (hO7.mono HW0.out.size))
              have hbw := HB3.out.keep ((below_on HW0.out HJ.out.2).block B HB3.out.lt)
              have b0 := hbw.c0
              have bf := hbw.fz 0
              have bl := hbw.lt
              clear hO7 HJ hbw ex HRk HX HP6
              go_wp2
              go_roundw
              case rel => exact ⟨k + 1, by omega, by congr 1, HE⟩
              case measure => simp [intOf]; omega
    · obtain rfl : k = ys.length := by omega
      have HR := Lib.hid HI.out
      rw [List.take_length] at HR
      clear HX HI
      go_wp2
      go_ret
      exact ⟨rfl, HR.out⟩

theorem rPut_full (B : Nat) (F : Nat → Prop) (es : List Ev) (x : Option Addr) (n cap : Nat) (w : World) (h : RG w F B es) (hle : 1024 < es.length + n) (he : es.length ≤ 1024) (hn : n ≤ 4611686018427387904) :
    Calls Try.prog 20 #[.pointer (some ⟨B, 0, none⟩), .slice x n cap] w fun e w' => e = .returned (.int .i64 1) ∧ w = w' := by
  obtain ⟨v0, h1, h2, -⟩ := h
  obtain ⟨x0, cap0, rfl, -⟩ := h2.form
  have c0 := h1.c0
  obtain ⟨e0, he0⟩ : ∃ e0, e0 = es.length := ⟨_, rfl⟩
  rw [← he0] at c0 he hle
  clear h1 h2 he0
  by_cases hn' : 1024 < n
  · have t0 : decide ((1024 : Int) < (n : Int)) = true := by simp; omega
    go_enter Try.func20, Try.ntmps20
    go_wp2
    go_ret
    exact ⟨rfl, rfl⟩
  · have t0 : decide ((1024 : Int) < (n : Int)) = false := by simp; omega
    have t1 : decide ((1024 : Int) < (e0 : Int) + (n : Int)) = true := by simp; omega
    go_enter Try.func20, Try.ntmps20
    go_wp2
    go_ret
    exact ⟨rfl, rfl⟩

def rgO : Obj := .cells #[.slice none 0 0] 53
theorem RG.new (w : World) : RG (w.alloc rgO) (Nw w (w.alloc rgO)) w.heap.size [] :=
  ⟨.slice none 0 0, heap_alloc_new _ _, OwnsE.nil, (fun c => by cases c), ⟨Nat.le_refl _, by simp⟩, (fun g e => by cases e), fun k c => c.2⟩

/-- What the document's New leaves and tells. -/
def RNewed (w : World) (es : List Ev) (e : Ending) (w' : World) : Prop :=
  ∃ B, e = .returned (.tuple #[.pointer (some ⟨B, 0, none⟩), .int .i64 0]) ∧ w.heap.size ≤ B ∧ RG w' (Nw w w') B es ∧ Below w.heap.size w w'

set_option maxHeartbeats 1000000 in
theorem rNew_ok (x : Option Addr) (n cap : Nat) (ys : List Ev) (w : World) (hx : ReadsE w w.heap.size x ys) (hn : ys.length = n) (hle : n ≤ 1024) :
    Calls Try.prog 11 #[.slice x n cap] w (RNewed w (putAll [] ys)) := by
  have hb := below_al (Below.refl _ w) rgO
  have HP := Lib.hid (rPut_ok w.heap.size (Nw w (w.alloc rgO)) [] x n cap ys (w.alloc rgO) (RG.new w) ((hx.below (hb.mono (Nat.le_refl _))).rdF (fun k c => c.1)) hn (by simp; omega))
  have HE := Lib.hid (fun w2 (h : RG w2 (Or2 (Nw w (w.alloc rgO)) (Nw (w.alloc rgO) w2)) w.heap.size (putAll [] ys)) (hB : But (Nw w (w.alloc rgO)) (w.alloc rgO) w2) => (show RNewed w (putAll [] ys) (.returned (.tuple #[.pointer (some ⟨w.heap.size, 0, none⟩), .int .i64 0])) w2 from by
    have h1 := hb.size
    have h2 := hB.size
    refine ⟨_, rfl, Nat.le_refl _, h.more (fun k c => ?_) (fun k c => c.2), hb.trans (hB.below h1 fun k c => c.1)⟩
    rcases c with c | c
    · exact ⟨c.1, by have := c.2; omega⟩
    · exact ⟨by have := c.1; omega, c.2⟩))
  unfold rgO at HP HE
  clear hx hb
  go_enter Try.func11, Try.ntmps11
  go_wp2_with (go_at_call 20; refine HP.out.mono ?_; rintro e w2 ⟨rfl, h2, hB2⟩)
  go_ret2
  exact HE.out w2 h2 hB2

theorem rNew_bad (x : Option Addr) (n cap : Nat) (w : World) (hle : 1024 < n) (hn : n ≤ 4611686018427387904) :
    Calls Try.prog 11 #[.slice x n cap] w fun e w' => e = .returned (.tuple #[.pointer none, .int .i64 1]) ∧ Below w.heap.size w w' := by
  have hb := below_al (Below.refl _ w) rgO
  have HP := Lib.hid (rPut_full w.heap.size (Nw w (w.alloc rgO)) [] x n cap (w.alloc rgO) (RG.new w) (by simp; omega) (by simp) hn)
  have HB := Lib.hid hb
  unfold rgO at HP HB
  clear hb
  go_enter Try.func11, Try.ntmps11
  go_wp2_with (go_at_call 20; refine HP.out.mono ?_; rintro e w2 ⟨rfl, rfl⟩)
  go_ret2
  exact ⟨rfl, HB.out⟩

end Go.Proofs.Ytfkidghillnknaa
