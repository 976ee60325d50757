/-
  The walk of AgendaAll: each event that was put is told once, whatever ticks are asked for in between; what is due at a tick is not later, and what is left is.
-/
import Derived.Test.YtfkidghillnknaaMathDue
import Derived.Test.YtfkidghillnknaaAppAt
namespace Go.Proofs.Ytfkidghillnknaa
open Go.RowKit

/-- What is known on the way: what was told, and what is still kept, are all that was put. -/
structure AllAt (w w2 : World) (F : Nat → Prop) (A n : Nat) (es : List Ev) (v : Value) (ts ks : List Ev) (W : World) : Prop where
  below : Below w.heap.size w W
  ag : AG W F A ks n
  told : OwnsE W w2.heap.size v ts
  perm : (ts ++ ks).Perm es
  size : w2.heap.size ≤ W.heap.size

/-- .. while what is due is put behind what was told. -/
structure DueAt (w2 w4 w5 : World) (v : Value) (ts : List Ev) (W : World) : Prop where
  told : OwnsE W w2.heap.size v ts
  at' : ∀ g, v.ownBlock = some g → g < w4.heap.size ∨ w5.heap.size ≤ g
  but : But (fun g => w2.heap.size ≤ g ∧ g < w4.heap.size) w5 W

/-- How often x is there. -/
def cnt (x : Ev) (l : List Ev) : Nat := (l.filter fun y => decide (y = x)).length
theorem cnt_le (x : Ev) (l : List Ev) : cnt x l ≤ l.length := List.length_filter_le _ _
theorem cnt_perm (x : Ev) {l l' : List Ev} (h : l.Perm l') : cnt x l = cnt x l' := (h.filter _).length_eq
theorem cnt_one (x : Ev) (l : List Ev) (j : Nat) (hj : j < l.length) : cnt x (l.take (j + 1)) = if l.getD j noEv = x then cnt x (l.take j) + 1 else cnt x (l.take j) := by
  unfold cnt
  rw [take_one l j hj, List.filter_append, List.length_append, List.filter_cons]
  split
  · rename_i c
    rw [if_pos (of_decide_eq_true c)]; rfl
  · rename_i c
    rw [if_neg (fun h => c (decide_eq_true h))]; rfl

theorem due_le {t : Int} {ks : List Ev} {j : Nat} (h : j < (due t ks).length) : ((due t ks).getD j noEv).tk ≤ t := by
  have : (due t ks).getD j noEv ∈ due t ks := by rw [List.getD_eq_getElem?_getD, List.getElem?_eq_getElem h]; exact List.getElem_mem h
  simpa using (List.mem_filter.1 this).2
theorem yet_gt {t : Int} {ks l : List Ev} {x : Ev} (h : yet t ks = x :: l) : t < x.tk := by
  have : x ∈ yet t ks := by rw [h]; simp
  simpa using (List.mem_filter.1 this).2

set_option maxHeartbeats 16000000 in
set_option maxRecDepth 100000 in
theorem all_in (a : Option Addr) (len cap : Nat) (es : List Ev) (b : Option Addr) (m cap' : Nat) (zs : List Int) (w : World) (hI : EventIn w a len cap es) (hz : Reads .i64 w w.heap.size b zs) (hzl : zs.length = m) (hl : len ≤ 40) (hm : m ≤ 12) :
    Calls Try.prog 4 #[.slice a len cap, .slice b m cap'] w fun e w' => e = .returned (.bool true) ∧ Below w.heap.size w w' := by
  have hmx : Try.prog.follows .mixedOrders = true := by kernel_rfl
  obtain ⟨hn, -, -, hR, hO⟩ := hI
  have HV := Lib.hid (live11_any w)
  have d1 : decide ((40 : Int) < (len : Int)) = false := by simp; omega
  have d2 : decide ((12 : Int) < (m : Int)) = false := by simp; omega
  have HP : Hid ((putAll [] es).Perm es) := Lib.hid (putAll_perm es [])
  have HN := Lib.hid (fun W (hb : Below w.heap.size w W) => New_ok a len cap es W (hR.since hb) hn hO (by omega))
  have HX := Lib.hid hR
  have HNn := Lib.hid hn
  have HZ := Lib.hid hz
  have HZn := Lib.hid hzl
  generalize putAll [] es = L at HN HP
  clear hR hO hn hz hzl
  go_enter Try.func4, Try.ntmps4
  go_wp2_with (first
    | (go_at_call 9; refine HV.out.mono ?_; rintro e w1 ⟨rfl, hb1⟩; have B1 := Lib.hid hb1; clear hb1 HV)
    | (go_at_call 10; refine (HN.out w1 B1.out).mono ?_; clear HN; rintro e w2 ⟨A, rfl, hA2, hG2, hb2⟩; have B2 := Lib.hid (below_on B1.out hb2); have F2 : Hid (∀ k, Nw w1 w2 k → w.heap.size ≤ k ∧ k < w2.heap.size) := Lib.hid (fun k c => ⟨by have := c.1; have := B1.out.size; omega, c.2⟩); have S2 : Hid (AllAt w w2 (Nw w1 w2) A len es (.slice none 0 0) [] L w2) := Lib.hid ⟨below_on B1.out hb2, hG2, OwnsE.nil, by simpa using HP.out, Nat.le_refl _⟩; clear hA2 hG2 hb2 HP B1))
  go_loopw [42, 7] (fun i v wr => ∃ k : Nat, k ≤ m ∧ i = .int .i64 k ∧ Hid (∃ ts ks, AllAt w w2 (Nw w1 w2) A len es v ts ks wr)) (fun i _ _ => m - (intOf i).toNat)
  case atStart => exact ⟨0, Nat.zero_le _, rfl, Lib.hid ⟨_, _, S2.out⟩⟩
  case round =>
    clear S2
    obtain ⟨k, hk, rfl, HI⟩ := hrel
    obtain ⟨ts, ks, hS⟩ := HI.out
    have HS := Lib.hid hS
    have HLn : Hid (ts.length + ks.length = len) := Lib.hid (by have := hS.perm.length_eq; rw [List.length_append] at this; rw [this]; exact HNn.out)
    clear hS HI
    by_cases hlt : k < m
    · obtain ⟨zb, zo, rfl, hzb, hzc⟩ := (HZ.out.below HS.out.below) (by have := HZn.out; omega)
      have hzk := hzc k (by have := HZn.out; omega)
      obtain ⟨t, ht⟩ : ∃ t, t = zs.getD k 0 := ⟨_, rfl⟩
      rw [← ht] at hzk
      have HD := Lib.hid (Due_any _ _ _ _ t wr HS.out.ag (by have := HLn.out; omega))
      have hdl := due_len t ks
      have hyl := yet_len t ks
      have HA := Lib.hid (due_app t HS.out.ag.srd)
      clear hzc ht
      generalize wr = w4 at *
      go_wp2_with (go_at_call 12; refine HD.out.mono ?_; clear HD; intro e w5 hd; obtain ⟨x5, c5, rfl, -, hR5, hO5, hG5, hb5⟩ := hd.open; have O5 := Lib.hid hO5.toldNow; have G5 := Lib.hid (And.intro hG5 hb5); clear hd hR5 hO5 hG5 hb5)
      have HM : Hid (w2.heap.size ≤ w4.heap.size ∧ w4.heap.size ≤ w5.heap.size) := Lib.hid ⟨HS.out.size, G5.out.2.size⟩
      have HS0 : Hid (DueAt w2 w4 w5 u7 (ts ++ (due t ks).take 0) w5) := Lib.hid ⟨by simpa using HS.out.told.told G5.out.2 (fun k c => (F2.out k c).2), fun g e => .inl (HS.out.told.toldNow.2 g e), But.refl _ _⟩
      have HSt : Hid (∀ v W, DueAt w2 w4 w5 v (ts ++ due t ks) W → AllAt w w2 (Nw w1 w2) A len es v (ts ++ due t ks) (yet t ks) W) := Lib.hid (fun v W h => ⟨(HS.out.below.trans (G5.out.2.below HS.out.below.size fun k c => (F2.out k c).1)).trans (h.but.below (by have := HS.out.below.size; have := HM.out; omega) fun k c => by have := c.1; have := B2.out.size; omega), G5.out.1.but h.but (fun k c d => by have := (F2.out k c).2; have := d.1; omega), h.told, by rw [List.append_assoc, HA.out]; exact HS.out.perm, by have := h.but.size; have := HM.out; omega⟩)
      have HDl : Hid (ts.length + (due t ks).length ≤ 40) := Lib.hid (by have := HLn.out; omega)
      obtain ⟨D, hD⟩ : ∃ D, D = due t ks := ⟨_, rfl⟩
      have HDt : Hid (∀ j, j < D.length → (D.getD j noEv).tk ≤ t) := Lib.hid (fun j hj => by rw [hD] at hj ⊢; exact due_le hj)
      rw [← hD] at O5 HS0 HSt HDl ⊢
      have hDb : D.length ≤ 40 := by have := HDl.out; omega
      clear hD hdl hyl HA HS
      go_loopw [50, 7] (fun i v wr => ∃ j : Nat, j ≤ D.length ∧ i = .int .i64 j ∧ Hid (DueAt w2 w4 w5 v (ts ++ D.take j) wr)) (fun i _ _ => D.length - (intOf i).toNat)
      case atStart => exact ⟨0, Nat.zero_le _, rfl, HS0⟩
      case round =>
        clear HS0
        obtain ⟨j, hj, rfl, HJ⟩ := hrel
        by_cases hjl : j < D.length
        · obtain ⟨b', off', rfl, hb', hc'⟩ := (O5.out.but HJ.out.but (fun k c => .inl c.2) (Nat.le_refl _)).reads (by omega)
          have hcy := hc' j hjl
          have hyt := HDt.out j hjl
          have hT := take_one D j hjl
          obtain ⟨y, hy⟩ : ∃ y, y = D.getD j noEv := ⟨_, rfl⟩
          rw [← hy] at hcy hyt hT
          have hsx := SrcE.one (wr.alloc (evO y)) y
          rw [World.size_alloc] at hsx
          obtain ⟨y1, y2, y3, y4, y5, y6⟩ := y
          obtain ⟨k0, k1, k2, k3, k4, k5⟩ := hcy
          unfold evO at hsx
          dsimp only at k0 k1 k2 k3 k4 k5 hsx hyt
          have HSx := Lib.hid hsx
          have t1 : decide (t < y4) = false := by simpa using hyt
          have HTt := Lib.hid hT
          clear hc' hy hsx hT hyt
          go_wp2_with (at_builtin; refine wpList_append_at rfl _ _ rfl w2.heap.size u7 (ts ++ D.take j) rfl ((HJ.out.told.alloc _).alloc _) _ 1 ⟨y1, y2, y3, y4, y5, y6⟩ rfl HSx.out (by have := HDl.out; rw [List.length_append, List.length_take]; omega) (by have := HJ.out.but.size; have := HM.out; simp; omega) ?_; intro v6 w6 hO6 hg6 hat6)
          go_roundw
          case rel =>
            have hs := HJ.out.but.size
            refine ⟨j + 1, by omega, by congr 1, Lib.hid ⟨by rw [HTt.out, ← List.append_assoc]; exact hO6, fun g e => ?_, ?_⟩⟩
            · rcases hat6 g e with c | c
              · exact HJ.out.at' g c
              · right; simp at c; omega
            · refine (HJ.out.but.trans (But.of_below (F := fun _ => False) (below_al (below_al (Below.refl _ wr) _) _)) (fun _ _ c => c.elim)).trans (But.of_grown hg6) (fun g hg c => ?_)
              have h1 := HJ.out.told.ownBlock g c
              rcases HJ.out.at' g c with h2 | h2
              · exact ⟨h1, h2⟩
              · omega
          case measure => simp [intOf]; omega
        · have HS' : Hid (AllAt w w2 (Nw w1 w2) A len es u7 (ts ++ D) (yet t ks) wr) := Lib.hid (HSt.out _ _ (by
            have := HJ.out
            rw [List.take_of_length_le (by omega)] at this
            exact this))
          have HYl : Hid ((yet t ks).length + (ts ++ D).length = len) := Lib.hid (by
            have := HS'.out.perm.length_eq
            rw [List.length_append] at this
            have := HNn.out
            omega)
          have HYt : Hid (∀ x l, yet t ks = x :: l → t < x.tk) := Lib.hid (fun x l h => yet_gt h)
          have KL := Lib.hid (Left_any _ _ _ _ wr HS'.out.ag)
          have KN := Lib.hid (Next_any _ _ _ _ wr HS'.out.ag (by have := HYl.out; omega))
          obtain ⟨x7, c7, rfl, -⟩ := HS'.out.told.form
          obtain ⟨Y, hY⟩ : ∃ Y, Y = yet t ks := ⟨_, rfl⟩
          rw [← hY] at HS' HYl HYt KL KN
          obtain ⟨n7, hn7⟩ : ∃ n7, n7 = (ts ++ D).length := ⟨_, rfl⟩
          have HN7 := Lib.hid hn7
          have hn7b : n7 ≤ 40 := by have := HDl.out; rw [hn7, List.length_append]; omega
          rw [← hn7] at HYl ⊢
          clear hY hn7 HJ HSt HDt O5
          have HR : Hid (∃ ts ks, AllAt w w2 (Nw w1 w2) A len es (.slice x7 n7 c7) ts ks wr) := Lib.hid ⟨_, _, by rw [HN7.out]; exact HS'.out⟩
          clear HS' HN7
          cases Y with
          | nil =>
            rw [show nxT [] = 0 from rfl, show nxE [] = 9 from rfl] at KN
            rw [List.length_nil] at KL HYl
            have e7 : (n7 : Int) = (len : Int) := by have := HYl.out; omega
            have e8 : ((n7 : Int) != (len : Int)) = false := by simp [e7]
            have e8' : (n7 != len) = false := by have := HYl.out; simp; omega
            clear HYl HYt HX HZ
            go_wp2_with (first
              | (go_at_call 14; refine KN.out.mono ?_; rintro e w8 ⟨rfl, rfl⟩)
              | (go_at_call 17; refine KL.out.mono ?_; rintro e w8 ⟨rfl, rfl⟩))
            go_roundw
            case rel => exact ⟨k + 1, by omega, by congr 1, HR⟩
            case measure => simp [intOf]; omega
          | cons x l =>
            have hxt := HYt.out x l rfl
            rw [show nxT (x :: l) = x.tk from rfl, show nxE (x :: l) = 0 from rfl] at KN
            obtain ⟨y, hy⟩ : ∃ y, y = (x :: l).length := ⟨_, rfl⟩
            have y0 : 0 < y := by rw [hy]; simp
            rw [← hy] at KL HYl
            obtain ⟨xt, hxt'⟩ : ∃ xt, xt = x.tk := ⟨_, rfl⟩
            rw [← hxt'] at KN hxt
            have t3 : decide (xt ≤ t) = false := by simpa using hxt
            have t4 : decide ((0 : Int) < (y : Int)) = true := by simpa using y0
            have t4' : decide (0 < y) = true := by simpa using y0
            have hyb : y ≤ 40 := by have := HYl.out; omega
            have e7 : (y : Int) + (n7 : Int) = (len : Int) := by have := HYl.out; omega
            have e8 : ((len : Int) != (len : Int)) = false := by simp
            clear HYl HYt hxt hxt' hy HX HZ
            go_wp2_with (first
              | (go_at_call 14; refine KN.out.mono ?_; rintro e w8 ⟨rfl, rfl⟩)
              | (go_at_call 17; refine KL.out.mono ?_; rintro e w8 ⟨rfl, rfl⟩))
            go_roundw
            case rel => exact ⟨k + 1, by omega, by congr 1, HR⟩
            case measure => simp [intOf]; omega
    · have HRt := Lib.hid (Rest_any _ _ _ _ wr HS.out.ag (by have := HLn.out; omega))
      generalize wr = w4 at *
      have HT : Hid ((ts ++ ks).Perm es ∧ (ts ++ ks).length = len) := Lib.hid ⟨HS.out.perm, by rw [List.length_append]; exact HLn.out⟩
      have HAp := Lib.hid (fun w5 (hb : But (Nw w1 w2) w4 w5) => HS.out.told.told hb fun k c => (F2.out k c).2)
      have HBw := Lib.hid (fun w5 (hb : But (Nw w1 w2) w4 w5) => HS.out.below.trans (hb.below HS.out.below.size fun k c => (F2.out k c).1))
      have HM := Lib.hid HS.out.size
      go_wp2_with (first
        | (go_at_call 21; refine HRt.out.mono ?_; clear HRt; intro e w5 hd; obtain ⟨x5, c5, rfl, -, hR5, hO5, hG5, hb5⟩ := hd.open; have O5 := Lib.hid hO5.src; have G5 := Lib.hid (And.intro hG5 hb5); have A5 := Lib.hid (HAp.out w5 hb5); have B5 := Lib.hid (HBw.out w5 hb5); clear hd hR5 hO5 hG5 hb5)
        | (at_builtin; refine wpList_append_ev rfl _ _ rfl w2.heap.size u7 ts rfl A5.out x5 _ c5 ks rfl O5.out (by have := HLn.out; omega) (by have := G5.out.2.size; have := HM.out; omega) ?_; intro v6 w6 hO6 hg6; have B6 := Lib.hid (B5.out.trans ((But.of_grown hg6).below B5.out.size fun g e => by have := A5.out.ownBlock g e; have := B2.out.size; omega)); have KL := Lib.hid (Left_any _ _ _ _ w6 (G5.out.1.but (But.of_grown hg6) fun k c d => by have := (F2.out k c).2; have := A5.out.ownBlock k d; omega)); rw [List.length_nil] at KL; obtain ⟨x6, c6, rfl, -, -, hR6, -⟩ := hO6.form; rw [HT.out.2]; have R6 := Lib.hid hR6; clear hO6 hg6 hR6)
        | (go_at_call 17; refine KL.out.mono ?_; clear KL; rintro e w6' ⟨rfl, rfl⟩))
      obtain ⟨T, hTd⟩ : ∃ T, T = ts ++ ks := ⟨_, rfl⟩
      rw [← hTd] at HT R6
      clear hTd HS HLn HAp HBw A5 B5 O5 G5 F2 B2 HZ
      go_loopw [110] (fun i wr => ∃ k : Nat, k ≤ len ∧ i = .int .i64 k ∧ Hid (Below w6.heap.size w6 wr)) (fun i _ => len - (intOf i).toNat)
      case atStart => exact ⟨0, Nat.zero_le _, rfl, Lib.hid (Below.refl _ _)⟩
      case round =>
        obtain ⟨k, hk, rfl, HI⟩ := hrel
        by_cases hkl : k < len
        · obtain ⟨ab, ao, rfl, hab, hac⟩ := (HX.out.below (below_on B6.out HI.out)) (by have := HNn.out; omega)
          obtain ⟨tb, to, rfl, htb, htc⟩ := (R6.out.below HI.out) (by have := HT.out; omega)
          have hcx := hac k (by have := HNn.out; omega)
          obtain ⟨x, hx⟩ : ∃ x, x = es.getD k noEv := ⟨_, rfl⟩
          rw [← hx] at hcx
          have HW := Lib.hid (below_on HI.out (below_al (Below.refl _ wr) (evO x)))
          have HS6 := Lib.hid (Six.new wr x)
          have HCp := Lib.hid (cnt_perm x HT.out.1)
          obtain ⟨x1, x2, x3, x4, x5', x6'⟩ := x
          obtain ⟨k0, k1, k2, k3, k4, k5⟩ := hcx
          dsimp only at k0 k1 k2 k3 k4 k5
          unfold evO at HW HS6
          clear hx hac htc
          go_wp2
          obtain ⟨W0, hW0⟩ : ∃ W0, W0 = wr.alloc (.cells #[.int .i64 x1, .int .i64 x2, .int .i64 x3, .int .i64 x4, .int .i64 x5', .int .u64 x6'] 39) := ⟨_, rfl⟩
          rw [← hW0]
          rw [← hW0] at HW
          have HSx : Hid (Six W0 wr.heap.size ⟨x1, x2, x3, x4, x5', x6'⟩) := Lib.hid (by rw [hW0]; exact HS6.out)
          obtain ⟨R, hR⟩ : ∃ R, R = wr.heap.size := ⟨_, rfl⟩
          rw [← hR] at HSx ⊢
          clear hW0 hR HS6 k0 k1 k2 k3 k4 k5 HI
          obtain ⟨X, hX⟩ : ∃ X : Ev, X = ⟨x1, x2, x3, x4, x5', x6'⟩ := ⟨_, rfl⟩
          have HXe := Lib.hid hX
          rw [← hX] at HSx HCp
          clear hX
          go_loopw [116, 16, 17] (fun i p g wr => ∃ j pn gn : Nat, j ≤ len ∧ i = .int .i64 j ∧ p = .int .i64 pn ∧ g = .int .i64 gn ∧ pn ≤ j ∧ gn ≤ j ∧ Hid (pn = cnt X (es.take j) ∧ gn = cnt X (T.take j) ∧ Below W0.heap.size W0 wr)) (fun i _ _ _ => len - (intOf i).toNat)
          case atStart => exact ⟨0, 0, 0, Nat.zero_le _, rfl, rfl, rfl, Nat.le_refl _, Nat.le_refl _, Lib.hid ⟨rfl, rfl, Below.refl _ _⟩⟩
          case round =>
            obtain ⟨j, pn, gn, hj, rfl, rfl, rfl, hpj, hgj, HJ⟩ := hrel
            by_cases hjl : j < len
            · obtain ⟨b1, o1, e1, -, hc1⟩ := (HX.out.below (below_on (below_on B6.out HW.out) HJ.out.2.2)) (by have := HNn.out; omega)
              cases e1
              obtain ⟨b2, o2, e2, -, hc2⟩ := (R6.out.below (below_on HW.out HJ.out.2.2)) (by have := HT.out; omega)
              cases e2
              have hcy := hc1 j (by have := HNn.out; omega)
              have hcz := hc2 j (by have := HT.out; omega)
              have hcx := HSx.out.at.below HJ.out.2.2
              have hP := cnt_one X es j (by have := HNn.out; omega)
              have hG := cnt_one X T j (by have := HT.out; omega)
              obtain ⟨y, hy⟩ : ∃ y, y = es.getD j noEv := ⟨_, rfl⟩
              obtain ⟨z, hz⟩ : ∃ z, z = T.getD j noEv := ⟨_, rfl⟩
              rw [← hy] at hcy hP
              rw [← hz] at hcz hG
              have hq1 := fun w => eql_ev y X w
              have hq2 := fun w => eql_ev z X w
              have HPP : Hid (∀ n : Nat, n = (if y = X then pn + 1 else pn) → n = cnt X (es.take (j + 1))) := Lib.hid (fun n hn => by rw [hP, ← HJ.out.1]; exact hn)
              have HGG : Hid (∀ n : Nat, n = (if z = X then gn + 1 else gn) → n = cnt X (T.take (j + 1))) := Lib.hid (fun n hn => by rw [hG, ← HJ.out.2.1]; exact hn)
              have g1 := run_eqGuard_agg (P := Try.prog) (hm := ev_guard)
              clear hc1 hc2 hy hz hP hG
              by_cases he1 : y = X <;> by_cases he2 : z = X
              all_goals
                first | rw [decide_eq_true he1] at hq1 | rw [decide_eq_false he1] at hq1
                first | rw [decide_eq_true he2] at hq2 | rw [decide_eq_false he2] at hq2
                first | rw [if_pos he1] at HPP | rw [if_neg he1] at HPP
                first | rw [if_pos he2] at HGG | rw [if_neg he2] at HGG
                rw [HXe.out] at hq1 hq2 hcx
                clear he1 he2
                obtain ⟨y1, y2, y3, y4, y5, y6⟩ := y
                obtain ⟨z1, z2, z3, z4, z5, z6⟩ := z
                obtain ⟨a1, a2, a3, a4, a5, a6⟩ := hcy
                obtain ⟨c1, c2, c3', c4, c5', c6'⟩ := hcz
                obtain ⟨r1, r2, r3, r4, r5, r6⟩ := hcx
                unfold evV at hq1 hq2
                dsimp only at hq1 hq2 a1 a2 a3 a4 a5 a6 c1 c2 c3' c4 c5' c6' r1 r2 r3 r4 r5 r6
                rw [Nat.zero_add] at r2 r3 r4 r5 r6
                go_wp2
                go_quiet (fail)
                go_wp2
                go_quiet (fail)
                go_wp2
                go_roundw
                case rel => exact ⟨j + 1, _, _, by omega, by congr 1, by congr 1, by congr 1, by omega, by omega, Lib.hid ⟨HPP.out _ rfl, HGG.out _ rfl, below_draws HJ.out.2.2 _⟩⟩
                case measure => simp [intOf]; omega
            · have hpg : gn = pn := by
                obtain ⟨h1, h2, -⟩ := HJ.out
                rw [List.take_of_length_le (by have := HNn.out; omega)] at h1
                rw [List.take_of_length_le (by have := HT.out; omega)] at h2
                rw [h1, h2]
                exact HCp.out
              subst hpg
              have t5 : ((gn : Int) != (gn : Int)) = false := by simp
              have HF := Lib.hid (below_on HW.out HJ.out.2.2)
              clear HX R6 HJ
              go_wp2
              go_roundw
              case rel => exact ⟨k + 1, by omega, by congr 1, HF⟩
              case measure => simp [intOf]; omega
        · have HF := Lib.hid (below_on B6.out HI.out)
          clear HX R6
          go_wp2
          go_ret
          exact ⟨rfl, HF.out⟩

theorem walk_AgendaAll (a : Option Addr) (len cap : Nat) (es : List Ev) (b : Option Addr) (m cap' : Nat) (zs : List Int) (w : World) (hI : EventIn w a len cap es) (_hlb : len ≤ 2932031007403) (hr : RowIn .i64 w b m cap' zs) :
    Calls Try.prog 4 #[.slice a len cap, .slice b m cap'] w fun e w' => e = .returned (.bool true) ∧ Below w.heap.size w w' := by
  have HV := Lib.hid (live11_any w)
  by_cases hl : len ≤ 40
  · by_cases hm : m ≤ 12
    · obtain ⟨xs, -, hxl, -, -, hx, -⟩ := hr.readsI
      exact all_in a len cap es b m cap' xs w hI hx hxl hl hm
    · have d1 : decide ((40 : Int) < (len : Int)) = false := by simp; omega
      have d2 : decide ((12 : Int) < (m : Int)) = true := by simp; omega
      clear hI hr
      go_enter Try.func4, Try.ntmps4
      go_wp2_with (go_at_call 9; refine HV.out.mono ?_; rintro e w1 ⟨rfl, hb1⟩)
      go_ret
      exact ⟨rfl, hb1⟩
  · have d1 : decide ((40 : Int) < (len : Int)) = true := by simp; omega
    clear hI hr
    go_enter Try.func4, Try.ntmps4
    go_wp2_with (go_at_call 9; refine HV.out.mono ?_; rintro e w1 ⟨rfl, hb1⟩)
    go_ret
    exact ⟨rfl, hb1⟩

end Go.Proofs.Ytfkidghillnknaa
