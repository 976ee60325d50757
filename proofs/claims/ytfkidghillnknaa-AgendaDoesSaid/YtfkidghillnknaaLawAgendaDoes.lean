/-
  The walk of AgendaDoes: whatever is put, and whatever is due, rest and next, tick after tick, or why not, is as the document's own answer; what is handed in stays as it was.
-/
import Derived.Test.YtfkidghillnknaaRefPut
import Derived.Test.YtfkidghillnknaaEvRow
namespace Go.Proofs.Ytfkidghillnknaa
open Go.RowKit

/-- The program's agenda and the document's beside each other. -/
structure PairAt (w2 w : World) (FA FB : Nat → Prop) (A B : Nat) (ea eb : List Ev) (p : Nat) : Prop where
  below : Below w2.heap.size w2 w
  a : AG w FA A ea p
  b : RG w FB B eb
  dis : Dis FA FB
  na : ∀ k, FA k → w2.heap.size ≤ k
  nb : ∀ k, FB k → w2.heap.size ≤ k

section
variable {w2 w w' : World} {FA FB : Nat → Prop} {A B p : Nat} {ea eb : List Ev}
theorem PairAt.quiet (h : PairAt w2 w FA FB A B ea eb p) (hb : Below w.heap.size w w') : PairAt w2 w' FA FB A B ea eb p := ⟨below_on h.below hb, h.a.below hb, h.b.below hb, h.dis, h.na, h.nb⟩
theorem PairAt.but {G : Nat → Prop} (h : PairAt w2 w FA FB A B ea eb p) (hb : But G w w') (h1 : Dis FA G) (h2 : Dis FB G) (h3 : ∀ k, G k → w2.heap.size ≤ k) : PairAt w2 w' FA FB A B ea eb p := ⟨h.below.trans (hb.below h.below.size h3), h.a.but hb h1, h.b.but hb h2, h.dis, h.na, h.nb⟩
theorem PairAt.dueA (h : PairAt w2 w FA FB A B ea eb p) {ts es : List Ev} {e : Ending} (hd : Dued w FA A ts es p e w') :
    ∃ x cap, e = .returned (.slice x ts.length cap) ∧ OwnsE w' w.heap.size (.slice x ts.length cap) ts ∧ But FA w w' ∧ PairAt w2 w' FA FB A B es eb p := by
  obtain ⟨x, cap, rfl, _, _, hO, hA, hB⟩ := hd.open
  exact ⟨x, cap, rfl, hO, hB, ⟨h.below.trans (hB.below h.below.size h.na), hA, h.b.but hB h.dis.symm, h.dis, h.na, h.nb⟩⟩
theorem PairAt.dueB (h : PairAt w2 w FA FB A B ea eb p) {ts es : List Ev} {e : Ending} (hd : RDued w FB B ts es e w') :
    ∃ x cap, e = .returned (.slice x ts.length cap) ∧ OwnsE w' w.heap.size (.slice x ts.length cap) ts ∧ But FB w w' ∧ PairAt w2 w' FA (Or2 FB (Nw w w')) A B ea es p := by
  obtain ⟨x, cap, rfl, hO, hG, hB⟩ := hd
  have hs := h.below.size
  refine ⟨x, cap, rfl, hO, hB, ⟨h.below.trans (hB.below hs h.nb), h.a.but hB h.dis, hG, fun k c d => ?_, h.na, fun k c => ?_⟩⟩
  · rcases d with d | d
    · exact h.dis k c d
    · have := h.a.lt k c; have := d.1; omega
  · rcases c with c | c
    · exact h.nb k c
    · have := c.1; omega
theorem PairAt.restB (h : PairAt w2 w FA FB A B ea eb p) {e : Ending} (hd : RRest w FB B eb e w') :
    ∃ x cap, e = .returned (.slice x eb.length cap) ∧ OwnsE w' 0 (.slice x eb.length cap) eb ∧ But FB w w' ∧ PairAt w2 w' FA FB A B ea [] p := by
  obtain ⟨x, cap, rfl, hO, hG, hB⟩ := hd
  exact ⟨x, cap, rfl, hO, hB, ⟨h.below.trans (hB.below h.below.size h.nb), h.a.but hB h.dis, hG, h.dis, h.na, h.nb⟩⟩
theorem PairAt.putA (h : PairAt w2 w FA FB A B ea eb p) {es : List Ev} {p' : Nat} (hA : AG w' (Or2 FA (Nw w w')) A es p') (hB : But FA w w') : PairAt w2 w' (Or2 FA (Nw w w')) FB A B es eb p' := by
  have hs := h.below.size
  refine ⟨h.below.trans (hB.below hs h.na), hA, h.b.but hB h.dis.symm, fun k c d => ?_, fun k c => ?_, h.nb⟩
  · rcases c with c | c
    · exact h.dis k c d
    · have := h.b.lt k d; have := c.1; omega
  · rcases c with c | c
    · exact h.na k c
    · have := c.1; omega
theorem PairAt.putB (h : PairAt w2 w FA FB A B ea eb p) {es : List Ev} (hG : RG w' (Or2 FB (Nw w w')) B es) (hB : But FB w w') : PairAt w2 w' FA (Or2 FB (Nw w w')) A B ea es p := by
  have hs := h.below.size
  refine ⟨h.below.trans (hB.below hs h.nb), h.a.but hB h.dis, hG, fun k c d => ?_, h.na, fun k c => ?_⟩
  · rcases d with d | d
    · exact h.dis k c d
    · have := h.a.lt k c; have := d.1; omega
  · rcases c with c | c
    · exact h.nb k c
    · have := c.1; omega
end

/-- The state in front of each tick. -/
def DoesAt (w2 : World) (A B k : Nat) (W : World) : Prop := ∃ FA FB es p, PairAt w2 W FA FB A B es es p ∧ es.length ≤ 1024 ∧ p ≤ 2000 + 40 * k

set_option maxHeartbeats 32000000 in
set_option maxRecDepth 100000 in
theorem does_in (a : Option Addr) (len cap : Nat) (es : List Ev) (b : Option Addr) (mm cap' : Nat) (ms : List Ev) (c : Option Addr) (q cap'' : Nat) (zs : List Int) (w : World)
    (hI : EventIn w a len cap es) (hM : EventIn w b mm cap' ms) (hz : Reads .i64 w w.heap.size c zs) (hzl : zs.length = q) (hl : len ≤ 1024) (hmm : mm ≤ 40) (hq : q ≤ 12)
    (hd : decide ((40 : Int) < (len : Int)) = false ∨ (decide ((40 : Int) < (len : Int)) = true ∧ decide ((len : Int) < 1000) = false)) :
    Calls Try.prog 3 #[.slice a len cap, .slice b mm cap', .slice c q cap''] w fun e w' => e = .returned (.bool true) ∧ Below w.heap.size w w' := by
  have HV := Lib.hid (live11_any w)
  have HSl := Lib.hid hI.src
  obtain ⟨hn, -, -, hR, hO⟩ := hI
  obtain ⟨hmn, -, -, hMR, hMO⟩ := hM
  have d2 : decide ((1030 : Int) < (len : Int)) = false := by simp; omega
  have d3 : decide ((40 : Int) < (mm : Int)) = false := by simp; omega
  have d4 : decide ((12 : Int) < (q : Int)) = false := by simp; omega
  have HN := Lib.hid (fun W (hb : Below w.heap.size w W) => New_ok a len cap es W (hR.since hb) hn hO (by omega))
  have HrN := Lib.hid (fun W (hb : Below w.heap.size w W) => rNew_ok a len cap es W (hR.since hb) hn (by omega))
  have HLe : Hid ((putAll [] es).length = len) := Lib.hid (by rw [putAll_len]; simp [hn])
  have HX := Lib.hid hR
  have HNn := Lib.hid hn
  have HZ := Lib.hid hz
  have HZn := Lib.hid hzl
  have HP := Lib.hid (fun A F W ks p (hG : AG W F A ks p) (hF : ∀ k, F k → w.heap.size ≤ k) (hb : Below w.heap.size w W) (h1 : ks.length + mm ≤ 1024) (h2 : p ≤ 10000) => Put_ok A F ks p b mm cap' ms W hG ((hMR.below hb).rdF hF) hmn hMO h1 (by omega))
  have HrP := Lib.hid (fun B F W ks (hG : RG W F B ks) (hF : ∀ k, F k → w.heap.size ≤ k) (hb : Below w.heap.size w W) (h1 : ks.length + mm ≤ 1024) => rPut_ok B F ks b mm cap' ms W hG ((hMR.below hb).rdF hF) hmn h1)
  have HMn := Lib.hid hmn
  generalize putAll [] es = L at HN HrN HLe
  clear hR hO hn hMR hMO hmn hz hzl
  rcases hd with d1 | ⟨d1, d1'⟩
  all_goals
    go_enter Try.func3, Try.ntmps3
    go_wp2_with (first
      | (go_at_call 9; refine HV.out.mono ?_; rintro e w1 ⟨rfl, hb1⟩; have B1 := Lib.hid hb1; clear hb1 HV)
      | (at_builtin; refine wpList_append_ev rfl _ _ rfl w1.heap.size (.slice none 0 0) [] rfl OwnsE.nil a _ cap es rfl (HSl.out.keep B1.out) (by simp; omega) (Nat.le_refl _) ?_; intro v2 w2 hO2 hg2; rw [List.nil_append] at hO2; have B2 := Lib.hid (B1.out.trans ((But.of_grown hg2).below B1.out.size fun k e => by cases e)); have O2 := Lib.hid hO2.toldNow; have B12 := Lib.hid (show w1.heap.size ≤ w2.heap.size from hg2.size); clear hO2 hg2)
      | (go_at_call 10; refine (HN.out w2 B2.out).mono ?_; clear HN; rintro e w3 ⟨A, rfl, hA3, hG3, hb3⟩; have G3 := Lib.hid (And.intro hG3 hb3); have B3 := Lib.hid (below_on B2.out hb3); clear hA3 hG3 hb3)
      | (go_at_call 11; refine (HrN.out w3 B3.out).mono ?_; clear HrN; rintro e w4 ⟨B, rfl, hA4, hG4, hb4⟩; have P4 : Hid (DoesAt w2 A B 0 w4) := Lib.hid ⟨Nw w2 w3, Nw w3 w4, L, len, ⟨below_on G3.out.2 hb4, G3.out.1.below hb4, hG4, (fun k c d => by have := c.2; have := d.1; omega), (fun k c => c.1), (fun k c => by have := c.1; have := G3.out.2.size; omega)⟩, by have := HLe.out; omega, by omega⟩; clear hA4 hG4 hb4))
    obtain ⟨xw, cw, rfl, -⟩ := O2.out.1.form
    have HFw : Hid (∀ (F : Nat → Prop), (∀ k, F k → w2.heap.size ≤ k) → ∀ k, F k → w.heap.size ≤ k) := Lib.hid (fun F h k c => by have := h k c; have := B2.out.size; omega)
    have HBw : Hid (∀ W, Below w2.heap.size w2 W → Below w.heap.size w W) := Lib.hid (fun W h => below_on B2.out h)
    clear G3 B3 HSl
    go_loopw [69] (fun i wr => ∃ k : Nat, k ≤ q ∧ i = .int .i64 k ∧ Hid (DoesAt w2 A B k wr)) (fun i _ => q - (intOf i).toNat)
    case atStart => exact ⟨0, Nat.zero_le _, rfl, P4⟩
    case round =>
      clear P4
      obtain ⟨k, hk, rfl, HI⟩ := hrel
      obtain ⟨FA, FB, ks, p, hP, hkl, hpb⟩ := HI.out
      have P0 := Lib.hid hP
      clear hP HI
      by_cases hlt : k < q
      · obtain ⟨zb, zo, rfl, hzb, hzc⟩ := (HZ.out.below (HBw.out _ P0.out.below)) (by have := HZn.out; omega)
        have hzk := hzc k (by have := HZn.out; omega)
        obtain ⟨t, ht⟩ : ∃ t, t = zs.getD k 0 := ⟨_, rfl⟩
        rw [← ht] at hzk
        have K1 := Lib.hid (Due_any _ _ _ _ t wr P0.out.a (by omega))
        have hyl := yet_len t ks
        have HDl : Hid ((due t ks).length ≤ 1024) := Lib.hid (by have := due_len t ks; omega)
        have HYl : Hid ((yet t ks).length ≤ 1024) := Lib.hid (by omega)
        clear hzc ht hyl
        generalize wr = w0 at *
        go_wp2_with (first
          | (go_at_call 12; refine K1.out.mono ?_; clear K1; intro e w5 hd; obtain ⟨x5, c5, rfl, hO5, hb5, hP5⟩ := P0.out.dueA hd; have P5 := Lib.hid hP5; have O5 := Lib.hid (And.intro hO5.toldNow hb5.size); have K2 := Lib.hid (rDue_any _ _ _ t w5 P5.out.b (by omega)); clear hd hO5 hb5 hP5)
          | (go_at_call 13; refine K2.out.mono ?_; clear K2; intro e w6 hd; obtain ⟨x6, c6, rfl, hO6, hb6, hP6⟩ := P5.out.dueB hd; have P6 := Lib.hid hP6; have O6 := Lib.hid (And.intro (O5.out.1.but hb6 (fun k c => .inl (P0.out.b.lt k c)) (Nat.le_refl _)) hb6.size); have K3 := Lib.hid (Next_any _ _ _ _ w6 P6.out.a (by have := HYl.out; omega)); have K4 := Lib.hid (rNext_any _ _ _ w6 P6.out.b (by have := HYl.out; omega)); have K5 := Lib.hid (same_told x5 x6 _ _ c5 c6 _ _ w6 _ _ O6.out.1.1 hO6 (by have := HDl.out; omega) (by have := HDl.out; omega)); rw [decide_eq_true rfl] at K5; clear hd hO6 hb6 hP6)
          | (go_at_call 14; refine K3.out.mono ?_; clear K3; rintro e w6' ⟨rfl, rfl⟩)
          | (go_at_call 15; refine K4.out.mono ?_; clear K4; rintro e w6' ⟨rfl, rfl⟩)
          | (go_at_call 16; refine K5.out.mono ?_; clear K5; rintro e w7 ⟨rfl, q7, rfl⟩; have P7 := Lib.hid (P6.out.quiet (draws_below _ _ q7)); have K6 := Lib.hid (Left_any _ _ _ _ _ P7.out.a); have K7 := Lib.hid (rLeft_any _ _ _ _ P7.out.b))
          | (go_at_call 17; refine K6.out.mono ?_; clear K6; rintro e w7' ⟨rfl, rfl⟩)
          | (go_at_call 18; refine K7.out.mono ?_; clear K7; rintro e w7' ⟨rfl, rfl⟩))
        obtain ⟨W7, hW7⟩ : ∃ W7, W7 = w6.drewN q7 := ⟨_, rfl⟩
        rw [← hW7] at P7 ⊢
        have O7 : Hid (Told W7 w0.heap.size w5.heap.size (.slice x5 (due t ks).length c5) (due t ks)) := Lib.hid (by rw [hW7]; exact O6.out.1)
        have HM7 : Hid (w0.heap.size ≤ w5.heap.size ∧ w5.heap.size ≤ W7.heap.size ∧ w2.heap.size ≤ w0.heap.size) := Lib.hid ⟨O5.out.2, by rw [hW7]; exact O6.out.2, P0.out.below.size⟩
        have HF7 : Hid ((∀ k, FA k → k < w0.heap.size) ∧ ∀ k, Or2 FB (Nw w5 w6) k → k < w0.heap.size ∨ w5.heap.size ≤ k) := Lib.hid ⟨P0.out.a.lt, fun k c => c.elim (fun c => .inl (P0.out.b.lt k c)) (fun c => .inr c.1)⟩
        obtain ⟨n5, hn5⟩ : ∃ n5, n5 = (due t ks).length := ⟨_, rfl⟩
        have hnb : n5 ≤ 1024 := by have := HDl.out; omega
        rw [← hn5] at O7 ⊢
        have HX7 : Hid (∃ xs : List Ev, xs.length = n5 ∧ OwnsE W7 w0.heap.size (.slice x5 n5 c5) xs ∧ But (fun g => w0.heap.size ≤ g ∧ g < w5.heap.size) W7 W7) := Lib.hid ⟨_, hn5.symm, O7.out.1, But.refl _ _⟩
        have HH7 := Lib.hid O7.out.2
        clear hW7 hn5 O5 O6 O7 P5 P6 HDl
        go_loopw [113] (fun i wr => ∃ z : Nat, z ≤ n5 ∧ i = .int .i64 z ∧ Hid (∃ xs : List Ev, xs.length = n5 ∧ OwnsE wr w0.heap.size (.slice x5 n5 c5) xs ∧ But (fun g => w0.heap.size ≤ g ∧ g < w5.heap.size) W7 wr)) (fun i _ => n5 - (intOf i).toNat)
        case atStart => exact ⟨0, Nat.zero_le _, rfl, HX7⟩
        case round =>
          clear HX7
          obtain ⟨z, hz, rfl, HJ⟩ := hrel
          by_cases hzl : z < n5
          · obtain ⟨xs, hxl, hO, hBt⟩ := HJ.out
            obtain ⟨x', cap5, e', -, -, -, hg'⟩ := hO.form
            obtain ⟨g, hg1, hg2, hg3⟩ := hg' (by omega)
            simp only [Value.slice.injEq] at e'
            obtain ⟨e1, -, -⟩ := e'
            rw [hg1] at e1
            subst e1
            have hg5 := HH7.out g rfl
            have c3 := (hO.at hxl hzl).2.2.2.1
            have cf := hO.fz hxl (z * 6 + 3)
            obtain ⟨y, hy⟩ : ∃ y, y = (xs.getD z noEv).tk := ⟨_, rfl⟩
            rw [← hy] at c3
            have HN : Hid (∀ u, ∃ xs : List Ev, xs.length = n5 ∧ OwnsE (wr.setCell ⟨g, z * 6 + 3, none⟩ (.int .i64 u)) w0.heap.size (.slice (some ⟨g, 0, none⟩) n5 c5) xs ∧ But (fun g => w0.heap.size ≤ g ∧ g < w5.heap.size) W7 (wr.setCell ⟨g, z * 6 + 3, none⟩ (.int .i64 u))) := Lib.hid (fun u => ⟨_, by rw [List.length_set]; exact hxl, hO.setTick hxl hzl u, hBt.trans (But.setCell wr g (z * 6 + 3) _) fun k _ c => by rw [c]; exact ⟨hg2, hg5⟩⟩)
            clear HJ hO hBt hg' hy hxl hg1
            go_wp2
            go_roundw
            case rel => exact ⟨z + 1, by omega, by congr 1, Lib.hid (HN.out _)⟩
            case measure => simp [intOf]; omega
          · obtain ⟨xs, hxl, hO, hBt⟩ := HJ.out
            have P8 := Lib.hid (P7.out.but hBt (fun k c d => by have := HF7.out.1 k c; have := d.1; omega) (fun k c d => by have := HF7.out.2 k c; have := d.1; have := d.2; omega) (fun k d => by have := d.1; have := HM7.out; omega))
            clear HJ hO hBt hxl P7 HH7
            generalize wr = w8 at *
            generalize Or2 FB (Nw w5 w6) = FB' at *
            obtain ⟨r, hr⟩ : ∃ r : Nat, (k : Int) % 3 = (r : Int) := ⟨k % 3, by omega⟩
            have hrb : r < 3 := by omega
            by_cases hr0 : r = 0
            · subst hr0
              have t6 : (((0 : Nat) : Int) == 0) = true := by simp
              by_cases hfit : (yet t ks).length + mm ≤ 1024
              · have KA := Lib.hid (HP.out _ _ w8 _ _ P8.out.a (HFw.out _ P8.out.na) (HBw.out _ P8.out.below) hfit (by omega))
                have HFt := Lib.hid hfit
                clear hfit
                go_wp2_with (first
                  | (go_at_call 19; refine KA.out.mono ?_; clear KA; rintro e w9 ⟨rfl, hG9, hB9⟩; have P9 := Lib.hid (P8.out.putA hG9 hB9); have KB := Lib.hid (HrP.out _ _ w9 _ P9.out.b (HFw.out _ P9.out.nb) (HBw.out _ P9.out.below) HFt.out); clear hG9 hB9)
                  | (go_at_call 20; refine KB.out.mono ?_; clear KB; rintro e w10 ⟨rfl, hG10, hB10⟩; have P10 : Hid (DoesAt w2 A B (k + 1) w10) := Lib.hid ⟨_, _, _, _, P9.out.putB hG10 hB10, by rw [putAll_len]; have := HFt.out; have := HMn.out; omega, by omega⟩; clear hG10 hB10))
                go_roundw
                case rel => exact ⟨k + 1, by omega, by congr 1, P10⟩
                case measure => simp [intOf]; omega
              · have KA := Lib.hid (Put_full _ _ _ _ b mm cap' w8 P8.out.a (by omega) HYl.out)
                have KB := Lib.hid (rPut_full _ _ _ b mm cap' w8 P8.out.b (by omega) HYl.out (by omega))
                clear hfit
                go_wp2_with (first
                  | (go_at_call 19; refine KA.out.mono ?_; clear KA; rintro e w9 ⟨rfl, rfl⟩)
                  | (go_at_call 20; refine KB.out.mono ?_; clear KB; rintro e w9 ⟨rfl, rfl⟩))
                go_roundw
                case rel => exact ⟨k + 1, by omega, by congr 1, Lib.hid ⟨_, _, _, _, P8.out, HYl.out, by omega⟩⟩
                case measure => simp [intOf]; omega
            · have t6 : ((r : Int) == 0) = false := by simp; omega
              go_wp2
              go_roundw
              case rel => exact ⟨k + 1, by omega, by congr 1, Lib.hid ⟨_, _, _, _, P8.out, HYl.out, by omega⟩⟩
              case measure => simp [intOf]; omega
      · have K1 := Lib.hid (Rest_any _ _ _ _ wr P0.out.a (by omega))
        have HKl := Lib.hid hkl
        have HML : Hid ((putAll [] ms).length ≤ 40) := Lib.hid (by rw [putAll_len]; have := HMn.out; simp; omega)
        have HSm := Lib.hid (fun W (hb : Below w2.heap.size w2 W) => by
          have h1 := HX.out.since (HBw.out W hb)
          have h2 := (O2.out.below hb (Nat.le_refl _)).reads
          have := sameE_any a xw len es.length cap cw es es W _ h1 h2 HNn.out rfl (by omega) (by have := HNn.out; omega)
          rw [decide_eq_true rfl] at this
          exact this)
        clear HX O2
        generalize wr = w0 at *
        go_wp2_with (first
          | (go_at_call 21; refine K1.out.mono ?_; clear K1; intro e w5 hd; obtain ⟨x5, c5, rfl, hO5, hb5, hP5⟩ := P0.out.dueA hd; have P5 := Lib.hid hP5; have O5 := Lib.hid hO5.toldNow; have K2 := Lib.hid (rRest_any _ _ _ w5 P5.out.b); clear hd hO5 hb5 hP5)
          | (go_at_call 22; refine K2.out.mono ?_; clear K2; intro e w6 hd; obtain ⟨x6, c6, rfl, hO6, hb6, hP6⟩ := P5.out.restB hd; have P6 := Lib.hid hP6; have K3 := Lib.hid (same_told x5 x6 _ _ c5 c6 _ _ w6 _ _ (O5.out.but hb6 (fun k c => .inl (P0.out.b.lt k c)) (Nat.le_refl _)).1 hO6 (by have := HKl.out; omega) (by have := HKl.out; omega)); rw [decide_eq_true rfl] at K3; clear hd hO6 hb6 hP6)
          | (go_at_call 16; refine K3.out.mono ?_; clear K3; rintro e w7 ⟨rfl, q7, rfl⟩; have P7 := Lib.hid (P6.out.quiet (draws_below _ _ q7)); have K4 := Lib.hid (Left_any _ _ _ _ _ P7.out.a); have K5 := Lib.hid (HSm.out _ P7.out.below); rw [List.length_nil] at K4)
          | (go_at_call 17; refine K4.out.mono ?_; clear K4; rintro e w7' ⟨rfl, rfl⟩)
          | (go_at_call 16; refine K5.out.mono ?_; clear K5; rintro e w8 ⟨rfl, q8, rfl⟩; have P8 := Lib.hid (P7.out.quiet (draws_below _ _ q8)); rw [World.drewN_drewN] at P8; have K6 := Lib.hid (HP.out _ _ _ _ _ P8.out.a (HFw.out _ P8.out.na) (HBw.out _ P8.out.below) (by simp; omega) (by omega)))
          | (go_at_call 19; refine K6.out.mono ?_; clear K6; rintro e w9 ⟨rfl, hG9, hB9⟩; have P9 := Lib.hid (P8.out.putA hG9 hB9); have K7 := Lib.hid (HrP.out _ _ w9 _ P9.out.b (HFw.out _ P9.out.nb) (HBw.out _ P9.out.below) (by simp; omega)); clear hG9 hB9)
          | (go_at_call 20; refine K7.out.mono ?_; clear K7; rintro e w10 ⟨rfl, hG10, hB10⟩; have P10 := Lib.hid (P9.out.putB hG10 hB10); have K8 := Lib.hid (Rest_any _ _ _ _ w10 P10.out.a (by have := HML.out; omega)); clear hG10 hB10)
          | (go_at_call 21; refine K8.out.mono ?_; clear K8; intro e w11 hd; obtain ⟨x11, c11, rfl, hO11, hb11, hP11⟩ := P10.out.dueA hd; have P11 := Lib.hid hP11; have O11 := Lib.hid hO11.toldNow; have K9 := Lib.hid (rRest_any _ _ _ w11 P11.out.b); clear hd hO11 hb11 hP11)
          | (go_at_call 22; refine K9.out.mono ?_; clear K9; intro e w12 hd; obtain ⟨x12, c12, rfl, hO12, hb12, hP12⟩ := P11.out.restB hd; have P12 := Lib.hid hP12; have K10 := Lib.hid (same_told x11 x12 _ _ c11 c12 _ _ w12 _ _ (O11.out.but hb12 (fun k c => .inl (P10.out.b.lt k c)) (Nat.le_refl _)).1 hO12 (by have := HML.out; omega) (by have := HML.out; omega)); rw [decide_eq_true rfl] at K10; clear hd hO12 hb12 hP12)
          | (go_at_call 16; refine K10.out.mono ?_; clear K10; rintro e w13 ⟨rfl, q13, rfl⟩; have P13 := Lib.hid (HBw.out _ (P12.out.quiet (draws_below _ _ q13)).below)))
        go_ret
        exact ⟨rfl, P13.out⟩

end Go.Proofs.Ytfkidghillnknaa
