/-
  The walk of AgendaFull: as many events as may be are kept, and not one more; whoever is refused keeps what there is.
-/
import Derived.Test.YtfkidghillnknaaMathDue
import Derived.Test.YtfkidghillnknaaEvRow
import Derived.Test.YtfkidghillnknaaEvIn
namespace Go.Proofs.Ytfkidghillnknaa
open Go.RowKit

theorem all_same {es : List Ev} {x : Ev} (h : ∀ q, q < es.length → es.getD q noEv = x) : ∀ s ∈ es, s = x := fun s hs => by
  obtain ⟨q, hq, rfl⟩ := List.getElem_of_mem hs
  have := h q hq
  rwa [List.getD_eq_getElem?_getD, List.getElem?_eq_getElem hq] at this
theorem ReadsE.first {w : World} {B : Nat} {x : Option Addr} {es : List Ev} (h : ReadsE w B x es) (k : Nat) : ReadsE w B x (es.take k) := fun h0 => by
  obtain ⟨b, off, e, h1, h2⟩ := h (by simp at h0; omega)
  exact ⟨b, off, e, h1, fun j hj => by simp at hj; have := h2 j (by omega); rwa [show (es.take k).getD j noEv = es.getD j noEv by simp [show j < k by omega]]⟩

theorem SrcE.holds {w : World} {ad : Addr} {n cap : Nat} {es : List Ev} (h : SrcE w (some ad) n cap es) : ∀ j u, (es.flatMap evc)[j]? = some u → w.cell? (ad.add j) = some u := by
  obtain ⟨-, ⟨c, -⟩ | ⟨ad', e', hc⟩⟩ := h
  · cases c
  · cases e'; exact hc

set_option maxHeartbeats 16000000 in
set_option maxRecDepth 100000 in
theorem full_in (x : Ev) (n : Nat) (w : World) (hx : EvOk x) (hn : n < 256) :
    Calls Try.prog 8 #[evV x, .int .u8 (n : Int)] w fun e w' => e = .returned (.bool true) ∧ Below w.heap.size w w' := by
  obtain ⟨i0, hi, hz0, hz1, hz2⟩ := info_parts info_ev
  have HV := Lib.hid (live11_any (w.alloc (evO x)))
  have HB0 := Lib.hid (below_al (Below.refl _ w) (evO x))
  have HS0 := Lib.hid (Six.new w x)
  have HOk := Lib.hid hx
  have HZ2 := Lib.hid hz2
  clear hx hz2
  obtain ⟨x1, x2, x3, x4, x5, x6⟩ := x
  unfold evV
  unfold evO at HV HB0 HS0
  dsimp only at HV HB0 HS0 ⊢
  obtain ⟨X, hX⟩ : ∃ X : Ev, X = ⟨x1, x2, x3, x4, x5, x6⟩ := ⟨_, rfl⟩
  have HXe := Lib.hid hX
  rw [← hX] at HS0 HOk
  clear hX
  go_enter Try.func8, Try.ntmps8
  go_wp2_with (first
    | (go_at_call 9; refine HV.out.mono ?_; rintro e w1 ⟨rfl, hb1⟩; have B1 := Lib.hid (below_on HB0.out hb1); have S1 := Lib.hid (show Six w1 w.heap.size X from (hb1.block w.heap.size (by simp)).trans HS0.out); clear hb1 HV HS0 HB0)
    | (at_make; refine wpList_make_full _ rfl _ _ 22 rfl w1.heap.size 39 i0 (.agg #[.int .i64 0, .int .i64 0, .int .i64 0, .int .i64 0, .int .i64 0, .int .u64 0]) 6 Try.underlying22 hi hz0 hz1 .i64 .i64 _ _ 1024 rfl rfl rfl rfl (by rw [HZ2.out]; omega) (by unfold maxLen; omega) (Nat.le_refl _) ?_; intro w2 hown hgrow; rw [made_ev] at hown; have O2 : Hid (OwnsE w2 w1.heap.size (.slice (some ⟨w1.heap.size, 0, none⟩) 1024 1024) (List.replicate 1024 noEv) ∧ Below w1.heap.size w1 w2) := Lib.hid ⟨by unfold OwnsE; rw [List.length_replicate]; exact hown, (Below.refl w1.heap.size w1).grown hgrow (Nat.le_refl _) (fun k e => by cases e)⟩; clear hown hgrow))
  obtain ⟨g, hg⟩ : ∃ g, g = w1.heap.size := ⟨_, rfl⟩
  obtain ⟨R, hR⟩ : ∃ R, R = w.heap.size := ⟨_, rfl⟩
  rw [← hg] at O2 ⊢
  rw [← hR] at S1 ⊢
  have HRg : Hid (R < g ∧ g = w1.heap.size) := Lib.hid ⟨by rw [hg]; exact S1.out.at.lt, hg⟩
  have hRne : R ≠ g := by have := HRg.out.1; omega
  clear hg hR
  have HL : Hid (OwnsE w2 g (.slice (some ⟨g, 0, none⟩) 1024 1024) (List.replicate 1024 noEv) ∧ Below g w1 w2 ∧ (List.replicate 1024 noEv).length = 1024 ∧ ∀ q, q < 0 → (List.replicate 1024 noEv).getD q noEv = X) := Lib.hid ⟨O2.out.1, O2.out.2, by rw [List.length_replicate], fun q hq => by omega⟩
  clear O2
  go_loopw [17] (fun i wr => ∃ (k : Nat) (es : List Ev), k ≤ 1024 ∧ i = .int .i64 k ∧ Hid (OwnsE wr g (.slice (some ⟨g, 0, none⟩) 1024 1024) es ∧ Below g w1 wr ∧ es.length = 1024 ∧ ∀ q, q < k → es.getD q noEv = X)) (fun i _ => 1024 - (intOf i).toNat)
  case atStart => exact ⟨0, _, Nat.zero_le _, rfl, HL⟩
  case round =>
    clear HL
    obtain ⟨k, es, hk, rfl, HI⟩ := hrel
    by_cases hlt : k < 1024
    · obtain ⟨r0, r1, r2, r3, r4, r5⟩ := (HI.out.1.at HI.out.2.2.1 hlt)
      have f0 := HI.out.1.fz HI.out.2.2.1
      have hS := S1.out.at.block (w' := wr) (HI.out.2.1.block R HRg.out.1)
      have HN : Hid (∀ W, W = ((((((wr.setCell ⟨g, k * 6, none⟩ (.int .i64 x1)).setCell ⟨g, k * 6 + 1, none⟩ (.int .i64 x2)).setCell ⟨g, k * 6 + 2, none⟩ (.int .i64 x3)).setCell ⟨g, k * 6 + 3, none⟩ (.int .i64 x4)).setCell ⟨g, k * 6 + 4, none⟩ (.int .i64 x5)).setCell ⟨g, k * 6 + 5, none⟩ (.int .u64 x6)) → OwnsE W g (.slice (some ⟨g, 0, none⟩) 1024 1024) (es.set k X) ∧ Below g w1 W ∧ (es.set k X).length = 1024 ∧ ∀ q, q < k + 1 → (es.set k X).getD q noEv = X) := Lib.hid (fun W e => by
        obtain ⟨h1, h2, h3, h4⟩ := HI.out
        have h5 := h1.set6 h3 hlt X
        rw [HXe.out] at h5 ⊢
        subst e
        refine ⟨h5, ?_, by rw [List.length_set]; exact h3, fun q hq => ?_⟩
        · exact ((((((h2.setCell (p := ⟨g, k * 6, none⟩) (Nat.le_refl _) _).setCell (p := ⟨g, k * 6 + 1, none⟩) (Nat.le_refl _) _).setCell (p := ⟨g, k * 6 + 2, none⟩) (Nat.le_refl _) _).setCell (p := ⟨g, k * 6 + 3, none⟩) (Nat.le_refl _) _).setCell (p := ⟨g, k * 6 + 4, none⟩) (Nat.le_refl _) _).setCell (p := ⟨g, k * 6 + 5, none⟩) (Nat.le_refl _) _)
        · rw [getD_set es k q _ (by omega)]
          by_cases c : q = k
          · rw [if_pos c]
          · rw [if_neg c, h4 q (by omega), HXe.out])
      rw [HXe.out] at hS
      obtain ⟨s0, s1, s2, s3, s4, s5⟩ := hS
      dsimp only at s0 s1 s2 s3 s4 s5
      rw [Nat.zero_add] at s1 s2 s3 s4 s5
      clear HI
      go_wp2
      go_roundw
      case rel => exact ⟨k + 1, es.set k X, by omega, by congr 1, Lib.hid (HN.out _ rfl)⟩
      case measure => simp [intOf]; omega
    · have HE : Hid (OwnsE wr g (.slice (some ⟨g, 0, none⟩) 1024 1024) es ∧ Below g w1 wr ∧ es.length = 1024 ∧ (∀ s ∈ es, s = X)) := Lib.hid ⟨HI.out.1, HI.out.2.1, HI.out.2.2.1, all_same fun q hq => HI.out.2.2.2 q (by have := HI.out.2.2.1; omega)⟩
      have hk' : k = 1024 := by omega
      subst hk'
      have HEk : Hid (EvsOk es) := Lib.hid (fun s hs => by rw [HE.out.2.2.2 s hs]; exact HOk.out)
      have HR3 := Lib.hid HE.out.1.reads
      have HS3 := Lib.hid (show Six wr R X from (HE.out.2.1.block R HRg.out.1).trans S1.out)
      have HS3' := Lib.hid HE.out.1.src
      have HB3 := Lib.hid (B1.out.trans (HE.out.2.1.mono (show w.heap.size ≤ g by have := HRg.out.2; have := B1.out.size; omega)))
      have HL3 := Lib.hid HE.out.2.2.1
      clear HI HE
      generalize wr = W3 at *
      obtain ⟨kk, hkk⟩ : ∃ kk, kk + n = 1024 := ⟨1024 - n, by omega⟩
      have ekk : (1024 : Int) - (n : Int) = (kk : Int) := by omega
      have hkb : kk ≤ 1024 := by omega
      obtain ⟨n1, hn1⟩ : ∃ n1, n1 = n + 1 := ⟨_, rfl⟩
      have en1 : (n : Int) + 1 = (n1 : Int) := by omega
      have n1b : n1 ≤ 256 := by omega
      have HKK : Hid (kk + n = 1024 ∧ n1 = n + 1) := Lib.hid ⟨hkk, hn1⟩
      have K1 := Lib.hid (New_ok (some ⟨g, 0, none⟩) kk 1024 (es.take kk) W3 (HR3.out.first kk) (by rw [List.length_take, HL3.out]; omega) (fun s hs => HEk.out s (List.mem_of_mem_take hs)) (by omega))
      have HLa : Hid ((putAll [] (es.take kk)).length = kk) := Lib.hid (by rw [putAll_len, List.length_take, HL3.out]; simp; omega)
      generalize putAll [] (es.take kk) = La at K1 HLa
      clear hkk hn1 hkb
      go_wp2_with (first
        | (go_at_call 10; refine K1.out.mono ?_; clear K1; rintro e W4 ⟨A, rfl, hA4, hG4, hb4⟩; have G4 := Lib.hid hG4; have B4 := Lib.hid hb4; obtain ⟨s0, s1, s2, s3, s4, s5⟩ := HS3.out.at.below hb4; rw [HXe.out] at s0 s1 s2 s3 s4 s5; dsimp only at s0 s1 s2 s3 s4 s5; rw [Nat.zero_add] at s1 s2 s3 s4 s5; have K2 := Lib.hid (below_al (Below.refl _ W4) (.cells #[.int .i64 x1, .int .i64 x2, .int .i64 x3, .int .i64 x4, .int .i64 x5, .int .u64 x6] 39)); clear hA4 hG4 hb4)
        | (at_builtin; refine wpList_append_grows _ rfl (.tmp 36) (.tmp 38) 22 rfl 39 i0 (.agg #[.int .i64 0, .int .i64 0, .int .i64 0, .int .i64 0, .int .i64 0, .int .u64 0]) 6 48 Try.underlying22 hi hz0 hz1 HZ2.out rfl (by decide) (some ⟨g, 0, none⟩) 1024 1024 (es.flatMap evc) rfl (fun h => by cases h) (by rw [flatE_len, HL3.out]) (fun b hb => by cases hb; exact (HS3'.out.keep (below_on B4.out K2.out)).holds) ⟨W4.heap.size, 0, none⟩ 1 1 (evc ⟨x1, x2, x3, x4, x5, x6⟩) rfl rfl (cell_ev_new W4 ⟨x1, x2, x3, x4, x5, x6⟩ 39) (evc_one _) (by omega) (by unfold maxLen; omega) (by omega) ?_; intro v5 w5 hown5 hg5; obtain ⟨g5, c5, rfl, -, -⟩ := World.ownsRow.form hown5 (by omega); have B5 := Lib.hid (K2.out.grown hg5 K2.out.size (fun k e => by cases e)); have K3 := Lib.hid (New_bad (some ⟨g5, 0, none⟩) 1025 c5 w5 (by omega)); clear hown5 hg5 K2)
        | (go_at_call 10; refine K3.out.mono ?_; clear K3; rintro e w6 ⟨rfl, hb6⟩; have B6 := Lib.hid (below_on B5.out hb6); have G6 := Lib.hid (G4.out.below B6.out); have K4 := Lib.hid (Put_full A _ La kk (some ⟨g, 0, none⟩) n1 1024 w6 G6.out (by have := HLa.out; have := HKK.out; omega) (by have := HLa.out; have := HKK.out; omega)); have K5 := Lib.hid (Left_any A _ La kk w6 G6.out); rw [HLa.out] at K5; clear hb6)
        | (go_at_call 19; refine K4.out.mono ?_; clear K4; rintro e w6' ⟨rfl, rfl⟩; have K6 := Lib.hid (Put_ok A _ La kk (some ⟨g, 0, none⟩) n 1024 (es.take n) w6 G6.out (((HR3.out.below (below_on B4.out B6.out)).first n).rdF (fun k c => c.1)) (by rw [List.length_take, HL3.out]; omega) (fun s hs => HEk.out s (List.mem_of_mem_take hs)) (by have := HLa.out; have := HKK.out; omega) (by have := HKK.out; omega)))
        | (go_at_call 17; refine K5.out.mono ?_; clear K5; rintro e w6' ⟨rfl, rfl⟩)
        | (go_at_call 19; refine K6.out.mono ?_; clear K6; rintro e w7 ⟨rfl, hG7, hB7⟩; have BW7 := Lib.hid ((below_on (below_on HB3.out B4.out) B6.out).trans (hB7.below (below_on (below_on HB3.out B4.out) B6.out).size fun k c => by have := c.1; have := HB3.out.size; omega)); have HLb : Hid ((putAll La (es.take n)).length = 1024) := Lib.hid (by rw [putAll_len, HLa.out, List.length_take, HL3.out]; have := HKK.out; omega); obtain ⟨t0, t1, t2, t3, t4, t5⟩ := ((HS3.out.at.below B4.out).below B6.out).block (hB7.block R (by have := (HS3.out.at.below (below_on B4.out B6.out)).lt; omega) (fun c => by have := c.1; have := HS3.out.at.lt; omega)); rw [HXe.out] at t0 t1 t2 t3 t4 t5; dsimp only at t0 t1 t2 t3 t4 t5; rw [Nat.zero_add] at t1 t2 t3 t4 t5; have G7 := Lib.hid (hG7.below (below_al (Below.refl _ w7) (.cells #[.int .i64 x1, .int .i64 x2, .int .i64 x3, .int .i64 x4, .int .i64 x5, .int .u64 x6] 39))); have K7 := Lib.hid (fun c => Put_full A _ _ _ (some ⟨w7.heap.size, 0, none⟩) 1 c _ G7.out (by have := HLb.out; omega) (by have := HLb.out; omega)); have K8 := Lib.hid (Put_ok A _ _ _ none 0 0 [] _ G7.out (fun h => absurd h (by simp)) rfl (fun s hs => by cases hs) (by have := HLb.out; omega) (by have := HKK.out; omega)); have FW7 : Hid (∀ k, Or2 (Nw W3 W4) (Nw w6 w7) k → w.heap.size ≤ k) := Lib.hid (fun k c => by have := HB3.out.size; have := (below_on (below_on HB3.out B4.out) B6.out).size; exact c.elim (fun c => by have := c.1; omega) (fun c => by have := c.1; omega)); clear hG7 hB7)
        | (go_at_call 19; refine (K7.out _).mono ?_; clear K7; rintro e w7' ⟨rfl, rfl⟩)
        | (go_at_call 19; refine K8.out.mono ?_; clear K8; rintro e w8 ⟨rfl, hG8, hB8⟩; have B8 := Lib.hid ((below_al BW7.out _).trans (hB8.below (below_al BW7.out _).size FW7.out)); have K9 := Lib.hid (Left_any _ _ _ _ w8 hG8); rw [putAll_len, HLb.out, List.length_nil] at K9; clear hG8 hB8)
        | (go_at_call 17; refine K9.out.mono ?_; clear K9; rintro e w9 ⟨rfl, rfl⟩))
      go_ret
      exact ⟨rfl, B8.out⟩

theorem walk_AgendaFull (x : Ev) (a : Int) (hx : EvOk x) (ha : (Lit.int .u8 a).wf = true) (w : World) :
    Calls Try.prog 8 #[evV x, .int .u8 a] w fun e w' => e = .returned (.bool true) ∧ Below w.heap.size w w' := by
  obtain ⟨h0, h1⟩ := u8_of ha
  obtain ⟨n, rfl⟩ : ∃ n : Nat, a = (n : Int) := ⟨a.toNat, by omega⟩
  exact full_in x n w hx (by omega)

end Go.Proofs.Ytfkidghillnknaa
