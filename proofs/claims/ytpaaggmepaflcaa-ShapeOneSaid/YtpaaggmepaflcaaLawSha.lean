/-
  The laws of layer 5, walked: the example that each law begins with, and ShapeBack.
-/
import Derived.Test.YtpaaggmepaflcaaRefSha
import Derived.Test.YtpaaggmepaflcaaCoord
import Derived.Deep.RegionWith
namespace Go.Proofs.Ytpaaggmepaflcaa
open Go.RowKit

theorem reads_two (w : World) (k : IntKind) (u v : Int) (t : TypeId) : Reads k (w.alloc (.cells #[.int k u, .int k v] t)) (w.heap.size + 1) (some ⟨w.heap.size, 0, none⟩) [u, v] := fun _ => by
  refine ⟨w.heap.size, 0, rfl, by omega, fun j hj => ?_⟩
  have : j = 0 ∨ j = 1 := by simp at hj; omega
  rcases this with rfl | rfl <;> simp

theorem ok_two_three : Sh.Ok [2, 3] := ⟨by decide, by decide, by decide, by decide⟩

set_option maxRecDepth 100000 in
set_option maxHeartbeats 1000000 in
theorem live5_any (w : World) : Calls Try.prog 7 #[] w (RetB (.bool true) w) := by
  have hB0 := (Below.refl w.heap.size w).alloc (Nat.le_refl _) (.cells #[.int .i64 2, .int .i64 3] 3)
  have hL : Calls Try.prog 16 #[.slice (some ⟨w.heap.size, 0, none⟩) 2 2, .int .i64 0, .int .i64 1] (w.alloc (.cells #[.int .i64 2, .int .i64 3] 3)) (RetO [1, 4] 2 0 (w.alloc (.cells #[.int .i64 2, .int .i64 3] 3))) :=
    (line_ok [2, 3] ok_two_three 0 1 (by decide) (by decide) (some ⟨w.heap.size, 0, none⟩) 2 2 _ (w.heap.size + 1) (reads_two w .i64 2 3 3) rfl (by decide)).mono fun e w' h => RetL.open (n := 2) (xs := [1, 4]) h rfl (by decide)
  have HL := Lib.hid hL
  have HB0 := Lib.hid hB0
  clear hL hB0
  go_enter Try.func7, Try.ntmps7
  go_wp2_with (first
    | (go_at_call 16; refine HL.out.mono ?_; rintro e w1 ⟨g, cap, rfl, hg1, hg2, hcap, hmx, hO, hrd, hB1⟩; have HRD := Lib.hid hrd; have HB1 := Lib.hid hB1; clear hO hrd hB1)
    | (go_at_call 18; refine (sameInts_any _ _ 2 2 _ _ [1, 4] [1, 4] _ (w1.heap.size + 1) ((HRD.out.below ((Below.refl _ w1).alloc (Nat.le_refl _) _)).more (by omega)) (reads_two w1 .i64 1 4 3) rfl rfl (by omega) (by omega)).mono ?_; rintro e w' ⟨rfl, nd, rfl⟩))
  go_ret
  refine ⟨rfl, ?_⟩
  have hz : w.heap.size ≤ (w.alloc (.cells #[.int .i64 2, .int .i64 3] 3)).heap.size := by simp
  have h1 := HB0.out.trans (HB1.out.mono hz)
  exact below_draws (h1.alloc h1.size _) nd

/-- What Coord of axes that read as ds comes to, at any world that keeps what was there. -/
theorem coord_at {ds : List Int} {x : Option Addr} {len cap : Nat} {w : World} (hx : Reads .i64 w w.heap.size x ds) (hl : ds.length = len) (i : Int) :
    (∃ ec : Int, ec ≠ 0 ∧ ∀ W, Below w.heap.size w W → Calls Try.prog 10 #[.slice x len cap, .int .i64 i] W (RetL [] ec W)) ∨
    (∃ (ns : List Nat) (k : Nat), ds = Sh.ints ns ∧ Sh.Ok ns ∧ i = (k : Int) ∧ k < Sh.prod ns ∧ ∀ W, Below w.heap.size w W → Calls Try.prog 10 #[.slice x len cap, .int .i64 (k : Int)] W (RetO (Sh.ints (Sh.crd ns k)) len 0 W)) := by
  rcases Sh.ok_or ds with ⟨ns, ok, rfl⟩ | no
  · rw [Sh.ints_len] at hl
    by_cases hi : 0 ≤ i ∧ i < (Sh.prod ns : Nat)
    · obtain ⟨k, rfl⟩ : ∃ k : Nat, i = (k : Int) := ⟨i.toNat, by omega⟩
      exact .inr ⟨ns, k, rfl, ok, rfl, by omega, fun W hW => (coord_ok ns ok k (by omega) x len cap W ((hx.below hW).more hW.size) hl).mono fun e w' h => h.open (by rw [Sh.ints_len, Sh.crd_len]; exact hl) (by have := ok.one; omega)⟩
    · exact .inl ⟨1, by omega, fun W hW => coord_arg ns ok i hi x len cap W ((hx.below hW).more hW.size) hl⟩
  · exact .inl ⟨3, by omega, fun W hW => coord_no ds no i x len cap W ((hx.below hW).more hW.size) hl⟩

/-- What Flat comes to, likewise. -/
theorem flat_at {ds cs : List Int} {x y : Option Addr} {len cap m cap' : Nat} {w : World} (hx : Reads .i64 w w.heap.size x ds) (hl : ds.length = len) (hc : len ≤ cap) (hy : Reads .i64 w w.heap.size y cs) (hm : cs.length = m) :
    (∃ ec : Int, ec ≠ 0 ∧ ∀ W, Below w.heap.size w W → Calls Try.prog 12 #[.slice x len cap, .slice y m cap'] W (RetN 0 ec W)) ∨
    (∃ (ns us : List Nat), ds = Sh.ints ns ∧ Sh.Ok ns ∧ cs = Sh.ints us ∧ Sh.In ns us ∧ ∀ W, Below w.heap.size w W → Calls Try.prog 12 #[.slice x len cap, .slice y m cap'] W (RetN (Sh.fl ns us : Nat) 0 W)) := by
  rcases Sh.ok_or ds with ⟨ns, ok, rfl⟩ | no
  · rw [Sh.ints_len] at hl
    rcases Sh.in_or ns cs with ⟨us, hi, rfl⟩ | ho
    · rw [Sh.ints_len] at hm
      exact .inr ⟨ns, us, rfl, ok, rfl, hi, fun W hW => flat_ok ns ok us hi y m cap' x len cap W W.heap.size ((hx.below hW).more hW.size) hl hc ((hy.below hW).more hW.size) hm⟩
    · by_cases hml : cs.length = ns.length
      · exact .inl ⟨1, by omega, fun W hW => flat_arg ns ok cs hml ho y m cap' x len cap W W.heap.size ((hx.below hW).more hW.size) hl hc ((hy.below hW).more hW.size) hm⟩
      · exact .inl ⟨1, by omega, fun W hW => flat_len ns ok y m cap' (by omega) x len cap W W.heap.size ((hx.below hW).more hW.size) hl⟩
  · exact .inl ⟨3, by omega, fun W hW => flat_no ds no _ x len cap W W.heap.size ((hx.below hW).more hW.size) hl⟩

theorem below_next {B : Nat} {w w1 w2 : World} (h : Below B w w1) (hw : B ≤ w1.heap.size) (k : Below w1.heap.size w1 w2) : Below B w w2 := h.trans (k.mono hw)

set_option maxRecDepth 100000 in
set_option maxHeartbeats 2000000 in
theorem walk_ShapeBack (x : Option Addr) (len cap : Nat) (zs : List Int) (y : Option Addr) (m cap' : Nat) (us : List Int) (i : Int) (w : World) (hr : RowIn .i64 w x len cap zs) (hq : RowIn .i64 w y m cap' us) (_hi : (Lit.int .i64 i).wf = true) :
    Calls Try.prog 4 #[.slice x len cap, .slice y m cap', .int .i64 i] w fun e w' => e = .returned (.bool true) ∧ Below w.heap.size w w' := by
  obtain ⟨ds, -, hl, hc, hcm, hx, -⟩ := hr.readsI
  obtain ⟨cs, -, hm, hc', hcm', hy, -⟩ := hq.readsI
  clear hr hq
  by_cases hlen : 10 < len
  · have d1 : decide ((10 : Int) < (len : Int)) = true := by simp; omega
    clear hx hy hl hm
    go_enter Try.func4, Try.ntmps4
    go_wp2_with (go_at_call 7; refine (live5_any _).mono ?_; rintro e w1 ⟨rfl, hb⟩)
    go_ret
    exact ⟨rfl, hb⟩
  by_cases hlen' : 10 < m
  · have d1 : decide ((10 : Int) < (len : Int)) = false := by simp; omega
    have d2 : decide ((10 : Int) < (m : Int)) = true := by simp; omega
    clear hx hy hl hm
    go_enter Try.func4, Try.ntmps4
    go_wp2_with (go_at_call 7; refine (live5_any _).mono ?_; rintro e w1 ⟨rfl, hb⟩)
    go_ret
    exact ⟨rfl, hb⟩
  have d1 : decide ((10 : Int) < (len : Int)) = false := by simp; omega
  have d2 : decide ((10 : Int) < (m : Int)) = false := by simp; omega
  have HX := Lib.hid hx
  have HY := Lib.hid hy
  rcases flat_at (cap' := cap') hx hl hc hy hm with ⟨ef, hef, hf⟩ | ⟨ns, vs, e1, ok, e2, hin, hf⟩
  · have f1 : (ef != 0) = true := by rw [bne_iff_ne]; exact hef
    have HF := Lib.hid hf
    rcases coord_at (cap := cap) hx hl i with ⟨ec, hec, hco⟩ | ⟨ns, k, e1, ok, rfl, hk, hco⟩
    · have f2 : (ec == 0) = false := by simpa using hec
      have HC := Lib.hid hco
      clear hx hy hf hco hef hec hl hm
      go_enter Try.func4, Try.ntmps4
      go_wp2_with (first
        | (go_at_call 7; refine (live5_any _).mono ?_; rintro e w1 ⟨rfl, hb⟩; have HB := Lib.hid hb; clear hb)
        | (go_at_call 10; refine (HC.out w1 HB.out).mono ?_; rintro e w2 ⟨v, rfl, -, hb2⟩; have HB2 := Lib.hid (below_next HB.out HB.out.size hb2); clear hb2)
        | (go_at_call 12; refine (HF.out w2 HB2.out).mono ?_; rintro e w3 ⟨rfl, rfl⟩))
      go_ret
      exact ⟨rfl, HB2.out⟩
    · subst e1
      rw [Sh.ints_len] at hl
      have HC := Lib.hid hco
      have HFC := Lib.hid (fun (p : Option Addr) (c : Nat) (W : World) (hW : Below w.heap.size w W) (hp : Reads .i64 W W.heap.size p (Sh.ints (Sh.crd ns k))) => flat_ok ns ok (Sh.crd ns k) (Sh.crd_in ok.pos k) p len c x len cap W W.heap.size ((hx.below hW).more hW.size) hl hc hp (by rw [Sh.crd_len]; exact hl))
      rw [Sh.fl_crd' hk] at HFC
      clear hx hy hf hco hef hl hm ok hk
      go_enter Try.func4, Try.ntmps4
      go_wp2_with (first
        | (go_at_call 7; refine (live5_any _).mono ?_; rintro e w1 ⟨rfl, hb⟩; have HB := Lib.hid hb; clear hb)
        | (go_at_call 10; refine (HC.out w1 HB.out).mono ?_; rintro e w2 ⟨g, capc, rfl, hg1, hg2, hcap, hmx, -, hrd, hb2⟩; have HB2 := Lib.hid (below_next HB.out HB.out.size hb2); have HRD := Lib.hid hrd; clear hrd hb2)
        | (go_at_call_of 12 (Value.slice (some ⟨g, 0, none⟩) len capc); refine (HFC.out _ _ w2 HB2.out HRD.out).mono ?_; rintro e w3 ⟨rfl, rfl⟩)
        | (go_at_call_of 12 (Value.slice y m cap'); refine (HF.out _ HB2.out).mono ?_; rintro e w4 ⟨rfl, rfl⟩))
      go_ret
      exact ⟨rfl, HB2.out⟩
  · subst e1
    subst e2
    rw [Sh.ints_len] at hl hm
    have HF := Lib.hid hf
    have hlt := Sh.fl_lt hin
    have HFB := Lib.hid (fun (W : World) (hW : Below w.heap.size w W) => (coord_ok ns ok (Sh.fl ns vs) hlt x len cap W ((hx.below hW).more hW.size) hl).mono fun e w' h => h.open (n := len) (by rw [Sh.ints_len, Sh.crd_len]; exact hl) (by have := ok.one; omega))
    rw [Sh.crd_fl hin] at HFB
    have HA := Lib.hid (fun (W : World) (hW : Below w.heap.size w W) => all_ok ns ok x len cap W W.heap.size ((hx.below hW).more hW.size) hl)
    have HL := Lib.hid hl
    have HM := Lib.hid hm
    have HIL := Lib.hid hin.len
    obtain ⟨F, hF⟩ : ∃ F, F = Sh.fl ns vs := ⟨_, rfl⟩
    obtain ⟨P, hP⟩ : ∃ P, P = Sh.prod ns := ⟨_, rfl⟩
    rw [← hF] at HF HFB hlt
    rw [← hP] at HA hlt
    have t1 : decide (F < P) = true := by simpa using hlt
    rcases coord_at (len := len) (cap := cap) hx (by rw [Sh.ints_len]; exact hl) i with ⟨ec, hec, hco⟩ | ⟨ns', k, e1, ok', rfl, hk, hco⟩
    · have f2 : (ec == 0) = false := by simpa using hec
      have HC := Lib.hid hco
      clear hx hy hf hco hec hl hm ok hin hF hP hlt
      go_enter Try.func4, Try.ntmps4
      go_wp2_with (first
        | (go_at_call 7; refine (live5_any _).mono ?_; rintro e w1 ⟨rfl, hb⟩; have HB := Lib.hid hb; clear hb)
        | (go_at_call_of 10 (Value.int .i64 i); refine (HC.out w1 HB.out).mono ?_; rintro e w2 ⟨v, rfl, -, hb2⟩; have HB2 := Lib.hid (below_next HB.out HB.out.size hb2); clear hb2)
        | (go_at_call 12; refine (HF.out w2 HB2.out).mono ?_; rintro e w3 ⟨rfl, rfl⟩)
        | (go_at_call_of 10 (Value.int .i64 (F : Int)); refine (HFB.out _ HB2.out).mono ?_; rintro e w4 ⟨g4, cap4, rfl, hg41, hg42, hcap4, hmx4, -, hrd4, hb4⟩; have HB4 := Lib.hid (below_next HB2.out HB2.out.size hb4); have HRD4 := Lib.hid hrd4; clear hrd4 hb4)
        | (go_at_call 8; refine (HA.out _ HB4.out).mono ?_; rintro e w5 ⟨rfl, rfl⟩)
        | (go_at_call 18; refine (sameInts_any _ _ len m _ _ (Sh.ints vs) (Sh.ints vs) _ _ HRD4.out ((HY.out.below HB4.out).more HB4.out.size) (by rw [Sh.ints_len, HIL.out]; exact HL.out) (by rw [Sh.ints_len]; exact HM.out) (by omega) (by omega)).mono ?_; rintro e w6 ⟨rfl, nd, rfl⟩; rw [decide_eq_true (rfl : Sh.ints vs = Sh.ints vs)]))
      go_ret
      exact ⟨rfl, below_draws HB4.out nd⟩
    · obtain rfl := Sh.ints_inj e1
      have HC := Lib.hid hco
      have HFC := Lib.hid (fun (p : Option Addr) (c : Nat) (W : World) (hW : Below w.heap.size w W) (hp : Reads .i64 W W.heap.size p (Sh.ints (Sh.crd ns k))) => flat_ok ns ok (Sh.crd ns k) (Sh.crd_in ok.pos k) p len c x len cap W W.heap.size ((hx.below hW).more hW.size) hl hc hp (by rw [Sh.crd_len]; exact hl))
      rw [Sh.fl_crd' hk] at HFC
      clear hx hy hf hco hl hm ok ok' hk hin hF hP hlt e1
      go_enter Try.func4, Try.ntmps4
      go_wp2_with (first
        | (go_at_call 7; refine (live5_any _).mono ?_; rintro e w1 ⟨rfl, hb⟩; have HB := Lib.hid hb; clear hb)
        | (go_at_call_of 10 (Value.int .i64 (k : Int)); refine (HC.out w1 HB.out).mono ?_; rintro e w2 ⟨g, capc, rfl, hg1, hg2, hcap, hmx, -, hrd, hb2⟩; have HB2 := Lib.hid (below_next HB.out HB.out.size hb2); have HRD := Lib.hid hrd; clear hrd hb2)
        | (go_at_call_of 12 (Value.slice (some ⟨g, 0, none⟩) len capc); refine (HFC.out _ _ w2 HB2.out HRD.out).mono ?_; rintro e w3 ⟨rfl, rfl⟩)
        | (go_at_call_of 12 (Value.slice y m cap'); refine (HF.out _ HB2.out).mono ?_; rintro e w3 ⟨rfl, rfl⟩)
        | (go_at_call_of 10 (Value.int .i64 (F : Int)); refine (HFB.out _ HB2.out).mono ?_; rintro e w4 ⟨g4, cap4, rfl, hg41, hg42, hcap4, hmx4, -, hrd4, hb4⟩; have HB4 := Lib.hid (below_next HB2.out HB2.out.size hb4); have HRD4 := Lib.hid hrd4; clear hrd4 hb4)
        | (go_at_call 8; refine (HA.out _ HB4.out).mono ?_; rintro e w5 ⟨rfl, rfl⟩)
        | (go_at_call 18; refine (sameInts_any _ _ len m _ _ (Sh.ints vs) (Sh.ints vs) _ _ HRD4.out ((HY.out.below HB4.out).more HB4.out.size) (by rw [Sh.ints_len, HIL.out]; exact HL.out) (by rw [Sh.ints_len]; exact HM.out) (by omega) (by omega)).mono ?_; rintro e w6 ⟨rfl, nd, rfl⟩; rw [decide_eq_true (rfl : Sh.ints vs = Sh.ints vs)]))
      go_ret
      exact ⟨rfl, below_draws HB4.out nd⟩

end Go.Proofs.Ytpaaggmepaflcaa
