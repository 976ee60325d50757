/-
  The walk of the law StepDoes: it returns true for every prime, all axes, every step, all words, either way; nothing that was there is written.
-/
import Derived.Test.YtphghklhknadoaaDoorStepA
import Derived.Test.YtphghklhknadoaaDoorGrids
import Derived.Test.YtphghklhknadoaaDoorRows2
import Derived.Test.YtphghklhknadoaaDoorStepRefDo
import Derived.ChangeKeysEq
namespace Go.Proofs.YtphghklhknadoaaDoor
open Go.RowKit

set_option maxRecDepth 100000 in
set_option maxHeartbeats 4000000 in
theorem stepdoes_any {G : World → Prop} (H : StepHas G) (p : Int) (x : Option Addr) (n cap : Nat) (xa : List Ax) (inv : Bool) (s : Sp) (y : Option Addr) (m cap' : Nat) (xs : List Int) (w : World) (hG : G w) (hx : ReadsA w w.heap.size x xa) (hn : xa.length = n) (hlb : n ≤ 8796093022208) (hs : SpIn s)
    (hy : Reads .u64 w w.heap.size y xs) (hsr : Src .u64 w y m cap' xs) (hm : xs.length = m) (hw : Words xs) (hml : m ≤ maxLen) :
    Calls Tryd.prog 3 #[.int .u64 p, .slice x n cap, .bool inv, spV s, .slice y m cap'] w fun e w' => e = .returned (.bool true) ∧ Below w.heap.size w w' := by
  have HB := Lib.hid (below_al (Below.refl _ w) (.cells #[.int .i64 s.ax, .bool s.tw, .int .i64 s.st.r, .int .i64 s.st.l, .int .i64 s.st.m] 27))
  have HS := Lib.hid (SpAt.new w 27 s)
  have HV := Lib.hid (live16_any H _ (H.keep hG HB.out))
  obtain ⟨b, HFew⟩ := few_any x n cap xa 32 w hx hn hlb
  have H1 := Lib.hid (fun W (hB : Below w.heap.size w W) => H.doo p x n cap xa inv s y m cap' xs W (H.keep hG hB) ((hx.below hB).more hB.size) hn hlb hs ((hy.below hB).more hB.size) hm hw hml)
  have H2 := Lib.hid (fun W (hB : Below w.heap.size w W) => rdo16_any p x n cap xa inv s y m cap' xs W ((hx.below hB).more hB.size) hn hlb ((hy.below hB).more hB.size) hm hw hml)
  have H3 := Lib.hid (fun W (hB : Below w.heap.size w W) => H.predict p x n cap xa inv s y m cap' xs W (H.keep hG hB) ((hx.below hB).more hB.size) hn hlb hs ((hy.below hB).more hB.size) hm hw hml)
  have H4 := Lib.hid (fun W (hB : Below w.heap.size w W) => rpredict16_any p x n cap xa inv s y m cap' xs W ((hx.below hB).more hB.size) hn hlb ((hy.below hB).more hB.size) hm hw hml)
  have H5 := Lib.hid (fun W (hB : Below w.heap.size w W) => H.check p x n cap xa s W (H.keep hG hB) ((hx.below hB).more hB.size) hn hlb hs)
  have H6 := Lib.hid (fun W (hB : Below w.heap.size w W) => rcheck16_any p x n cap xa s W ((hx.below hB).more hB.size) hn hlb)
  have g1 := run_eqGuard_agg (P := Tryd.prog) (t := 34) (hm := by kernel_rfl)
  cases b
  · clear H1 H2 H3 H4 H5 H6 hx hy hsr hG hw hm hn hml H
    obtain ⟨sax, stw, sr, sl, sm⟩ := s
    unfold spV
    dsimp only at HB HS HV ⊢
    go_enter Tryd.func3, Tryd.ntmps3
    go_wp2_with (first
      | (go_at_call 12; refine HV.out.mono ?_; rintro e w1 ⟨rfl, b1⟩; have B1 := Lib.hid (below_then HB.out b1); clear b1)
      | (go_at_call 13; refine (HFew.out _ B1.out).mono ?_; rintro e w2 ⟨rfl, b2⟩; have B2 := Lib.hid (below_then B1.out b2); clear b2))
    go_ret
    exact ⟨rfl, B2.out⟩
  by_cases hl : 40 < m
  · have d1 : decide (40 < (m : Int)) = true := by simp; omega
    clear H1 H2 H3 H4 H5 H6 hx hy hsr hG hw hm hn hml H
    obtain ⟨sax, stw, sr, sl, sm⟩ := s
    unfold spV
    dsimp only at HB HS HV ⊢
    go_enter Tryd.func3, Tryd.ntmps3
    go_wp2_with (first
      | (go_at_call 12; refine HV.out.mono ?_; rintro e w1 ⟨rfl, b1⟩; have B1 := Lib.hid (below_then HB.out b1); clear b1)
      | (go_at_call 13; refine (HFew.out _ B1.out).mono ?_; rintro e w2 ⟨rfl, b2⟩; have B2 := Lib.hid (below_then B1.out b2); clear b2))
    go_ret
    exact ⟨rfl, B2.out⟩
  have d1 : decide (40 < (m : Int)) = false := by simp; omega
  have kd := Stp.wL_le p xa inv s xs
  rw [hm] at kd
  have q1 : (Stp.wE p xa s xs == Stp.wE p xa s xs) = true := by simp
  have q2 : (Stp.stepE p xa s == Stp.stepE p xa s) = true := by simp
  have hq := fun W => eql_ar (pr0 p xa inv s xs) (pr1 p xa inv s xs) (pr0 p xa inv s xs) (pr1 p xa inv s xs) W
  have hqt : (decide (pr0 p xa inv s xs = pr0 p xa inv s xs) && decide (pr1 p xa inv s xs = pr1 p xa inv s xs)) = true := by simp
  rw [hqt] at hq
  unfold RetAr at H3 H4
  unfold arV at H3 H4 hq
  generalize Stp.wL p xa inv s xs = ds at H1 H2 kd
  generalize Stp.wE p xa s xs = er at H1 H2 H3 H4 q1
  generalize Stp.stepE p xa s = es at H5 H6 q2
  generalize pr0 p xa inv s xs = a0 at H3 H4 hq
  generalize pr1 p xa inv s xs = a1 at H3 H4 hq
  have HX := Lib.hid hy
  have HN := Lib.hid hm
  have HSrc := Lib.hid (fun W (hB : Below w.heap.size w W) => hsr.keep hB)
  obtain ⟨i0, hi, hz0, hz1, hz2⟩ := info_parts info_u64
  have hmx : Tryd.prog.follows .mixedOrders = true := by kernel_rfl
  clear hx hy hsr hG hw hm hn hml H hs hqt
  obtain ⟨sax, stw, sr, sl, sm⟩ := s
  unfold spV at H1 H2 H3 H4 H5 H6 ⊢
  dsimp only at HB HS HV H1 H2 H3 H4 H5 H6 ⊢
  go_enter Tryd.func3, Tryd.ntmps3
  go_upto_region 10 with (first
    | (go_at_call 12; refine HV.out.mono ?_; rintro e w1 ⟨rfl, b1⟩; have B1 := Lib.hid (below_then HB.out b1); have S1 := Lib.hid (HS.out.then b1); clear b1 HS)
    | (go_at_call 13; refine (HFew.out _ B1.out).mono ?_; rintro e w2 ⟨rfl, b2⟩; have B2 := Lib.hid (below_then B1.out b2); have S2 := Lib.hid (S1.out.then b2); clear b2 S1)
    | (at_builtin; refine wpList_copy_new rfl _ _ 28 rfl 22 i0 .u64 8 Tryd.underlying28 hi hz0 hz1 hz2 _ m cap' xs rfl rfl (HSrc.out _ B2.out) (by unfold maxLen; omega) (by omega) ?_; intro v3 w3 hO b3; obtain ⟨x0, c0, rfl, -, -, hR0, -⟩ := hO.form; have R3 := Lib.hid hR0; have B3 := Lib.hid (below_then B2.out b3); have B3' := Lib.hid B3.out; have S3 := Lib.hid (S2.out.then b3); rw [HN.out]; clear b3 hO hR0; obtain ⟨k0, k1, k2, k3, k4⟩ := S3.out; dsimp only at k0 k1 k2 k3 k4)
    | (go_at_call 14; refine (H1.out _ B3.out).mono ?_; rintro e w4 ⟨v, rfl, hO, b4⟩; obtain ⟨y1, c1, rfl, -, -, hr, hg⟩ := hO.form; have R4 := Lib.hid hr; have O4 := Lib.hid (OwnsSome.of hO); have HG4 := Lib.hid hg; have B4 := Lib.hid (below_then B3.out b4); have C4 := Lib.hid b4; have S4 := Lib.hid (S3.out.then b4); clear b4 hO hr hg k0 k1 k2 k3 k4; obtain ⟨k0, k1, k2, k3, k4⟩ := S4.out; dsimp only at k0 k1 k2 k3 k4)
    | (go_at_call 15; refine (H2.out _ B4.out).mono ?_; rintro e w5 ⟨v, rfl, hO, b5⟩; obtain ⟨y2, c2, rfl, -, -, hr, -⟩ := hO.form; have R5 := Lib.hid hr; have P5 := Lib.hid ((R4.out.below b5).more b5.size); have O5 := Lib.hid (O4.out.keep b5); have B5 := Lib.hid (below_then B4.out b5); have C5 := Lib.hid (below_then C4.out b5); have S5 := Lib.hid (S4.out.then b5); clear b5 hO hr k0 k1 k2 k3 k4; obtain ⟨k0, k1, k2, k3, k4⟩ := S5.out; dsimp only at k0 k1 k2 k3 k4)
    | (go_at_call 16; refine (H3.out _ B5.out).mono ?_; rintro e w6 ⟨rfl, b6⟩; have T6 := Lib.hid (below_al b6 (.cells #[.int .u64 a0, .int .u64 a1] 34)); have A6 := Lib.hid (Ar.new w6 a0 a1); have S6 := Lib.hid (S5.out.then T6.out); have B6 := Lib.hid (below_then B5.out T6.out); clear b6 k0 k1 k2 k3 k4; obtain ⟨k0, k1, k2, k3, k4⟩ := S6.out; dsimp only at k0 k1 k2 k3 k4)
    | (go_at_call 17; refine (H4.out _ B6.out).mono ?_; rintro e w7 ⟨rfl, b7⟩; have U7 := Lib.hid (below_al b7 (.cells #[.int .u64 a0, .int .u64 a1] 34)); have A7 := Lib.hid (Ar.new w7 a0 a1); have A67 := Lib.hid (A6.out.then U7.out); have T7 := Lib.hid (below_then T6.out U7.out); have S7 := Lib.hid (S6.out.then U7.out); have B7 := Lib.hid (below_then B6.out U7.out); clear b7 k0 k1 k2 k3 k4))
  obtain ⟨V7, hV7⟩ : ∃ V, V = w7.alloc (.cells #[.int .u64 a0, .int .u64 a1] 34) := ⟨_, rfl⟩
  rw [← hV7] at A7 A67 T7 S7 B7 ⊢
  clear hV7
  have C7 := Lib.hid (below_then C5.out T7.out)
  have P7 := Lib.hid ((P5.out.below T7.out).more T7.out.size)
  have R7 := Lib.hid ((R5.out.below T7.out).more T7.out.size)
  have O7 := Lib.hid (O5.out.keep T7.out)
  obtain ⟨k0, k1, k2, k3, k4⟩ := S7.out
  dsimp only at k0 k1 k2 k3 k4
  have j0 := A67.out.c0
  have j1 := A67.out.c1
  have j2 := A7.out.c0
  have j3 := A7.out.c1
  have u0 := fun s : Since V7 => s.cell k0
  have u1 := fun s : Since V7 => s.cell k1
  have u2 := fun s : Since V7 => s.cell k2
  have u3 := fun s : Since V7 => s.cell k3
  have u4 := fun s : Since V7 => s.cell k4
  have u5 := fun s : Since V7 => s.cell j0
  have u6 := fun s : Since V7 => s.cell j1
  have u7 := fun s : Since V7 => s.cell j2
  have u8 := fun s : Since V7 => s.cell j3
  clear B1 B2 B3 B4 B5 B6 C4 C5 O4 O5 P5 R4 R5 S2 S3 S4 S5 S6 S7 T6 U7 A6 A7 A67 H1 H2 H3 H4 HFew HV HSrc HB hi hz0 hz1 hz2 k0 k1 k2 k3 k4 j0 j1 j2 j3
  have HSa := Lib.hid (fun s : Since V7 => since_quiet s (same_self y1 y2 ds.length c1 c2 ds s.out s.out.heap.size ((P7.out.below s.below).more s.below.size) ((R7.out.below s.below).more s.below.size) rfl (by omega)))
  have HC1 := Lib.hid (fun s : Since V7 => since_call s (H5.out s.out (below_then B7.out s.below)))
  have HC2 := Lib.hid (fun s : Since V7 => since_call s (H6.out s.out (below_then B7.out s.below)))
  clear P7 R7 H5 H6
  refine wp_region_since (by kernel_rfl) (by kernel_rfl) ?_
  repeat (go_big_quiet_step ((first
    | (go_at_call 18; rename_i s; exact HSa.out s)
    | (go_at_call 19; rename_i s; exact HC1.out s)
    | (go_at_call 20; rename_i s; exact HC2.out s))))
  refine wpQuiet_nil ?_
  rintro _ ⟨s, rfl⟩
  clear u0 u1 u2 u3 u4 u5 u6 u7 u8 HSa HC1 HC2
  have hst := O7.out.keep s.below
  have hbl := below_then C7.out s.below
  obtain ⟨V8, hV8⟩ : ∃ V, V = s.out := ⟨_, rfl⟩
  rw [← hV8] at hst hbl ⊢
  have HST := Lib.hid hst
  have HBL := Lib.hid hbl
  clear hV8 hst hbl C7 O7 B7 T7
  go_wp2
  go_loopw [101] (fun i wr => ∃ k : Nat, k ≤ ds.length ∧ i = .int .i64 (k : Int) ∧ Hid (OwnsSome wr w3.heap.size (.slice y1 ds.length c1) ds.length ∧ Below w3.heap.size w3 wr)) (fun i _ => ds.length - (intOf i).toNat)
  case atStart => exact ⟨0, Nat.zero_le _, rfl, Lib.hid ⟨HST.out, HBL.out⟩⟩
  case round =>
    obtain ⟨k, hk, rfl, HO⟩ := hrel
    clear HST HBL
    by_cases hlt : k < ds.length
    · have hdk : decide (k < ds.length) = true := by simpa using hlt
      obtain ⟨g, rfl, hg, -⟩ := HG4.out (by omega)
      obtain ⟨z, hc⟩ := HO.out.1.cell hlt
      have hf := HO.out.1.frozen k
      go_wp2
      go_roundw
      case rel => exact ⟨k + 1, by omega, by go_num, Lib.hid ⟨HO.out.1.set _, HO.out.2.setCell (p := ⟨g, k, none⟩) hg _⟩⟩
      case measure => simp [intOf]; omega
    · have hdk : decide (k < ds.length) = false := by simp; omega
      have hfin := below_then B3'.out HO.out.2
      have RX := Lib.hid ((HX.out.below hfin).more hfin.size)
      have R0' := Lib.hid ((R3.out.below HO.out.2).more HO.out.2.size)
      have HF := Lib.hid hfin
      clear HO hfin
      go_wp2_with (go_at_call 18; refine (same_self y x0 m cap' c0 xs _ wr.heap.size RX.out R0'.out HN.out (by omega)).mono ?_; rintro e w' ⟨rfl, n6, rfl⟩)
      go_ret
      exact ⟨rfl, below_draws HF.out _⟩

theorem stepdoes_walk {G : World → Prop} (H : StepHas G) (p : Int) (x : Option Addr) (len cap : Nat) (xa : List Ax) (inv : Bool) (s : Sp) (y : Option Addr) (m cap' : Nat) (zs : List Int) (w : World) (_hp : (Lit.int .u64 p).wf = true) (hA : AxisIn w x len cap xa) (hlb : len ≤ 8796093022208) (hs : SpIn s) (hr : RowIn .u64 w y m cap' zs) (hG : G w) :
    Calls Tryd.prog 3 #[.int .u64 p, .slice x len cap, .bool inv, spV s, .slice y m cap'] w fun e w' => e = .returned (.bool true) ∧ Below w.heap.size w w' := by
  obtain ⟨hn, hc1, hc2, hx, -⟩ := hA
  obtain ⟨xs, rfl, hm, hcp, hml, hy, hw⟩ := hr.reads
  exact stepdoes_any H p x len cap xa inv s y m cap' _ w hG hx hn hlb hs hy hr.src hm hw (Nat.le_trans hcp hml)

end Go.Proofs.YtphghklhknadoaaDoor
