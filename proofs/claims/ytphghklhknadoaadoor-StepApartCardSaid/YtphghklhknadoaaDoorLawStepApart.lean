/-
  The walk of the law StepApart: it returns true for every prime, all axes, every step, all words, every word's place and every word in it, either way; nothing that was there is written.
-/
import Derived.Test.YtphghklhknadoaaDoorStepA
import Derived.Test.YtphghklhknadoaaDoorGrids
import Derived.Test.YtphghklhknadoaaDoorPairs
import Derived.Deep.CutRange
import Derived.Deep.RegionWith
namespace Go.Proofs.YtphghklhknadoaaDoor
open Go.RowKit

set_option maxRecDepth 100000 in
set_option maxHeartbeats 8000000 in
theorem stepapart_yes {G : World → Prop} (H : StepHas G) (HG : GrpHas G) (p : Int) (x : Option Addr) (n cap : Nat) (xa : List Ax) (inv : Bool) (s : Sp) (y : Option Addr) (m cap' : Nat) (xs : List Int) (A : Nat) (u : Int) (w : World) (hG : G w) (hx : ReadsA w w.heap.size x xa) (hn : xa.length = n) (hlb : n ≤ 8796093022208) (hs : SpIn s)
    (hy : Reads .u64 w w.heap.size y xs) (hsr : Src .u64 w y m cap' xs) (hm : xs.length = m) (hw : Words xs) (hml : m ≤ maxLen) (hl : m ≤ 40) (hok : Stp.Wok p xa s xs) (ha : A < 65536) (u0 : 0 ≤ u) (u1 : u < 18446744073709551616) (hup : u < p) (HFew : Hid (∀ W, Below w.heap.size w W → Calls Tryd.prog 13 #[.slice x n cap, .int .i64 32] W (RetB (.bool true) W))) :
    Calls Tryd.prog 9 #[.int .u64 p, .slice x n cap, .bool inv, spV s, .slice y m cap', .int .u16 (A : Int), .int .u64 u] w fun e w' => e = .returned (.bool true) ∧ Below w.heap.size w w' := by
  have HB := Lib.hid (below_al (Below.refl _ w) (.cells #[.int .i64 s.ax, .bool s.tw, .int .i64 s.st.r, .int .i64 s.st.l, .int .i64 s.st.m] 27))
  have HS := Lib.hid (SpAt.new w 27 s)
  have HV := Lib.hid (live16_any H _ (H.keep hG HB.out))
  obtain ⟨i0, hi, hz0, hz1, hz2⟩ := info_parts info_u64
  obtain ⟨i1, hti, hy0, hy1, hy2⟩ := info_parts info_int
  have HY2 := Lib.hid hy2
  have d1 : decide (40 < (m : Int)) = false := by simp; omega
  have hm0 : 0 < m := by have := hok.le; omega
  have d2 : ((m : Int) == 0) = false := by simp; omega
  have hmz : (m : Int) ≠ 0 := by omega
  obtain ⟨k, hkd⟩ : ∃ k : Nat, k = A % m := ⟨_, rfl⟩
  have hkm : k < m := by rw [hkd]; exact Nat.mod_lt _ hm0
  have hka : (A : Int) % (m : Int) = (k : Int) := by rw [hkd, ← cast_mod]
  have hkn := hok.ok.ax.kn
  have hok' : Stp.Wok p xa s (xs.set k u) := ⟨hok.ok, by rw [List.length_set]; exact hok.len, fun j hj => by
    rw [List.length_set] at hj
    by_cases e : j = k
    · subst e; rw [List.getD_eq_getElem?_getD, List.getElem?_set_self hj]; exact hup
    · rw [Stp.get_set (Ne.symm e)]; exact hok.lt j hj⟩
  have HD := Lib.hid (fun W (hB : Below w.heap.size w W) => H.doo p x n cap xa inv s y m cap' xs W (H.keep hG hB) ((hx.below hB).more hB.size) hn hlb hs ((hy.below hB).more hB.size) hm hw hml)
  have HD2 := Lib.hid (fun (z : Option Addr) (c : Nat) W (hB : Below w.heap.size w W) (hz : Reads .u64 W W.heap.size z (xs.set k u)) => H.doo p x n cap xa inv s z m c (xs.set k u) W (H.keep hG hB) ((hx.below hB).more hB.size) hn hlb hs hz (by rw [List.length_set]; exact hm) (Words.put hw k u0 u1) hml)
  have HGr := Lib.hid (fun W (hB : Below w.heap.size w W) => HG.groups p x n cap xa s W (H.keep hG hB) ((hx.below hB).more hB.size) hn hlb hs)
  rw [hok.zero, hok.wL] at HD
  rw [hok'.zero, hok'.wL] at HD2
  unfold grpL at HGr
  rw [hok.ok.zero, if_pos rfl] at HGr
  have hin : Fp.isIn p (fun j => [u].getD j 0) 1 = true := (Fp.isIn_iff hkn 1).2 (fun j hj => by
    obtain rfl : j = 0 := by omega
    exact hup)
  have HIn : Hid (∀ W : World, ∀ g, W.cell? ⟨g, 0, none⟩ = some (.int .u64 u) → ∀ c, Calls Tryd.prog 29 #[.int .u64 p, .slice (some ⟨g, 0, none⟩) 1 c] W fun e w' => e = .returned (.bool true) ∧ W = w') := Lib.hid (fun W g hc c => by
    rw [← hin]
    exact in_row p g 0 1 c _ W (by omega) (fun j hj => by
      obtain rfl : j = 0 := by omega
      exact hc))
  have hl1 := Stp.stp_len p xa inv s xs
  have hl2 := Stp.stp_len p xa inv s (xs.set k u)
  rw [List.length_set, hm] at hl2
  rw [hm] at hl1
  have HAp := Lib.hid (fun i (hi : i < m) => Stp.apart hok inv (k := k) (i := i) (w := u) (by omega))
  have HOk := Lib.hid (fun g (hg : g ∈ Stp.grp xa s) => Stp.grp_ok hok.ok hg)
  rw [← hok.len, hm] at HOk
  have hgl := Stp.grp_len hok.ok
  have HSrc := Lib.hid (fun W (hB : Below w.heap.size w W) => hsr.keep hB)
  have HL1 := Lib.hid hl1
  have HL2 := Lib.hid hl2
  have HM := Lib.hid hm
  generalize Stp.stp p xa inv s (xs.set k u) = zs at HD2 HAp HL2
  generalize Stp.stp p xa inv s xs = ys at HD HAp HL1
  generalize Stp.grp xa s = gs at HGr HAp HOk hgl
  have nn : ((m : Int) != (m : Int)) = false := by simp
  clear hx hy hG hw hm hn hml H HG hsr hok hok' hl1 hl2 hin hs hkd hy2
  obtain ⟨sax, stw, sr, sl, sm⟩ := s
  unfold spV at HD HD2 HGr ⊢
  dsimp only at HB HS HV HD HD2 HGr ⊢
  go_enter Tryd.func9, Tryd.ntmps9
  go_upto_region 9 with (first
    | (go_at_call 12; refine HV.out.mono ?_; rintro e w1 ⟨rfl, b1⟩; have B1 := Lib.hid (below_then HB.out b1); have S1 := Lib.hid (HS.out.then b1); clear b1 HS)
    | (go_at_call 13; refine (HFew.out _ B1.out).mono ?_; rintro e w2 ⟨rfl, b2⟩; have B2 := Lib.hid (below_then B1.out b2); have S2 := Lib.hid (S1.out.then b2); obtain ⟨k0, k1, k2, k3, k4⟩ := S2.out; dsimp only at k0 k1 k2 k3 k4; clear b2 S1)
    | (go_at_call 14; refine (HD.out _ B2.out).mono ?_; rintro e w3 ⟨v, rfl, hO, b3⟩; obtain ⟨y1, c1, rfl, -, -, hr1, -⟩ := hO.form; have R1 := Lib.hid hr1; have B3 := Lib.hid (below_then B2.out b3); have S3 := Lib.hid (S2.out.then b3); rw [HL1.out]; clear b3 hO hr1 k0 k1 k2 k3 k4)
    | (go_at_call 29; refine (HIn.out _ _ (by simp) _).mono ?_; rintro e w' ⟨rfl, rfl⟩))
  have B4 := Lib.hid (below_al B3.out (.cells #[.int .u64 u] 22))
  have hb4 := below_al (Below.refl _ w3) (.cells #[.int .u64 u] 22)
  have R4 := Lib.hid ((R1.out.below hb4).more hb4.size)
  have S4 := Lib.hid (S3.out.then hb4)
  obtain ⟨W4, hW4⟩ : ∃ W4, W4 = w3.alloc (.cells #[.int .u64 u] 22) := ⟨_, rfl⟩
  rw [← hW4] at B4 R4 S4 ⊢
  clear hb4 hW4 R1 S3 S2 B1 B2 B3 HV HFew HIn HD HB
  go_upto_region 12 with (first
    | (at_builtin; refine wpList_copy_new rfl _ _ 28 rfl 22 i0 .u64 8 Tryd.underlying28 hi hz0 hz1 hz2 _ m cap' xs rfl rfl (HSrc.out _ B4.out) (by unfold maxLen; omega) (by omega) ?_; intro v5 w5 hO hB; obtain ⟨x5, c5, rfl, hc5, hm5, -, hf5⟩ := hO.form; rw [HM.out] at hO hc5 hf5 ⊢; obtain ⟨g5, rfl, hg5, -⟩ := hf5 hm0; have hmelt := hO.melt HM.out k; have O5 := Lib.hid (hO.put HM.out k u); have b5 := hB.setCell (p := ⟨g5, k, none⟩) hg5 (.int .u64 u); have B5 := Lib.hid (below_then B4.out b5); have R5 := Lib.hid ((R4.out.below b5).more b5.size); have S5 := Lib.hid (S4.out.then b5); have zc := hO.num HM.out hkm; obtain ⟨k0, k1, k2, k3, k4⟩ := S5.out; dsimp only at k0 k1 k2 k3 k4; clear hO hB hf5 hg5 b5 R4 S4)
    | (go_at_call 14; refine (HD2.out _ _ _ B5.out O5.out.rd).mono ?_; rintro e w6 ⟨v, rfl, hO, b6⟩; obtain ⟨y2, c2, rfl, -, -, hr2, -⟩ := hO.form; have R6 := Lib.hid ((R5.out.below b6).more b6.size); have Z6 := Lib.hid hr2; have B6 := Lib.hid (below_then B5.out b6); have S6 := Lib.hid (S5.out.then b6); rw [HL2.out]; clear b6 hO hr2 k0 k1 k2 k3 k4))
  obtain ⟨k0, k1, k2, k3, k4⟩ := S6.out
  dsimp only at k0 k1 k2 k3 k4
  clear S5 B5 R5 O5 zc hmelt
  go_upto_region 16 with (first
    | (go_at_call 23; refine (HGr.out _ B6.out).mono ?_; rintro e w7 ⟨xg, cg, rfl, hrg, b7⟩; have RG := Lib.hid hrg; have Y7 := Lib.hid ((R6.out.below b7).more b7.size); have Z7 := Lib.hid ((Z6.out.below b7).more b7.size); have B7 := Lib.hid (below_then B6.out b7); clear hrg b7 k0 k1 k2 k3 k4)
    | (at_make; refine wpList_make_full _ rfl _ _ 58 rfl w7.heap.size 3 i1 (.int .i64 0) 1 Tryd.underlying58 hti hy0 hy1 .i64 .i64 _ _ m rfl rfl rfl rfl (by rw [HY2.out]; omega) (by unfold maxLen; omega) (Nat.le_refl _) ?_; intro w8 hown hgrow))
  obtain ⟨g, hg⟩ : ∃ g, g = w7.heap.size := ⟨_, rfl⟩
  have hM : Owns .i64 3 w8 g (.slice (some ⟨g, 0, none⟩) m m) (List.replicate m 0) := by
    rw [show (Value.int .i64 0).cells = #[.int .i64 0] from rfl, toList_madeCells_one, Nat.mul_one] at hown
    rw [hg]
    unfold Owns
    rw [List.length_replicate, List.map_replicate]
    exact hown
  have hb8 : Below w7.heap.size w7 w8 := (Below.refl _ w7).grown hgrow (Nat.le_refl _) (fun k e => by cases e)
  have M8 := Lib.hid hM
  have T8 := Lib.hid hb8
  rw [← hg] at T8 RG Y7 Z7 ⊢
  have HG7 := Lib.hid hg
  clear hown hgrow hM hb8 hg hti hy0 hy1 HY2 hi hz0 hz1 hz2 R6 Z6 B6 S6 HD2 HGr HSrc
  go_upto_region 17 with fail
  go_loopw [124] (fun i wr => ∃ (j : Nat) (cs : List Int), j ≤ gs.length ∧ i = .int .i64 (j : Int) ∧ cs.length = m ∧ Hid (Stp.Met k (j * 5) (gs.take j) cs) ∧ Hid (Owns .i64 3 wr g (.slice (some ⟨g, 0, none⟩) m m) cs) ∧ Hid (Below g w7 wr)) (fun i _ => gs.length - (intOf i).toNat)
  case atStart => exact ⟨0, List.replicate m 0, Nat.zero_le _, rfl, by simp, Lib.hid (Stp.Met.start k m), M8, T8⟩
  case round =>
    obtain ⟨j, cs, hj, rfl, hcl, HMe, HO, HBr⟩ := hrel
    by_cases hlj : j < gs.length
    · have hdj : decide (j < gs.length) = true := by simpa using hlj
      obtain ⟨bg, og, rfl, hbg, hcg⟩ := RG.out (by omega)
      obtain ⟨o1, o2, o3, o4, o5, o6, o7⟩ := HOk.out _ (Stp.get_memG (d := noGp) hlj)
      have hTk := Stp.take_snoc gs noGp j hlj
      obtain ⟨⟨x1, c1', e1, r1⟩, ⟨x2', c2', e2, r2⟩, ⟨x3, c3', e3, r3⟩⟩ := hcg j hlj
      obtain ⟨gp, hgp⟩ : ∃ gp, gp = gs.getD j noGp := ⟨_, rfl⟩
      rw [← hgp] at e1 e2 e3 r1 r2 r3 o1 o2 o3 o4 o5 o6 o7 hTk
      obtain ⟨l, hld⟩ : ∃ l, l = gp.out.length := ⟨_, rfl⟩
      rw [o1] at e1 o3 o4
      rw [o2] at e2
      rw [← hld] at e1 e2 e3 o1 o2 o3 o4
      obtain ⟨b1, q1, rfl, hb1, hc1⟩ := r1 (by rw [Sh.ints_len]; omega)
      obtain ⟨b3, q3, rfl, hb3, hc3⟩ := r3 (by rw [Sh.ints_len]; omega)
      have k0 := (HBr.out.cell (p := ⟨bg, og + j * 3, none⟩) hbg).trans e1
      have k1 := (HBr.out.cell (p := ⟨bg, og + j * 3 + 1, none⟩) hbg).trans e2
      have k2 := (HBr.out.cell (p := ⟨bg, og + j * 3 + 2, none⟩) hbg).trans e3
      have HTk := Lib.hid hTk
      have O6 := Lib.hid o6
      have O1 := Lib.hid o1
      have HLd := Lib.hid hld
      have HC1 := Lib.hid hc1
      have HC3 := Lib.hid hc3
      clear hgp hcg e1 e2 e3 r1 r2 r3 o1 o2 o5 o6 o7 hTk hc1 hc3 RG hld
      go_upto_region 20 with fail
      obtain ⟨V, hV⟩ : ∃ V, V = wr.alloc (.cells #[.slice (some ⟨b1, q1, none⟩) l c1', .slice x2' l c2', .slice (some ⟨b3, q3, none⟩) l c3'] 60) := ⟨_, rfl⟩
      have C0 : V.cell? ⟨wr.heap.size, 0, none⟩ = some (.slice (some ⟨b1, q1, none⟩) l c1') := by rw [hV]; simp
      have C2 : V.cell? ⟨wr.heap.size, 2, none⟩ = some (.slice (some ⟨b3, q3, none⟩) l c3') := by rw [hV]; simp
      have HOV : Hid (Owns .i64 3 V g (.slice (some ⟨g, 0, none⟩) m m) cs) := Lib.hid (by rw [hV]; exact HO.out.alloc _)
      have HBV : Hid (Below g w7 V) := Lib.hid (by rw [hV]; exact HBr.out.alloc (by have := HBr.out.size; have := HG7.out; omega) _)
      rw [← hV]
      clear hV k0 k1 k2
      go_wp2
      go_loopw [26, 131] (fun v i wi => ∃ q : Nat, q ≤ l ∧ i = .int .i64 (q : Int) ∧ v = .bool (decide (k ∈ gp.inn.take q)) ∧ wi = V) (fun _ i _ => l - (intOf i).toNat)
      case atStart => exact ⟨0, Nat.zero_le _, rfl, by simp, rfl⟩
      case round =>
        obtain ⟨q, hq, rfl, rfl, rfl⟩ := hrel
        by_cases hlq : q < l
        · have hdq : decide (q < l) = true := by simpa using hlq
          have hql : q < gp.inn.length := by rw [O1.out]; exact hlq
          have a1 := (HBV.out.cell (p := ⟨b1, q1 + q, none⟩) hb1).trans (HC1.out q (by rw [Sh.ints_len]; exact hql))
          rw [Sh.ints_get] at a1
          have hms := Stp.mem_snoc (k := k) hql
          obtain ⟨z, hz⟩ : ∃ z, z = gp.inn.getD q 0 := ⟨_, rfl⟩
          rw [← hz] at a1 hms
          obtain ⟨hv, hhv⟩ : ∃ b, b = decide (k ∈ gp.inn.take q) := ⟨_, rfl⟩
          rw [← hhv]
          have HV1 : Hid (decide (k ∈ gp.inn.take (q + 1)) = (hv || ((z : Int) == (k : Int)))) := Lib.hid (by
            rw [hhv, Bool.eq_iff_iff]
            simp [hms]
            constructor
            · rintro (h | h)
              · exact .inl h
              · exact .inr (by omega)
            · rintro (h | h)
              · exact .inl h
              · exact .inr (by omega))
          obtain ⟨t, ht⟩ : ∃ t, t = ((z : Int) == (k : Int)) := ⟨_, rfl⟩
          rw [← ht] at HV1
          have ht' := ht.symm
          clear hms hz hhv ht
          cases hv
          · go_wp2
            go_roundw
            case rel => exact ⟨q + 1, by omega, by go_num, by rw [HV1.out]; rfl, trivial⟩
            case measure => simp [intOf]; omega
          · go_wp2
            go_roundw
            case rel => exact ⟨q + 1, by omega, by go_num, by rw [HV1.out]; rfl, trivial⟩
            case measure => simp [intOf]; omega
        · obtain rfl : q = l := by omega
          have hdq : decide (q < q) = false := by simp
          have htk : gp.inn.take q = gp.inn := by rw [← O1.out]; exact List.take_length
          rw [htk]
          clear HC1 hlq hdj htk hq
          by_cases hk : k ∈ gp.inn
          · rw [decide_eq_true hk]
            go_wp2
            go_loopw [145] (fun i wi => ∃ (r : Nat) (ds : List Int), r ≤ q ∧ i = .int .i64 (r : Int) ∧ ds.length = m ∧ Hid (Stp.Met k (j * 5 + r) (gs.take j ++ [⟨gp.inn, [], gp.out.take r⟩]) ds) ∧ Hid (Owns .i64 3 wi g (.slice (some ⟨g, 0, none⟩) m m) ds) ∧ Hid (Below g w7 wi)) (fun i _ => q - (intOf i).toNat)
            case atStart => exact ⟨0, cs, Nat.zero_le _, rfl, hcl, Lib.hid (Stp.Met.first gp HMe.out), HOV, HBV⟩
            case round =>
              obtain ⟨r, ds, hr, rfl, hdl, HMd, HOd, HBd⟩ := hrel
              by_cases hlr : r < q
              · have hdr : decide (r < q) = true := by simpa using hlr
                have hrl : r < gp.out.length := by rw [← HLd.out]; exact hlr
                have a3 := (HBd.out.cell (p := ⟨b3, q3 + r, none⟩) hb3).trans (HC3.out r (by rw [Sh.ints_len]; exact hrl))
                rw [Sh.ints_get] at a3
                have him := O6.out _ (Stp.get_mem hrl)
                have HPut := Lib.hid (Stp.Met.put (i := gp.out.getD r 0) HMd.out hrl rfl (by rw [hdl]; exact him))
                obtain ⟨z, hz⟩ : ∃ z, z = gp.out.getD r 0 := ⟨_, rfl⟩
                rw [← hz] at a3 him HPut
                have cm := HOd.out.num hdl him
                have fz := HOd.out.melt hdl z
                have hbd := HMd.out.bd z
                have OP := Lib.hid (HOd.out.put hdl z (ds.getD z 0 + 1))
                have BP := Lib.hid (HBd.out.setCell (p := ⟨g, z, none⟩) (Nat.le_refl _) (.int .i64 (ds.getD z 0 + 1)))
                obtain ⟨v, hv⟩ : ∃ v, v = ds.getD z 0 := ⟨_, rfl⟩
                rw [← hv] at cm hbd HPut OP BP
                have dz : decide ((z : Int) < 0) = false := by simp
                have dm : decide (m ≤ z) = false := by simp; omega
                clear hv hz hrl
                go_wp2
                go_roundw
                case rel => exact ⟨r + 1, ds.set z (v + 1), by omega, by go_num, by rw [List.length_set]; exact hdl, HPut, OP, BP⟩
                case measure => simp [intOf]; omega
              · obtain rfl : r = q := by omega
                have hdr : decide (r < r) = false := by simp
                have HLast : Hid (Stp.Met k ((j + 1) * 5) (gs.take (j + 1)) ds) := Lib.hid (by
                  rw [HTk.out]
                  have := HMd.out
                  rw [HLd.out] at this
                  exact (Stp.Met.last this).more (by rw [← HLd.out]; omega))
                clear HMd
                go_wp2
                go_roundw
                case rel => exact ⟨j + 1, ds, by omega, by go_num, hdl, HLast, HOd, HBd⟩
                case measure => simp [intOf]; omega
          · rw [decide_eq_false hk]
            have HLast : Hid (Stp.Met k ((j + 1) * 5) (gs.take (j + 1)) cs) := Lib.hid (by
              rw [HTk.out]
              exact (Stp.Met.skip HMe.out hk).more (by omega))
            go_wp2
            obtain ⟨V2, rfl⟩ : ∃ W, W = wr := ⟨_, rfl⟩
            go_loopw [145] (fun i wi => ∃ r : Nat, r ≤ q ∧ i = .int .i64 (r : Int) ∧ wi = V2) (fun i _ => q - (intOf i).toNat)
            case atStart => exact ⟨0, Nat.zero_le _, rfl, rfl⟩
            case round =>
              obtain ⟨r, hr, rfl, rfl⟩ := hrel
              by_cases hlr : r < q
              · have hdr : decide (r < q) = true := by simpa using hlr
                have hrl : r < gp.out.length := by rw [← HLd.out]; exact hlr
                have a3 := (HBV.out.cell (p := ⟨b3, q3 + r, none⟩) hb3).trans (HC3.out r (by rw [Sh.ints_len]; exact hrl))
                rw [Sh.ints_get] at a3
                have him := O6.out _ (Stp.get_mem hrl)
                obtain ⟨z, hz⟩ : ∃ z, z = gp.out.getD r 0 := ⟨_, rfl⟩
                rw [← hz] at a3 him
                have dz : decide ((z : Int) < 0) = false := by simp
                have dm : decide (m ≤ z) = false := by simp; omega
                clear hz hrl
                go_wp2
                go_roundw
                case rel => exact ⟨r + 1, by omega, by go_num, trivial⟩
                case measure => simp [intOf]; omega
              · obtain rfl : r = q := by omega
                have hdr : decide (r < r) = false := by simp
                go_wp2
                go_roundw
                case rel => exact ⟨j + 1, cs, by omega, by go_num, hcl, HLast, HOV, HBV⟩
                case measure => simp [intOf]; omega
    · obtain rfl : j = gs.length := by omega
      have hdj : decide (gs.length < gs.length) = false := by simp
      rw [List.take_length] at HMe
      have YR := Lib.hid (Y7.out.below HBr.out)
      have ZR := Lib.hid (Z7.out.below HBr.out)
      have BR : Hid (Below w.heap.size w wr) := Lib.hid (by
        have := HBr.out
        rw [HG7.out] at this
        exact below_then B7.out this)
      have HNo := Lib.hid (fun q (hq : q < m) (h0 : cs.getD q 0 = 0) => HAp.out q hq (fun g' hg' hk' => HMe.out.no q (by omega) h0 g' hg' hk'))
      clear RG hj hlj Y7 Z7
      obtain ⟨W9, rfl⟩ : ∃ W, W = wr := ⟨_, rfl⟩
      go_wp2
      go_loopw [168] (fun i wi => ∃ q d : Nat, q ≤ m ∧ i = .int .i64 (q : Int) ∧ wi = W9.drewN d) (fun i _ => m - (intOf i).toNat)
      case atStart => exact ⟨0, 0, Nat.zero_le _, rfl, rfl⟩
      case round =>
        obtain ⟨q, d, hq, rfl, hwd⟩ := hrel
        have hcq : ∀ ad, W9.cell? ad = wr.cell? ad := fun ad => by rw [hwd]; rfl
        by_cases hlq : q < m
        · have hdq : decide (q < m) = true := by simpa using hlq
          obtain ⟨e1, p1, rfl, -, hc1⟩ := YR.out (by rw [HL1.out]; omega)
          obtain ⟨e2, p2, rfl, -, hc2⟩ := ZR.out (by rw [HL2.out]; omega)
          have a1 := hc1 q (by rw [HL1.out]; exact hlq)
          have a2 := hc2 q (by rw [HL2.out]; exact hlq)
          have cm := HO.out.num hcl hlq
          rw [hcq] at a1 a2 cm
          have hno := HNo.out q hlq
          have HQ := Lib.hid hwd
          obtain ⟨v, hv⟩ : ∃ v, v = cs.getD q 0 := ⟨_, rfl⟩
          obtain ⟨u1', hu1⟩ : ∃ v, v = ys.getD q 0 := ⟨_, rfl⟩
          obtain ⟨u2', hu2⟩ : ∃ v, v = zs.getD q 0 := ⟨_, rfl⟩
          rw [← hv] at cm hno
          rw [← hu1] at a1 hno
          rw [← hu2] at a2 hno
          clear hc1 hc2 hv hu1 hu2 hcq hwd
          by_cases h0 : v = 0
          · obtain rfl := hno h0
            subst h0
            have t1 : (u2' != u2') = false := by simp
            go_wp2
            go_quiet (fail)
            go_wp2
            go_roundw
            case rel => exact ⟨q + 1, _, by omega, by go_num, by rw [HQ.out, World.drewN_drewN]⟩
            case measure => simp [intOf]; omega
          · have t1 : (v == 0) = false := by simpa using h0
            clear hno h0
            go_wp2
            go_quiet (fail)
            go_wp2
            go_roundw
            case rel => exact ⟨q + 1, _, by omega, by go_num, by rw [HQ.out, World.drewN_drewN]⟩
            case measure => simp [intOf]; omega
        · obtain rfl : q = m := by omega
          have hdq : decide (q < q) = false := by simp
          have HF : Hid (Below w.heap.size w wr) := Lib.hid (by rw [hwd]; exact below_draws BR.out d)
          clear hwd hcq
          go_wp2
          go_ret
          exact ⟨rfl, HF.out⟩

set_option maxRecDepth 100000 in
set_option maxHeartbeats 4000000 in
theorem stepapart_any {G : World → Prop} (H : StepHas G) (HG : GrpHas G) (p : Int) (x : Option Addr) (n cap : Nat) (xa : List Ax) (inv : Bool) (s : Sp) (y : Option Addr) (m cap' : Nat) (xs : List Int) (A : Nat) (u : Int) (w : World) (hG : G w) (hx : ReadsA w w.heap.size x xa) (hn : xa.length = n) (hlb : n ≤ 8796093022208) (hs : SpIn s)
    (hy : Reads .u64 w w.heap.size y xs) (hsr : Src .u64 w y m cap' xs) (hm : xs.length = m) (hw : Words xs) (hml : m ≤ maxLen) (ha : A < 65536) (u0 : 0 ≤ u) (u1 : u < 18446744073709551616) :
    Calls Tryd.prog 9 #[.int .u64 p, .slice x n cap, .bool inv, spV s, .slice y m cap', .int .u16 (A : Int), .int .u64 u] w fun e w' => e = .returned (.bool true) ∧ Below w.heap.size w w' := by
  have HB := Lib.hid (below_al (Below.refl _ w) (.cells #[.int .i64 s.ax, .bool s.tw, .int .i64 s.st.r, .int .i64 s.st.l, .int .i64 s.st.m] 27))
  have HS := Lib.hid (SpAt.new w 27 s)
  have HV := Lib.hid (live16_any H _ (H.keep hG HB.out))
  obtain ⟨b, HFew⟩ := few_any x n cap xa 32 w hx hn hlb
  cases b
  · clear hx hy hG hw hm hn hml H HG hsr hs
    obtain ⟨sax, stw, sr, sl, sm⟩ := s
    unfold spV
    dsimp only at HB HS HV ⊢
    go_enter Tryd.func9, Tryd.ntmps9
    go_wp2_with (first
      | (go_at_call 12; refine HV.out.mono ?_; rintro e w1 ⟨rfl, b1⟩; have B1 := Lib.hid (below_then HB.out b1); have S1 := Lib.hid (HS.out.then b1); clear b1 HS)
      | (go_at_call 13; refine (HFew.out _ B1.out).mono ?_; rintro e w2 ⟨rfl, b2⟩; have B2 := Lib.hid (below_then B1.out b2); have S2 := Lib.hid (S1.out.then b2); obtain ⟨k0, k1, k2, k3, k4⟩ := S2.out; dsimp only at k0 k1 k2 k3 k4; clear b2 S1))
    go_ret
    exact ⟨rfl, B2.out⟩
  by_cases hl : 40 < m
  · have d1 : decide (40 < (m : Int)) = true := by simp; omega
    clear hx hy hG hw hm hn hml H HG hsr hs
    obtain ⟨sax, stw, sr, sl, sm⟩ := s
    unfold spV
    dsimp only at HB HS HV ⊢
    go_enter Tryd.func9, Tryd.ntmps9
    go_wp2_with (first
      | (go_at_call 12; refine HV.out.mono ?_; rintro e w1 ⟨rfl, b1⟩; have B1 := Lib.hid (below_then HB.out b1); have S1 := Lib.hid (HS.out.then b1); clear b1 HS)
      | (go_at_call 13; refine (HFew.out _ B1.out).mono ?_; rintro e w2 ⟨rfl, b2⟩; have B2 := Lib.hid (below_then B1.out b2); have S2 := Lib.hid (S1.out.then b2); obtain ⟨k0, k1, k2, k3, k4⟩ := S2.out; dsimp only at k0 k1 k2 k3 k4; clear b2 S1))
    go_ret
    exact ⟨rfl, B2.out⟩
  have d1 : decide (40 < (m : Int)) = false := by simp; omega
  by_cases hm0 : m = 0
  · have d2 : ((m : Int) == 0) = true := by simp; omega
    clear hx hy hG hw hm hn hml H HG hsr hs hm0
    obtain ⟨sax, stw, sr, sl, sm⟩ := s
    unfold spV
    dsimp only at HB HS HV ⊢
    go_enter Tryd.func9, Tryd.ntmps9
    go_wp2_with (first
      | (go_at_call 12; refine HV.out.mono ?_; rintro e w1 ⟨rfl, b1⟩; have B1 := Lib.hid (below_then HB.out b1); have S1 := Lib.hid (HS.out.then b1); clear b1 HS)
      | (go_at_call 13; refine (HFew.out _ B1.out).mono ?_; rintro e w2 ⟨rfl, b2⟩; have B2 := Lib.hid (below_then B1.out b2); have S2 := Lib.hid (S1.out.then b2); obtain ⟨k0, k1, k2, k3, k4⟩ := S2.out; dsimp only at k0 k1 k2 k3 k4; clear b2 S1))
    go_ret
    exact ⟨rfl, B2.out⟩
  have d2 : ((m : Int) == 0) = false := by simp; omega
  have hmz : (m : Int) ≠ 0 := by omega
  obtain ⟨k, hkd⟩ : ∃ k : Nat, k = A % m := ⟨_, rfl⟩
  have hka : (A : Int) % (m : Int) = (k : Int) := by rw [hkd, ← cast_mod]
  have HD := Lib.hid (fun W (hB : Below w.heap.size w W) => H.doo p x n cap xa inv s y m cap' xs W (H.keep hG hB) ((hx.below hB).more hB.size) hn hlb hs ((hy.below hB).more hB.size) hm hw hml)
  by_cases hE : Stp.wE p xa s xs = 0
  · have hok := Stp.wE_zero hE
    by_cases hup : u < p
    · exact stepapart_yes H HG p x n cap xa inv s y m cap' xs A u w hG hx hn hlb hs hy hsr hm hw hml (by omega) hok ha u0 u1 hup HFew
    have hin : Fp.isIn p (fun j => [u].getD j 0) 1 = false := Fp.isIn_at (k := 0) hup 1 (by omega)
    have HIn : Hid (∀ W : World, ∀ g, W.cell? ⟨g, 0, none⟩ = some (.int .u64 u) → ∀ c, Calls Tryd.prog 29 #[.int .u64 p, .slice (some ⟨g, 0, none⟩) 1 c] W fun e w' => e = .returned (.bool false) ∧ W = w') := Lib.hid (fun W g hc c => by
      rw [← hin]
      exact in_row p g 0 1 c _ W (by omega) (fun j hj => by
        obtain rfl : j = 0 := by omega
        exact hc))
    rw [hok.zero, hok.wL] at HD
    generalize Stp.stp p xa inv s xs = ys at HD
    clear hx hy hG hw hm hn hml H HG hsr hs hE hok hin hm0 hkd
    obtain ⟨sax, stw, sr, sl, sm⟩ := s
    unfold spV at HD ⊢
    dsimp only at HB HS HV HD ⊢
    go_enter Tryd.func9, Tryd.ntmps9
    go_wp2_with (first
      | (go_at_call 12; refine HV.out.mono ?_; rintro e w1 ⟨rfl, b1⟩; have B1 := Lib.hid (below_then HB.out b1); have S1 := Lib.hid (HS.out.then b1); clear b1 HS)
      | (go_at_call 13; refine (HFew.out _ B1.out).mono ?_; rintro e w2 ⟨rfl, b2⟩; have B2 := Lib.hid (below_then B1.out b2); have S2 := Lib.hid (S1.out.then b2); obtain ⟨k0, k1, k2, k3, k4⟩ := S2.out; dsimp only at k0 k1 k2 k3 k4; clear b2 S1)
      | (go_at_call 14; refine (HD.out _ B2.out).mono ?_; rintro e w3 ⟨v, rfl, hO, b3⟩; obtain ⟨y1, c1, rfl, -, -, -, -⟩ := hO.form; have B3 := Lib.hid (below_then B2.out b3); clear b3 hO k0 k1 k2 k3 k4)
      | (go_at_call 29; refine (HIn.out _ _ (by simp) _).mono ?_; rintro e w' ⟨rfl, rfl⟩))
    go_ret
    exact ⟨rfl, below_al B3.out _⟩
  · rw [Stp.wL_no hE] at HD
    have t := ne_of_bne hE
    have t2 : (Stp.wE p xa s xs == 0) = false := by simpa using hE
    generalize Stp.wE p xa s xs = er at HD t t2
    clear hx hy hG hw hm hn hml H HG hsr hs hE hm0 hkd
    obtain ⟨sax, stw, sr, sl, sm⟩ := s
    unfold spV at HD ⊢
    dsimp only at HB HS HV HD ⊢
    go_enter Tryd.func9, Tryd.ntmps9
    go_wp2_with (first
      | (go_at_call 12; refine HV.out.mono ?_; rintro e w1 ⟨rfl, b1⟩; have B1 := Lib.hid (below_then HB.out b1); have S1 := Lib.hid (HS.out.then b1); clear b1 HS)
      | (go_at_call 13; refine (HFew.out _ B1.out).mono ?_; rintro e w2 ⟨rfl, b2⟩; have B2 := Lib.hid (below_then B1.out b2); have S2 := Lib.hid (S1.out.then b2); obtain ⟨k0, k1, k2, k3, k4⟩ := S2.out; dsimp only at k0 k1 k2 k3 k4; clear b2 S1)
      | (go_at_call 14; refine (HD.out _ B2.out).mono ?_; rintro e w3 ⟨v, rfl, hO, b3⟩; obtain ⟨y1, c1, rfl, -, -, -, -⟩ := hO.form; have B3 := Lib.hid (below_then B2.out b3); simp only [List.length_nil]; clear b3 hO k0 k1 k2 k3 k4))
    go_ret
    exact ⟨rfl, B3.out⟩

theorem stepapart_walk {G : World → Prop} (H : StepHas G) (HG : GrpHas G) (p : Int) (x : Option Addr) (len cap : Nat) (xa : List Ax) (inv : Bool) (s : Sp) (y : Option Addr) (m cap' : Nat) (zs : List Int) (a u : Int) (w : World) (_hp : (Lit.int .u64 p).wf = true) (hA : AxisIn w x len cap xa) (hlb : len ≤ 8796093022208) (hs : SpIn s) (hr : RowIn .u64 w y m cap' zs) (ha : (Lit.int .u16 a).wf = true) (hu : (Lit.int .u64 u).wf = true) (hG : G w) :
    Calls Tryd.prog 9 #[.int .u64 p, .slice x len cap, .bool inv, spV s, .slice y m cap', .int .u16 a, .int .u64 u] w fun e w' => e = .returned (.bool true) ∧ Below w.heap.size w w' := by
  obtain ⟨hn, hc1, hc2, hx, -⟩ := hA
  obtain ⟨xs, e, hm, hcp, hml, hy, hw⟩ := hr.reads
  have hsr := hr.src
  rw [← e] at hsr
  have hub := bounds_u64 hu
  have hab := bounds_u16 ha
  obtain ⟨A, rfl⟩ := Int.eq_ofNat_of_zero_le (show 0 ≤ a by omega)
  exact stepapart_any H HG p x len cap xa inv s y m cap' xs A u w hG hx hn hlb hs hy hsr hm hw (Nat.le_trans hcp hml) (by omega) (by omega) (by omega)

end Go.Proofs.YtphghklhknadoaaDoor
