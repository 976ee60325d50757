/-
  The walk of VoteBack: of what was put, whatever becomes of one word of each three, the same words are told, and the fixes are just of those that became another one.
-/
import Derived.Test.YtnonoemhefjliaaVoteOpen
import Derived.Test.YtnonoemhefjliaaMathVoteBack
namespace Go.Proofs.Ytnonoemhefjliaa
open Go.RowKit

set_option maxRecDepth 100000 in
set_option maxHeartbeats 8000000 in
theorem back_ok (x1 : Option Addr) (n cap1 : Nat) (L : List Int) (x2 : Option Addr) (nw cap2 : Nat) (Wh : List Int) (x3 : Option Addr) (no cap3 : Nat) (O : List Int) (w : World) (hx1 : Reads .u64 w w.heap.size x1 L) (hx2 : Reads .u8 w w.heap.size x2 Wh) (hx3 : Reads .u64 w w.heap.size x3 O)
    (hn : L.length = n) (hnw : Wh.length = nw) (hno : O.length = no) (hby : ∀ j, 0 ≤ Wh.getD j 0 ∧ Wh.getD j 0 < 256) (h1 : n ≤ 40) (h2 : n ≤ nw) (h3 : n ≤ no) :
    Calls Try.prog 4 #[.slice x1 n cap1, .slice x2 nw cap2, .slice x3 no cap3] w fun e w' => e = .returned (.bool true) ∧ Below w.heap.size w w' := by
  have HV := Lib.hid (live13_any w)
  have d1 : decide ((40 : Int) < (n : Int)) = false := by simp; omega
  have d2 : decide (nw < n) = false := by simp; omega
  have d3 : decide (no < n) = false := by simp; omega
  obtain ⟨R, hR⟩ : ∃ R : Nat → Nat, R = fun k => (Wh.getD k 0 % 3).toNat := ⟨_, rfl⟩
  have hR3 : ∀ k, R k < 3 := fun k => by rw [hR]; have := hby k; dsimp only; omega
  have HR : Hid (∀ k, Wh.getD k 0 % 3 = ((R k : Nat) : Int) ∧ R k < 3) := Lib.hid (fun k => ⟨by rw [hR]; have := hby k; dsimp only; omega, hR3 k⟩)
  have HBY := Lib.hid hby
  obtain ⟨n3, hn3⟩ : ∃ n3, n3 = 3 * n := ⟨_, rfl⟩
  have hz3 : (3 : Int) * (n : Int) = (n3 : Int) := by omega
  have hn3b : n3 ≤ 120 := by omega
  have P1 := Lib.hid (fun W (hB : Below w.heap.size w W) => put_any x1 n cap1 L W (hx1.later hB) hn)
  unfold ptL ptE at P1
  rw [if_neg (by omega), if_neg (by omega)] at P1
  obtain ⟨c0, cW, cF⟩ := cl_struck (L := L) (O := O) hR3 (by omega)
  rw [hn] at c0 cW cF
  have hC : (bk L O R n).length = n3 := by rw [bk_len]; omega
  have P2 := Lib.hid (fun W x c (hr : Reads .u64 W W.heap.size x (bk L O R n)) hc hm => cells_any x n3 c (bk L O R n) W hr hC hc hm)
  rw [c0, cW, cF] at P2
  have S1 := Lib.hid (fun W x y c c' (hx : Reads .u64 W W.heap.size x L) (hy : Reads .u64 W W.heap.size y L) => sameW_any x y n n c c' L L W W.heap.size hx hy hn hn (by omega) (by omega))
  rw [decide_eq_true rfl] at S1
  have hwl := wk_len (L := L) (O := O) (R := R) n
  have S2 := Lib.hid (fun W x y c c' (hx : ReadsF W W.heap.size x (wk L O R n)) (hy : ReadsF W W.heap.size y (wk L O R n)) => sameF_any x y (wk L O R n).length (wk L O R n).length c c' (wk L O R n) (wk L O R n) W W.heap.size hx hy rfl rfl (by omega) (by omega))
  rw [decide_eq_true rfl] at S2
  have H0 : Hid (bk L O R 0 = thrice L) := Lib.hid rfl
  have HT : Hid ((thrice L).length = n3) := Lib.hid (by rw [thrice_len]; omega)
  have HX1 := Lib.hid hx1
  have HX2 := Lib.hid hx2
  have HX3 := Lib.hid hx3
  have HN := Lib.hid hn
  have HNW := Lib.hid hnw
  have HNO := Lib.hid hno
  have HN3 := Lib.hid hn3
  have HBL : Hid (∀ k, (bk L O R k).length = n3) := Lib.hid (fun k => by rw [bk_len]; omega)
  clear hx1 hx2 hx3 hn hnw hno hby hR hR3 hn3 c0 cW cF hC hwl
  go_enter Try.func4, Try.ntmps4
  go_wp2_with (first
    | (go_at_call 9; refine HV.out.mono ?_; rintro e w1 ⟨rfl, hb1⟩; have B1 := Lib.hid hb1; clear hb1 HV)
    | (go_at_call 10; refine (P1.out w1 B1.out).mono ?_; rintro e w2 hr; obtain ⟨xc, cc, rfl, hO, hq1, hq2, hB⟩ := hr.open HT.out; have T2 := Lib.hid hB; have O2 := Lib.hid hO; have HQ := Lib.hid (And.intro hq1 hq2); clear hr hB hO P1 hq1 hq2))
  go_loopw [9, 52] (fun v i wr => ∃ (k : Nat) (o : Value), k ≤ n ∧ i = .int .i64 (k : Int) ∧ o = v ∧ Hid (Owns .u64 27 wr w1.heap.size (.slice xc n3 cc) (bk L O R k) ∧ OwnsF wr w2.heap.size o (wk L O R k) ∧ Below w1.heap.size w1 wr ∧ w2.heap.size ≤ wr.heap.size)) (fun _ i _ => n - (intOf i).toNat)
  case atStart => exact ⟨0, _, Nat.zero_le _, rfl, rfl, Lib.hid ⟨O2.out, OwnsF.nil, T2.out, Nat.le_refl _⟩⟩
  case round =>
    obtain ⟨k, o, hk, rfl, rfl, HI⟩ := hrel
    by_cases hlt : k < n
    · have BR := below_on' B1.out HI.out.2.2.1
      obtain ⟨b1, o1, rfl, hb1, hc1⟩ := (HX1.out.below BR) (by have := HN.out; omega)
      obtain ⟨b2, o2, rfl, hb2, hc2⟩ := (HX2.out.below BR) (by have := HNW.out; omega)
      obtain ⟨b3, o3, rfl, hb3, hc3⟩ := (HX3.out.below BR) (by have := HNO.out; omega)
      have c1 := hc1 k (by have := HN.out; omega)
      have c2 := hc2 k (by have := HNW.out; omega)
      have c3 := hc3 k (by have := HNO.out; omega)
      obtain ⟨z0, z1⟩ := HBY.out k
      obtain ⟨zr, zr3⟩ := HR.out k
      have HBK : Hid (bk L O R (k + 1) = (bk L O R k).set (3 * k + R k) (O.getD k 0)) := Lib.hid (bk_succ k)
      have HWK := Lib.hid (wk_succ (L := L) (O := O) (R := R) k)
      have HWL : Hid ((wk L O R k).length ≤ 40) := Lib.hid (by have := wk_len (L := L) (O := O) (R := R) k; omega)
      have HML := Lib.hid (HBL.out k)
      obtain ⟨x', c', e', -, -, -, hf⟩ := HI.out.1.form
      have hlen := HBL.out k
      rw [hlen] at e'
      simp only [Value.slice.injEq] at e'
      obtain ⟨rfl, -, rfl⟩ := e'
      obtain ⟨gc, rfl, hg1, hg2⟩ := hf (by have := HN3.out; omega)
      obtain ⟨-, hg3⟩ := O2.out.inside (g := gc) rfl
      obtain ⟨x, hx⟩ : ∃ x, x = L.getD k 0 := ⟨_, rfl⟩
      obtain ⟨y, hy⟩ : ∃ y, y = O.getD k 0 := ⟨_, rfl⟩
      obtain ⟨z, hz⟩ : ∃ z, z = Wh.getD k 0 := ⟨_, rfl⟩
      obtain ⟨r, hr⟩ : ∃ r, r = R k := ⟨_, rfl⟩
      rw [← hx] at c1 HWK
      rw [← hy] at c3 HWK HBK
      rw [← hz] at c2 z0 z1 zr
      rw [← hr] at zr zr3 HWK HBK
      obtain ⟨s, hs⟩ : ∃ s, s = 3 * k := ⟨_, rfl⟩
      obtain ⟨a, ha⟩ : ∃ a, a = s + r := ⟨_, rfl⟩
      rw [← hs, ← ha] at HWK HBK
      have hsz : (3 : Int) * (k : Int) = (s : Int) := by omega
      have haz : (s : Int) + (r : Int) = (a : Int) := by omega
      have han : a < n3 := by have := HN3.out; omega
      have han' : (a : Int) < (n3 : Int) := by omega
      have hsb : s ≤ 120 := by have := HN3.out; omega
      have hfa := HI.out.1.melt hlen a
      have hcell := HI.out.1.num hlen (j := a) han
      have hb3' : b3 < w1.heap.size := by have := B1.out.size; omega
      have hne3 : ¬ b3 = gc := by omega
      have hne3' : ¬ gc = b3 := by omega
      have HG := Lib.hid (And.intro hg1 (And.intro hg2 hg3))
      clear hc1 hc2 hc3 hx hy hz hr hs ha hf hlen hg1 hg2 hg3 hb1 hb2 BR
      have HO3 : Hid (Owns .u64 27 (wr.setCell ⟨gc, a, none⟩ (.int .u64 y)) w1.heap.size (.slice (some ⟨gc, 0, none⟩) n3 cc) (bk L O R (k + 1)) ∧ OwnsF (wr.setCell ⟨gc, a, none⟩ (.int .u64 y)) w2.heap.size o (wk L O R k) ∧ Below w1.heap.size w1 (wr.setCell ⟨gc, a, none⟩ (.int .u64 y)) ∧ w2.heap.size ≤ (wr.setCell ⟨gc, a, none⟩ (.int .u64 y)).heap.size) := Lib.hid
        ⟨by rw [HBK.out]; exact HI.out.1.put HML.out a y, HI.out.2.1.still fun g e => Below.heap_setCell _ _ _ _ (by have := (HI.out.2.1.inside e).1; have := HG.out.2.2; dsimp only; omega), HI.out.2.2.1.setCell (p := ⟨gc, a, none⟩) HG.out.1 _, by simpa [World.setCell] using HI.out.2.2.2⟩
      have hc3' : (wr.setCell ⟨gc, a, none⟩ (.int .u64 y)).cell? ⟨b3, o3 + k, none⟩ = some (.int .u64 y) := by
        rw [World.cell?_of_block (w := wr) (Below.heap_setCell _ _ _ _ (by exact hne3))]
        exact c3
      by_cases hxy : y = x
      · have t1 : (y != x) = false := by rw [hxy]; simp
        rw [if_pos hxy] at HWK
        clear hxy
        go_wp2
        go_roundw
        case rel => exact ⟨k + 1, o, by omega, by go_num, rfl, Lib.hid (by have := HO3.out; rw [HWK.out]; exact this)⟩
        case measure => simp [intOf]; omega
      · have t1 : (y != x) = true := by rw [bne_iff_ne]; exact hxy
        rw [if_neg hxy] at HWK
        clear hxy
        have HSZ : Hid ((wr.setCell ⟨gc, a, none⟩ (.int .u64 y)).heap.size = wr.heap.size) := Lib.hid (by simp [World.setCell])
        have HCN := Lib.hid (cell_fx_new (wr.setCell ⟨gc, a, none⟩ (.int .u64 y)) ⟨(a : Int), y, x⟩)
        rw [HSZ.out] at HCN
        have HWS : Hid (w2.heap.size ≤ wr.heap.size) := Lib.hid HI.out.2.2.2
        clear HI
        go_wp2_with (at_builtin; refine wpList_append_fx rfl _ _ rfl w2.heap.size o _ rfl (HO3.out.2.1.alloc _) ⟨wr.heap.size, 0, none⟩ 1 ⟨(a : Int), y, x⟩ rfl HCN.out (by have := HWL.out; omega) (by have := HWS.out; have := HSZ.out; simp; omega) ?_; intro v5 w5 hO5 hg5 hat5)
        have H5 : Hid (Owns .u64 27 w5 w1.heap.size (.slice (some ⟨gc, 0, none⟩) n3 cc) (bk L O R (k + 1)) ∧ OwnsF w5 w2.heap.size v5 (wk L O R (k + 1)) ∧ Below w1.heap.size w1 w5 ∧ w2.heap.size ≤ w5.heap.size) := Lib.hid (by
          have hsz := HSZ.out
          have hws := HWS.out
          have hgc := HG.out
          have hin := fun g (e : o.ownBlock = some g) => (HO3.out.2.1.inside e).1
          refine ⟨(HO3.out.1.alloc (fxO ⟨(a : Int), y, x⟩)).still fun g e => ?_, by rw [HWK.out]; exact hO5, (below_al HO3.out.2.2.1 (fxO ⟨(a : Int), y, x⟩)).grown hg5 ?_ (fun g e => ?_), ?_⟩
          · have eg : gc = g := by simpa [Value.ownBlock] using e
            subst eg
            exact hg5.block gc (by simp; omega) (fun c => by have := hin gc c.symm; omega)
          · have := (below_al HO3.out.2.2.1 (fxO ⟨(a : Int), y, x⟩)).size; exact this
          · have := hin g e; have := T2.out.size; omega
          · have := hg5.size; simp at this; omega)
        clear hO5 hg5 hat5
        go_roundw
        case rel => exact ⟨k + 1, v5, by omega, by go_num, rfl, H5⟩
        case measure => simp [intOf]; omega
    · obtain rfl : k = n := by omega
      obtain ⟨y2, d2', rfl, -, -, hRF⟩ := HI.out.2.1.form
      have OC := Lib.hid HI.out.1.rd
      have RF := Lib.hid hRF
      have BR := Lib.hid (below_on' B1.out HI.out.2.2.1)
      have S2' := Lib.hid S2.out
      generalize (wk L O R k) = fs at P2 RF S2' hRF HI
      clear hRF HI HBL S2
      go_wp2_with (first
        | (go_at_call 14; refine (P2.out wr xc cc OC.out HQ.out.1 HQ.out.2).mono ?_; rintro e w6 hr; obtain ⟨x6, c6, y6, d6, rfl, hO, -, -, hR6, hB⟩ := hr.open HN.out rfl; have T6 := Lib.hid hB; have O6 := Lib.hid hO.rd; have R6 := Lib.hid hR6; clear hr hB hO P2 hR6)
        | (go_at_call 16; refine (S1.out w6 x6 x1 c6 cap1 O6.out (HX1.out.later (below_on' BR.out T6.out))).mono ?_; rintro e w8 ⟨rfl, nd, rfl⟩; clear S1)
        | (go_at_call 18; refine (S2'.out (w6.drewN nd) y6 y2 d6 d2' (R6.out.draws nd) ((RF.out.since T6.out).draws nd)).mono ?_; rintro e w9 ⟨rfl, nd2, rfl⟩))
      go_ret
      exact ⟨rfl, below_draws (below_on' BR.out T6.out) _⟩

set_option maxRecDepth 100000 in
set_option maxHeartbeats 2000000 in
theorem walk_VoteBack (x1 : Option Addr) (n cap1 : Nat) (zs1 : List Int) (x2 : Option Addr) (nw cap2 : Nat) (zs2 : List Int) (x3 : Option Addr) (no cap3 : Nat) (zs3 : List Int) (w : World) (r1 : RowIn .u64 w x1 n cap1 zs1) (r2 : RowIn .u8 w x2 nw cap2 zs2) (r3 : RowIn .u64 w x3 no cap3 zs3) :
    Calls Try.prog 4 #[.slice x1 n cap1, .slice x2 nw cap2, .slice x3 no cap3] w fun e w' => e = .returned (.bool true) ∧ Below w.heap.size w w' := by
  obtain ⟨L, -, l1, -, -, a1, -⟩ := r1.reads
  obtain ⟨Wh, l2, a2, b2⟩ := r2.readsB
  obtain ⟨O, -, l3, -, -, a3, -⟩ := r3.reads
  have HV := Lib.hid (live13_any w)
  by_cases h1 : n ≤ 40
  · by_cases h2 : n ≤ nw
    · by_cases h3 : n ≤ no
      · exact back_ok x1 n cap1 L x2 nw cap2 Wh x3 no cap3 O w a1 a2 a3 l1 l2 l3 b2 h1 h2 h3
      · have d1 : decide ((40 : Int) < (n : Int)) = false := by simp; omega
        have d2 : decide (nw < n) = false := by simp; omega
        have d3 : decide (no < n) = true := by simp; omega
        clear r1 r2 r3 l1 l2 l3 a1 a2 a3 b2
        go_enter Try.func4, Try.ntmps4
        go_wp2_with (go_at_call 9; refine HV.out.mono ?_; rintro e w1 ⟨rfl, hb1⟩)
        go_ret
        exact ⟨rfl, hb1⟩
    · have d1 : decide ((40 : Int) < (n : Int)) = false := by simp; omega
      have d2 : decide (nw < n) = true := by simp; omega
      clear r1 r2 r3 l1 l2 l3 a1 a2 a3 b2
      go_enter Try.func4, Try.ntmps4
      go_wp2_with (go_at_call 9; refine HV.out.mono ?_; rintro e w1 ⟨rfl, hb1⟩)
      go_ret
      exact ⟨rfl, hb1⟩
  · have d1 : decide ((40 : Int) < (n : Int)) = true := by simp; omega
    clear r1 r2 r3 l1 l2 l3 a1 a2 a3 b2
    go_enter Try.func4, Try.ntmps4
    go_wp2_with (go_at_call 9; refine HV.out.mono ?_; rintro e w1 ⟨rfl, hb1⟩)
    go_ret
    exact ⟨rfl, hb1⟩

end Go.Proofs.Ytnonoemhefjliaa
