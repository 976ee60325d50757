/-
  What grid.transformed and through come to: the words of which each line of one axis is transformed.
-/
import Derived.Test.YtjmgieepgdjomaaDoorGridWords
import Derived.Test.YtjmgieepgdjomaaDoorLines6
namespace Go.Proofs.YtjmgieepgdjomaaDoor
open Go.RowKit Go.Shelf

/-- It returns a list of words, in memory of its own. -/
def RetU (w : World) (xs : List Int) (e : Ending) (w' : World) : Prop := ∃ v, e = .returned v ∧ Owns .u64 22 w' w.heap.size v xs ∧ Below w.heap.size w w'

theorem transformed_any (p : Int) (x : Option Addr) (n cap : Nat) (xs : List Int) (neg inv : Bool) (w : World) (hG : Gl w) (hx : Reads .u64 w w.heap.size x xs) (hn : xs.length = n) (hw : Words xs) (hl : n ≤ maxLen) :
    Calls Tryd.prog 46 #[.int .u64 p, .slice x n cap, .bool neg, .bool inv] w (RetU w (tr p neg inv xs)) := by
  cases inv
  · have e : tr p neg false xs = fwd p xs neg := by simp [tr]
    rw [e]
    have HF := Lib.hid (forward_any p x n cap xs neg w hG hx hn hw hl)
    clear e hG hx hw hl hn
    go_enter Tryd.func46, Tryd.ntmps46
    go_wp2_with (go_at_call 20; refine HF.out.mono ?_; rintro e w1 ⟨v, rfl, hO, b1⟩)
    go_ret
    exact ⟨_, rfl, hO, b1⟩
  · have e : tr p neg true xs = bwd p xs neg := by simp [tr]
    rw [e]
    have HF := Lib.hid (inverse_any p x n cap xs neg w hG hx hn hw hl)
    clear e hG hx hw hl hn
    go_enter Tryd.func46, Tryd.ntmps46
    go_wp2_with (go_at_call 21; refine HF.out.mono ?_; rintro e w1 ⟨v, rfl, hO, b1⟩)
    go_ret
    exact ⟨_, rfl, hO, b1⟩

/-- What has been written when k lines are done, and of the next one j words. -/
def yf (I L k j : Nat) (f : Nat → Int) (i : Nat) : Int := if Sh.lnum I L i < k ∨ (Sh.lnum I L i = k ∧ i / I % L < j) then f i else 0
section
variable {I L k j : Nat} {f : Nat → Int}
theorem yf_zero (i : Nat) : yf I L 0 0 f i = 0 := by unfold yf; rw [if_neg (by omega)]
theorem yf_turn (hL : 1 ≤ L) (i : Nat) : yf I L k L f i = yf I L (k + 1) 0 f i := by
  have := Nat.mod_lt (i / I) hL
  unfold yf
  by_cases h : Sh.lnum I L i < k + 1
  · rw [if_pos (by omega), if_pos (by omega)]
  · rw [if_neg (by omega), if_neg (by omega)]
theorem yf_here (hI : 1 ≤ I) (hj : j < L) : yf I L k (j + 1) f (Sh.first I L k + j * I) = f (Sh.first I L k + j * I) := by
  unfold yf
  rw [Sh.at_line hI hj, Sh.at_coord hI hj, if_pos (by omega)]
theorem yf_else (hI : 1 ≤ I) {i : Nat} (hne : i ≠ Sh.first I L k + j * I) : yf I L k (j + 1) f i = yf I L k j f i := by
  unfold yf
  by_cases h : Sh.lnum I L i = k ∧ i / I % L = j
  · have := Sh.back (L := L) hI i
    rw [h.1, h.2] at this
    exact absurd this.symm hne
  · by_cases h1 : Sh.lnum I L i < k ∨ (Sh.lnum I L i = k ∧ i / I % L < j)
    · rw [if_pos h1, if_pos (by omega)]
    · rw [if_neg h1, if_neg (by omega)]
end

section
variable {k : IntKind} {e : TypeId} {wr : World} {base g n : Nat} {f : Nat → Int}
theorem Owns.else {cap : Nat} {xs : List Int} (h : Owns k e wr base (.slice (some ⟨g, 0, none⟩) n cap) xs) (hn : xs.length = n) {ad : Addr} (hne : g ≠ ad.block) (v : Value) : Owns k e (wr.setCell ad v) base (.slice (some ⟨g, 0, none⟩) n cap) xs := by
  subst hn
  exact owned_set h v hne
theorem RowAt.else (h : RowAt k e wr base g n f) {ad : Addr} (hne : g ≠ ad.block) (v : Value) : RowAt k e (wr.setCell ad v) base g n f := Owns.else h (by simp) hne v
theorem RowAt.below {w' : World} (h : RowAt k e wr base g n f) (hb : Below wr.heap.size wr w') : RowAt k e w' base g n f := Owns.below h hb
theorem RowAt.reads (h : RowAt k e wr base g n f) : Reads k wr wr.heap.size (some ⟨g, 0, none⟩) ((List.range n).map f) := Owns.reads h
theorem Half.row {f0 : Nat → Int} (h : Half k e wr base g n f f0 n) : RowAt k e wr base g n f := h.all
end
theorem RetU.open {xs : List Int} {n : Nat} {w w' : World} {e : Ending} (h : RetU w xs e w') (hn : xs.length = n) (h0 : 0 < n) :
    ∃ g cap, e = .returned (.slice (some ⟨g, 0, none⟩) n cap) ∧ w.heap.size ≤ g ∧ g < w'.heap.size ∧ n ≤ cap ∧ cap ≤ maxLen ∧ Owns .u64 22 w' w.heap.size (.slice (some ⟨g, 0, none⟩) n cap) xs ∧ Below w.heap.size w w' := by
  subst hn
  obtain ⟨v, rfl, hO, hB⟩ := h
  obtain ⟨x, cap, rfl, h1, h2, h3, h4⟩ := hO.form
  obtain ⟨g, rfl, h5, h6⟩ := h4 h0
  exact ⟨g, cap, rfl, h5, h6, h1, h2, hO, hB⟩
theorem lineOf_get (xa : List Ax) (a k : Nat) {j : Nat} (hj : j < gL xa a) : (lineOf (szs xa) a k).getD j 0 = ((Sh.first (gI xa a) (gL xa a) k + j * gI xa a : Nat) : Int) := getD_range _ hj

/-- The box of an axis. -/
theorem box_cells {w1 W : World} {L : Int} {neg : Bool} {t : TypeId} (h : Below (w1.heap.size + 1) (w1.alloc (.cells #[.int .i64 L, .bool neg] t)) W) : W.cell? ⟨w1.heap.size, 0, none⟩ = some (.int .i64 L) ∧ W.cell? ⟨w1.heap.size, 1, none⟩ = some (.bool neg) :=
  ⟨(h.cell (p := ⟨w1.heap.size, 0, none⟩) (Nat.lt_succ_self _)).trans (by simp), (h.cell (p := ⟨w1.heap.size, 1, none⟩) (Nat.lt_succ_self _)).trans (by simp)⟩

set_option maxRecDepth 100000 in
set_option maxHeartbeats 4000000 in
theorem through_any (p : Int) (x : Option Addr) (n cap : Nat) (xa : List Ax) (a : Nat) (inv : Bool) (y : Option Addr) (m cap' : Nat) (xs : List Int) (w : World) (hG : Gl w) (hx : ReadsA w w.heap.size x xa) (hn : xa.length = n) (ha : a < n) (hy : Reads .u64 w w.heap.size y xs) (hm : xs.length = m) (hw : Words xs) (h : Grid p xa xs) :
    Calls Tryd.prog 24 #[.int .u64 p, .slice x n cap, .int .i64 (a : Int), .bool inv, .slice y m cap'] w (RetU w (thr p xa a inv xs)) := by
  subst hn
  have h4 : xa.length ≤ 4 := by have := h.ax.ok.four; rwa [szs_len] at this
  have HD := Lib.hid (dims_any x xa.length cap xa w hx rfl (by omega))
  have l1 := h.ax.L ha
  have l2 := h.ax.L_le ha
  have i1 := h.ax.I a
  obtain ⟨m1, m2⟩ := h.le
  have hP : m = Sh.prod (szs xa) := by rw [← h.len, hm]
  have hlen := h.len
  have HE : Hid ((List.range m).map (thrN p xa a inv xs) = thr p xa a inv xs) := Lib.hid (by unfold thr; rw [hm])
  have HAt := Lib.hid (fun (k j : Nat) (hk : k < Sh.prod (szs xa) / gL xa a) (hj : j < gL xa a) => h.ax.at_lt ha hk hj)
  have HLK := Lib.hid (fun (i : Nat) (hi : i < Sh.prod (szs xa)) => h.ax.line_lt ha hi)
  have HW := Lib.hid (fun (k : Nat) => words_lnOf hw xa a k)
  have HLi := Lib.hid (fun (k : Nat) (hk : k < Sh.prod (szs xa) / gL xa a) (y' : Option Addr) (c : Nat) (hc : xa.length ≤ c) (W : World) (B : Nat) (hr : Reads .i64 W B y' (dims xa)) =>
    line_ok (szs xa) h.ax.ok a k (by rw [szs_len]; exact ha) hk y' xa.length c W B (by rw [← h.ax.is]; exact hr) (szs_len xa) hc)
  have HGt := Lib.hid (fun (k j : Nat) (hj : j < gL xa a) => lineOf_get xa a k hj)
  have HLl : Hid (∀ k, (lineOf (szs xa) a k).length = gL xa a) := Lib.hid (fun (k : Nat) => lineOf_len (szs xa) a k)
  have hLint := h.ax.int ha
  have HTn : Hid (∀ k, k < Sh.prod (szs xa) / gL xa a → ∀ j, j < gL xa a → (tr p (gN xa a) inv (lnOf xa a xs k)).getD j 0 = thrN p xa a inv xs (Sh.first (gI xa a) (gL xa a) k + j * gI xa a)) := Lib.hid (fun k hk j hj => by
    rw [(h.line ha hk).tr inv, getD_range _ (by rw [lnOf_len]; exact hj)]
    unfold thrN
    rw [Sh.at_line i1 hj, Sh.at_coord i1 hj])
  have HTl : Hid (∀ k, k < Sh.prod (szs xa) / gL xa a → (tr p (gN xa a) inv (lnOf xa a xs k)).length = gL xa a) := Lib.hid (fun k hk => by rw [(h.line ha hk).trLen, lnOf_len])
  obtain ⟨b, off, rfl, hb, hc⟩ := hx (by omega)
  obtain ⟨c0, c1⟩ := hc a ha
  rw [hLint] at c0
  obtain ⟨b', off', rfl, hb', hcx⟩ := hy (by omega)
  have HCX := Lib.hid hcx
  have HG := Lib.hid hG
  rw [← hP] at HAt HLK HLi HTn HTl
  obtain ⟨neg, hneg⟩ : ∃ neg, neg = (xa.getD a noAx).neg := ⟨_, rfl⟩
  have hneg' : gN xa a = neg := by rw [hneg]; rfl
  rw [← hneg] at c1
  rw [hneg'] at HTn HTl
  obtain ⟨L, hL⟩ : ∃ L, L = gL xa a := ⟨_, rfl⟩
  obtain ⟨I, hI⟩ : ∃ I, I = gI xa a := ⟨_, rfl⟩
  have HLO : Hid (∀ k, lnOf xa a xs k = (List.range L).map fun j => xs.getD (Sh.first I L k + j * I) 0) := Lib.hid (fun k => by rw [hL, hI]; rfl)
  rw [← hL] at c0 l1 l2 HAt HLK HLi HGt HTn HTl HLl
  rw [← hI] at i1 HAt HLK HGt HTn
  obtain ⟨K, hK⟩ : ∃ K, K = m / L := ⟨_, rfl⟩
  rw [← hK] at HAt HLK HLi HTn HTl
  have q1 : (m : Int) / (L : Int) = (K : Int) := by rw [hK]; exact cast_div m L
  have q2 : (L : Int) ≠ 0 := by omega
  have q3 : K ≤ m := by rw [hK]; exact Nat.div_le_self _ _
  have m3 : 1 ≤ m ∧ m ≤ 4096 := by omega
  obtain ⟨i0, hi, hz0, hz1, hz2⟩ := info_parts info_u64
  have HZ2 := Lib.hid hz2
  generalize thr p xa a inv xs = res at HE ⊢
  generalize thrN p xa a inv xs = tn at HE HTn
  have HM := Lib.hid hm
  clear h hx hy hw hG hc hcx hlen hP hLint hneg hneg' hL hI hK hz2 hm m1 m2
  go_enter Tryd.func24, Tryd.ntmps24
  go_wp2_with (first
    | (go_at_call 17; refine HD.out.mono ?_; rintro e w1 ⟨v, rfl, hO, b1⟩; obtain ⟨yd, cd, rfl, hcd, -, hr, -⟩ := hO.form; rw [dims_len] at hcd; rw [dims_len]; have RD := Lib.hid hr; have B1 := Lib.hid b1; have cc0 := (b1.cell (p := ⟨b, off + a * 2, none⟩) hb).trans c0; have cc1 := (b1.cell (p := ⟨b, off + a * 2 + 1, none⟩) hb).trans c1; clear hO hr b1)
    | (at_make; refine wpList_make_full _ rfl _ _ 24 rfl (w1.heap.size + 1) 22 i0 (.int .u64 0) 1 Tryd.underlying24 hi hz0 hz1 .i64 .i64 _ _ m rfl rfl rfl rfl (by rw [HZ2.out]; omega) (by unfold maxLen; omega) (by simp) ?_; intro w2 hown2 hgrow2; rw [World.size_alloc] at hown2; have S2 := Lib.hid (hown2.lt _ rfl).2; have BA2 := Lib.hid ((Below.refl (w1.heap.size + 1) _).grown hgrow2 (by simp) (fun k e => by cases e)); have Y2 := Lib.hid (RowAt.start hown2); have bx2 := (box_cells BA2.out).1; clear hown2 hgrow2)
    | (at_make; refine wpList_make_full _ rfl _ _ 24 rfl (w1.heap.size + 1) 22 i0 (.int .u64 0) 1 Tryd.underlying24 hi hz0 hz1 .i64 .i64 _ _ L rfl rfl rfl rfl (by rw [HZ2.out]; omega) (by unfold maxLen; omega) (Nat.le_of_lt S2.out) ?_; intro w3 hown3 hgrow3; have S3 := Lib.hid (hown3.lt _ rfl).2; have BA3 := Lib.hid (BA2.out.grown hgrow3 (Nat.le_of_lt S2.out) (fun k e => by cases e)); have Y3 := Lib.hid (Y2.out.below ((Below.refl _ w2).grown hgrow3 (Nat.le_refl _) (fun k e => by cases e))); have L3 := Lib.hid (RowAt.start hown3); have bx3 := (box_cells BA3.out).1; clear hown3 hgrow3))
  have hne : w1.heap.size + 1 ≠ w2.heap.size := Nat.ne_of_lt S2.out
  have HWA := Lib.hid (below_al B1.out (.cells #[.int .i64 (L : Int), .bool neg] 41))
  have RDA : Hid (Reads .i64 (w1.alloc (.cells #[.int .i64 (L : Int), .bool neg] 41)) (w1.heap.size + 1) yd (dims xa)) := Lib.hid ((RD.out.below ((Below.refl _ w1).alloc (Nat.le_refl _) _)).more (Nat.le_succ _))
  have s1 : w.heap.size ≤ w1.heap.size + 1 := Nat.le_succ_of_le B1.out.size
  clear cc0 cc1 c0 c1 RD B1 HD Y2 BA2 bx2 hi hz0 hz1 HZ2
  go_loopw [39] (fun i wr => ∃ (k : Nat) (fl : Nat → Int), k ≤ K ∧ i = .int .i64 (k : Int) ∧ RowAt .u64 22 wr (w1.heap.size + 1) w2.heap.size L fl ∧ RowAt .u64 22 wr (w1.heap.size + 1) (w1.heap.size + 1) m (yf I L k 0 tn) ∧ Below (w1.heap.size + 1) (w1.alloc (.cells #[.int .i64 (L : Int), .bool neg] 41)) wr) (fun i _ => K - (intOf i).toNat)
  case atStart => exact ⟨0, fun _ => 0, Nat.zero_le _, rfl, L3.out, Y3.out.congr (fun i _ => (yf_zero i).symm), BA3.out⟩
  case round =>
    clear Y3 L3 BA3 bx3 S3
    obtain ⟨k, fl, hk, rfl, hRL, hRY, hB⟩ := hrel
    by_cases hlt : k < K
    · have hdk : decide (k < K) = true := by simpa using hlt
      have hW := (HLi.out k hlt yd cd hcd wr (w1.heap.size + 1) (RDA.out.below hB))
      have HC := Lib.hid hW
      have HRL := Lib.hid hRL
      have HRY := Lib.hid hRY
      have HB := Lib.hid hB
      have hgl := hRL.lt
      have hgy := hRY.lt
      clear hW hRL hRY hB
      go_wp2_with (go_at_call 45; refine HC.out.mono ?_; intro e w4 hr; obtain ⟨g, cp, rfl, hg1, hg2, hcp, -, hOp, -, b4⟩ := hr.open (HLl.out k) (by omega); have OP := Lib.hid hOp; have B4 := Lib.hid b4; clear hr hOp b4)
      have RL4 := Lib.hid (HRL.out.below B4.out)
      have RY4 := Lib.hid (HRY.out.below B4.out)
      have BB4 := Lib.hid (HB.out.trans (B4.out.mono (Nat.le_of_lt hgy.2)))
      have HF0 := Lib.hid (RL4.out.half (fun j => xs.getD (Sh.first I L k + j * I) 0))
      have hgne : g ≠ w2.heap.size := by omega
      have hgne' : g ≠ w1.heap.size + 1 := by omega
      clear HRL HRY HB RL4 HC B4
      go_loopw [51] (fun i wi => ∃ j : Nat, j ≤ L ∧ i = .int .i64 (j : Int) ∧ Half .u64 22 wi (w1.heap.size + 1) w2.heap.size L (fun j => xs.getD (Sh.first I L k + j * I) 0) fl j ∧ RowAt .u64 22 wi (w1.heap.size + 1) (w1.heap.size + 1) m (yf I L k 0 tn) ∧ Owns .i64 3 wi wr.heap.size (.slice (some ⟨g, 0, none⟩) L cp) (lineOf (szs xa) a k) ∧ Below (w1.heap.size + 1) (w1.alloc (.cells #[.int .i64 (L : Int), .bool neg] 41)) wi) (fun i _ => L - (intOf i).toNat)
      case atStart => exact ⟨0, Nat.zero_le _, rfl, HF0.out, RY4.out, OP.out, BB4.out⟩
      case round =>
        clear HF0 RY4 OP BB4
        obtain ⟨j, hj, rfl, hH, hY, hO, hB⟩ := hrel
        by_cases hlj : j < L
        · have hdj : decide (j < L) = true := by simpa using hlj
          have e1 := hO.cell j (by rw [HLl.out]; exact hlj)
          rw [HGt.out k j hlj] at e1
          have e2 := HAt.out k j hlt hlj
          have e3 := hH.cellNext hlj
          have e4 := hH.frozen j
          have hs := hH.step
          obtain ⟨s, hs'⟩ : ∃ s, s = Sh.first I L k + j * I := ⟨_, rfl⟩
          rw [← hs'] at e1 e2 hs
          have e5 := ((HWA.out.trans (hB.mono s1)).cell (p := ⟨b', off' + s, none⟩) hb').trans (HCX.out s (by rw [HM.out]; exact e2))
          obtain ⟨u, hu⟩ : ∃ u, u = xs.getD s 0 := ⟨_, rfl⟩
          rw [← hu] at e5 hs
          have HS := Lib.hid (And.intro hs (And.intro (hY.else (ad := ⟨w2.heap.size, j, none⟩) hne (.int .u64 u)) (And.intro (hO.else (HLl.out k) (ad := ⟨w2.heap.size, j, none⟩) hgne (.int .u64 u)) (hB.setCell (p := ⟨w2.heap.size, j, none⟩) (Nat.le_of_lt S2.out) (.int .u64 u)))))
          have hgl2 := hH.lt.2
          clear hs hH hY hO hB hs' hu
          go_wp2
          go_roundw
          case rel => exact ⟨j + 1, by omega, by go_num, HS.out.1, HS.out.2.1, HS.out.2.2.1, HS.out.2.2.2⟩
          case measure => simp [intOf]; omega
        · obtain rfl : j = L := by omega
          have hRow := hH.row
          have hG5 := HG.out.then (HWA.out.trans (hB.mono s1))
          have HT := Lib.hid (transformed_any p (some ⟨w2.heap.size, 0, none⟩) j j (lnOf xa a xs k) neg inv wr hG5 (by rw [HLO.out]; exact hRow.reads) (by rw [HLO.out, List.length_map, List.length_range]) (HW.out k) (by unfold maxLen; omega))
          have bx := (box_cells hB).2
          have hgy5 := hY.lt
          have hgl5 := hRow.lt
          have hg5 := (World.ownsRow.lt hO g rfl).2
          have HY := Lib.hid hY
          have HR5 := Lib.hid hRow
          have HO5 := Lib.hid hO
          have HB5 := Lib.hid hB
          clear hH hRow hG5 hY hO hB
          go_wp2_with (go_at_call 46; refine HT.out.mono ?_; intro e w6 hr; obtain ⟨t6, ct, rfl, ht1, ht2, hct, -, hOt, b6⟩ := hr.open (HTl.out k hlt) (by omega); have OT := Lib.hid hOt; have B6 := Lib.hid b6; clear hr hOt b6)
          have RY6 := Lib.hid (HY.out.below B6.out)
          have RL6 := Lib.hid (HR5.out.below B6.out)
          have OP6 := Lib.hid (HO5.out.below B6.out)
          have BB6 := Lib.hid (HB5.out.trans (B6.out.mono (Nat.le_of_lt hgy5.2)))
          have htne : t6 ≠ w1.heap.size + 1 := by omega
          clear HY HR5 HO5 HB5 HT B6 bx
          go_loopw [71] (fun i wi => ∃ q : Nat, q ≤ j ∧ i = .int .i64 (q : Int) ∧ RowAt .u64 22 wi (w1.heap.size + 1) (w1.heap.size + 1) m (yf I j k q tn) ∧ RowAt .u64 22 wi (w1.heap.size + 1) w2.heap.size j (fun j' => xs.getD (Sh.first I j k + j' * I) 0) ∧ Owns .i64 3 wi (w1.heap.size + 1) (.slice (some ⟨g, 0, none⟩) j cp) (lineOf (szs xa) a k) ∧ Owns .u64 22 wi (w1.heap.size + 1) (.slice (some ⟨t6, 0, none⟩) j ct) (tr p neg inv (lnOf xa a xs k)) ∧ Below (w1.heap.size + 1) (w1.alloc (.cells #[.int .i64 (j : Int), .bool neg] 41)) wi) (fun i _ => j - (intOf i).toNat)
          case atStart => exact ⟨0, Nat.zero_le _, rfl, RY6.out, RL6.out, OP6.out.mono (by omega), OT.out.mono (by omega), BB6.out⟩
          case round =>
            clear RY6 RL6 OP6 OT BB6
            obtain ⟨q, hq, rfl, hY, hRow, hO, hT, hB⟩ := hrel
            by_cases hlq : q < j
            · have e1 := hO.cell q (by rw [HLl.out]; exact hlq)
              rw [HGt.out k q hlq] at e1
              have e2 := HAt.out k q hlt hlq
              have e3 := hT.cell q (by rw [HTl.out k hlt]; exact hlq)
              rw [HTn.out k hlt q hlq] at e3
              have hs := hY.set (Sh.first I j k + q * I) (f' := yf I j k (q + 1) tn) (fun t _ hne => yf_else i1 hne)
              rw [yf_here i1 hlq] at hs
              obtain ⟨s, hs'⟩ : ∃ s, s = Sh.first I j k + q * I := ⟨_, rfl⟩
              rw [← hs'] at e1 e2 e3 hs
              obtain ⟨u, hu⟩ : ∃ u, u = tn s := ⟨_, rfl⟩
              rw [← hu] at e3 hs
              have e4 := hY.cell s e2
              have e5 := hY.frozen s
              have hgy6 := hY.lt.2
              obtain ⟨o, ho⟩ : ∃ o, o = yf I j k q tn s := ⟨_, rfl⟩
              rw [← ho] at e4
              have HS := Lib.hid (And.intro hs (And.intro (hRow.else (ad := ⟨w1.heap.size + 1, s, none⟩) (Ne.symm hne) (.int .u64 u)) (And.intro (hO.else (HLl.out k) (ad := ⟨w1.heap.size + 1, s, none⟩) hgne' (.int .u64 u)) (And.intro (hT.else (HTl.out k hlt) (ad := ⟨w1.heap.size + 1, s, none⟩) htne (.int .u64 u)) (hB.setCell (p := ⟨w1.heap.size + 1, s, none⟩) (Nat.le_refl _) (.int .u64 u))))))
              clear hs hY hRow hO hT hB hs' hu ho
              go_wp2
              go_roundw
              case rel => exact ⟨q + 1, by omega, by go_num, HS.out.1, HS.out.2.1, HS.out.2.2.1, HS.out.2.2.2.1, HS.out.2.2.2.2⟩
              case measure => simp [intOf]; omega
            · obtain rfl : q = j := by omega
              have HS := Lib.hid (And.intro hRow (And.intro (hY.congr (fun t _ => yf_turn l1 t)) hB))
              clear hY hRow hO hT hB
              go_wp2
              go_roundw
              case rel => exact ⟨k + 1, _, by omega, by go_num, HS.out.1, HS.out.2.1, HS.out.2.2⟩
              case measure => simp [intOf]; omega
    · obtain rfl : k = K := by omega
      have hR : RetU w res (.returned (.slice (some ⟨w1.heap.size + 1, 0, none⟩) m m)) wr := ⟨_, rfl, by
        rw [← HE.out]
        refine Owns.mono (base := w1.heap.size + 1) (hRY.congr fun i hi => ?_) s1
        unfold yf
        rw [if_pos (.inl (HLK.out i hi))], HWA.out.trans (hB.mono s1)⟩
      clear hRL hRY hB
      go_wp2
      go_ret
      exact hR

end Go.Proofs.YtjmgieepgdjomaaDoor
