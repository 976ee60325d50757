/-
  What seed.folded comes to: words of which each line of the last axis has become one word (a range over slices.Chunk).
-/
import Derived.Test.YtmeeldhejbdgjaaDoorChunk
import Derived.Test.YtmeeldhejbdgjaaDoorMathSeed
import Derived.Test.YtmeeldhejbdgjaaDoorGrids
import Derived.Test.YtmeeldhejbdgjaaDoorRows2
import Derived.Laws.Rows
namespace Go.Proofs.YtmeeldhejbdgjaaDoor
open Go.RowKit Go.Shelf

attribute [local go_sem] Oper.semAt_some

/-- A region that draws its order and only reads, or calls what only draws, inside a round and inside a loop of it: one walk in the text's order serves every order. -/
theorem regionIn_quiet {P : Program} {id n r : Nat} {Q : Exit → Act → World → Prop} {a : Act} {w : World} {l : List Oper} (hm : P.follows .mixedOrders = true) (hB : Region.lexB .any l.toArray = true) (hd : noDefer l = true)
    (h : wpQuiet P l.toArray (fun w' => ∃ n, w' = w.drewN n) (fun a' => ∀ w', (∃ n, w' = w.drewN n) → Q .normal a' w') l a) : (Code.region id l.toArray true).wpIn (Fence.wide.inRound r) n P Q a w := by
  refine Code.wpIn_mono (Q := fun e a' w' => e = .normal ∧ Q .normal a' w') (fun e a' w' h => by obtain ⟨rfl, h⟩ := h; exact h) ?_
  refine wpIn_region_any hm (anyIn_of_any (noDefer_spec hd) (by rintro ⟨_, _, h, _⟩; cases h) _ _ _ _ ?_)
  simp only [Region.lexB, Bool.and_eq_true] at hB
  refine wpAny_of_quiet (C := fun w' => ∃ n, w' = w.drewN n) (Q := fun a' => ∀ w', (∃ n, w' = w.drewN n) → Q .normal a' w') (fun _ w' hw' h => ⟨rfl, h w' hw'⟩) _ _ _ _ ⟨1, rfl⟩ ?_
  have := wpAnyQ_lex (C := fun w' => ∃ n, w' = w.drewN n) (md := .any) hB.1 l 0 (Array.replicate l.toArray.size false) a (by simp) (by simpa using hB.2) h
  simpa using this

/-- Between two rounds, js having come: the boxes of p and of the weights, the box of the slice that is made, and its row; the two boxes of slices.Chunk. -/
structure FdInv (p : Int) (xs bs : List Int) (sx : Value) (y : Option Addr) (L cy K : Nat) (w : World) (g Bl : Nat) (js : List (Fin K)) (W : World) : Prop where
  bp : Boxed W w.heap.size 22 (.int .u64 p)
  bw : Boxed W (w.heap.size + 1) 24 (.slice y L cy)
  row : ∃ v, Boxed W Bl 24 v ∧ W.ownsRow g 22 1 v js.length (js.map fun j => .int .u64 (fdN p xs bs j.1))
  bs : Boxed W (Bl + 1) 24 sx
  bn : Boxed W (Bl + 1 + 1) 3 (.int .i64 (L : Int))
  below : Below w.heap.size w W

section
variable {p : Int} {xs bs : List Int} {sx : Value} {y : Option Addr} {L cy K : Nat} {w : World} {g Bl B : Nat}
theorem FdInv.own (hB : w.heap.size ≤ B) : OwnFrom B (FdInv p xs bs sx y L cy K w g Bl) := by
  rintro js W W' row ⟨h1, h2, ⟨v, h3, h4⟩, h5, h6, h7⟩ hg hr
  have hr' : ∀ r, row = some r → ∃ o : Obj, W.heap[r]? = some o ∧ o.isCells = false := fun r e => (hr r e).2
  exact ⟨boxed_stays h1 hg hr', boxed_stays h2 hg hr', ⟨v, boxed_stays h3 hg hr', owned_stays h4 hg hr'⟩, boxed_stays h5 hg hr', boxed_stays h6 hg hr', h7.grown hg h7.size (fun k e => Nat.le_trans hB (hr k e).1)⟩
theorem owned_form {W : World} {base k : Nat} {e : TypeId} {v : Value} {ys : List Value} (h : W.ownsRow base e 1 v (k + 1) ys) : ∃ g' c', v = .slice (some ⟨g', 0, none⟩) (k + 1) c' := by
  rcases h.2 with ⟨_, e2⟩ | ⟨g', c', cur, e1, _⟩
  · omega
  · exact ⟨g', c', e1⟩
theorem owned_cells {W : World} {base k : Nat} {e : TypeId} {v : Value} {ys : List Value} (h : W.ownsRow base e 1 v k ys) : ∀ (j : Nat) (o : Obj), v.ownBlock = some j → W.heap[j]? = some o → o.isCells = true := by
  intro j o e1 e2
  rcases h.2 with ⟨rfl, _⟩ | ⟨g', c', cur, rfl, _, e3, _⟩
  · simp [Value.ownBlock] at e1
  · simp [Value.ownBlock] at e1
    subst e1
    rw [e3] at e2
    cases e2
    rfl
/-- One more word is appended. -/
theorem FdInv.step {js : List (Fin K)} {W : World} (hJ : FdInv p xs bs sx y L cy K w g Bl js W) (hg : g = w.heap.size + 1 + 1) (hgl : g < Bl) {v : Value} (h3 : Boxed W Bl 24 v) (h4 : W.ownsRow g 22 1 v js.length (js.map fun j => .int .u64 (fdN p xs bs j.1)))
    {nd : Nat} {wr : World} (hwr : W.drewN nd = wr) {tmp : Obj} {w5 : World} {v' : Value} (hg5 : (wr.alloc tmp).grownBy w5 v.ownBlock) {j : Fin K}
    (hO5 : w5.ownsRow g 22 1 v' (js.length + 1) ((js.map fun j => Value.int .u64 (fdN p xs bs j.1)) ++ [.int .u64 (fdN p xs bs j.1)])) :
    KeepsFrom B W (w5.setCell ⟨Bl, 0, none⟩ v') ∧ Keeps2 w.heap.size (Bl + 1) (Bl + 1 + 1) W (w5.setCell ⟨Bl, 0, none⟩ v') ∧ FdInv p xs bs sx y L cy K w g Bl (js ++ [j]) (w5.setCell ⟨Bl, 0, none⟩ v') := by
  subst hwr
  obtain ⟨h1, h2, -, h5, h6, h7⟩ := hJ
  have low : ∀ k, k < g → some k ≠ v.ownBlock := fun k hk e => by
    have := (h4.lt k e.symm).1
    omega
  have old : ∀ k, k < W.heap.size → some k ≠ v.ownBlock → w5.heap[k]? = W.heap[k]? := fun k hk hne => by
    have e := hg5.block k (by rw [World.size_alloc]; exact Nat.lt_succ_of_lt hk) hne
    rw [e]
    exact heap_alloc_old (W.drewN nd) tmp hk
  have hb5 : Below w.heap.size W w5 := by
    refine Below.grown ((draws_below w.heap.size W nd).alloc h7.size tmp) hg5 ?_ (fun k e => by have := (h4.lt k e).1; omega)
    rw [World.size_alloc]
    exact Nat.le_succ_of_le h7.size
  have hset : ∀ k, k ≠ Bl → (w5.setCell ⟨Bl, 0, none⟩ v').heap[k]? = w5.heap[k]? := fun k hk => Below.heap_setCell w5 _ _ k hk
  have b3 : Boxed w5 Bl 24 v := (old Bl h3.lt (h3.not_row (by decide) h4)).trans h3
  have k5 : w5.heap[Bl + 1]? = W.heap[Bl + 1]? := old _ h5.lt (h5.not_row (by decide) h4)
  have k6 : w5.heap[Bl + 1 + 1]? = W.heap[Bl + 1 + 1]? := old _ h6.lt (h6.not_row (by decide) h4)
  refine ⟨?_, ⟨hb5.setCell (p := ⟨Bl, 0, none⟩) (by show _ ≤ Bl; omega) _, ?_, ?_⟩, ?_, ?_, ⟨v', b3.set _, ?_⟩, ?_, ?_, ?_⟩
  · exact ((((keeps_draws W nd).trans (KeepsOthers.alloc _ tmp)).trans (KeepsOthers.of_grownBy hg5 (owned_cells (World.ownsRow.alloc (w := W.drewN nd) h4 tmp)))).trans (KeepsOthers.setCell _ _ _)).from B
  · exact (hset _ (by omega)).trans k5
  · exact (hset _ (by omega)).trans k6
  · exact (hset _ (by omega)).trans ((old _ h1.lt (low _ (by omega))).trans h1)
  · exact (hset _ (by omega)).trans ((old _ h2.lt (low _ (by omega))).trans h2)
  · rw [List.length_append, List.map_append]
    obtain ⟨g', c', rfl⟩ := owned_form hO5
    have hne := b3.not_row (by decide) hO5
    exact owned_set hO5 _ (by show g' ≠ Bl; intro e; apply hne; simp [Value.ownBlock, e])
  · exact (hset _ (by omega)).trans (k5.trans h5)
  · exact (hset _ (by omega)).trans (k6.trans h6)
  · exact (h7.trans hb5).setCell (p := ⟨Bl, 0, none⟩) (by show _ ≤ Bl; omega) _
end

theorem upTo_all (f : Nat → Int) (K : Nat) : (upTo K K).map (fun j => Value.int .u64 (f j.1)) = ((List.range K).map f).map (Value.int .u64) := by
  unfold upTo
  apply List.ext_getElem?
  intro i
  by_cases hi : i < K
  · simp [hi]
  · simp [hi]

set_option maxRecDepth 100000 in
set_option maxHeartbeats 4000000 in
theorem folded_any (p : Int) (x : Option Addr) (n cap : Nat) (xs : List Int) (y : Option Addr) (L cy : Nat) (bs : List Int) (w : World) (h : Fp.kn p = true) (hx : Reads .u64 w w.heap.size x xs) (hn : xs.length = n) (hw : Words xs) (hc : n ≤ cap)
    (hy : Reads .u64 w w.heap.size y bs) (hL : bs.length = L) (hwb : Words bs) (n1 : 1 ≤ n) (l1 : 1 ≤ L) (hl : n ≤ 65536) (hl2 : L ≤ 65536) :
    Calls Tryd.prog 59 #[.int .u64 p, .slice x n cap, .slice y L cy] w (RetU w (fdL p xs bs)) := by
  obtain ⟨K, hK⟩ : ∃ K, K = cn n L := ⟨_, rfl⟩
  obtain ⟨k1, hKn⟩ := cn_bd l1 n1
  have HKM : Hid (∀ k, k < K ↔ k * L < n) := Lib.hid (fun k => by rw [hK]; exact cn_lt l1 k)
  rw [← hK] at k1 hKn
  obtain ⟨F, hF⟩ : ∃ F, F = n / L := ⟨_, rfl⟩
  have hFn : F ≤ n := by rw [hF]; exact Nat.div_le_self _ _
  have HE : Hid ((List.range K).map (fdN p xs bs) = fdL p xs bs) := Lib.hid (by unfold fdL; rw [hn, hL, hK])
  obtain ⟨b, off, rfl, hb, hcx⟩ := hx (by omega)
  obtain ⟨b2, off2, rfl, hb2, hcy⟩ := hy (by omega)
  have q1 : (n : Int) / (L : Int) = (F : Int) := by rw [hF]; exact cast_div n L
  have q2 : (L : Int) ≠ 0 := by omega
  obtain ⟨i0, hi, hz0, hz1, hz2⟩ := info_parts info_u64
  have H := Lib.hid h
  have HW := Lib.hid hw
  have HWB := Lib.hid hwb
  have HCX := Lib.hid hcx
  have HCY := Lib.hid hcy
  have HLN := Lib.hid hL
  have HN := Lib.hid hn
  have HZ2 := Lib.hid hz2
  clear h hw hwb hK hF hcx hcy hx hy hn
  refine (callsIn_wide (n := 3)).1 ?_
  refine callsIn_of_wp_marks Tryd.func59 rfl trivial ?_ rfl
  simp only [Tryd.ntmps59, List.size_toArray, List.length_cons, List.length_nil, Nat.reduceAdd, Nat.reduceSub, Array.replicate_succ, Array.replicate_zero, List.push_toArray, List.append_toArray, List.nil_append, List.cons_append]
  gi_wp2_with (gi_at_make; refine wpListIn_make_own _ rfl _ _ 24 rfl _ 22 i0 (.int .u64 0) 1 Tryd.underlying24 hi hz0 hz1 .i64 .i64 _ F rfl rfl rfl (by rw [HZ2.out]; omega) (by unfold maxLen; omega) (Nat.le_refl _) ?_; intro w1 hown hgrow; obtain ⟨g, hgg⟩ : ∃ g, g = ((w.alloc (.cells #[.int .u64 p] 22)).alloc (.cells #[.slice (some ⟨b2, off2, none⟩) L cy] 24)).heap.size := ⟨_, rfl⟩; rw [← hgg] at hown ⊢; have hB1 := Boxed.kept (Boxed.alloc (Boxed.new w 22 (.int .u64 p)) (.cells #[.slice (some ⟨b2, off2, none⟩) L cy] 24)) hgrow (by simp); have hB2 := Boxed.kept (Boxed.new (w.alloc (.cells #[.int .u64 p] 22)) 24 (.slice (some ⟨b2, off2, none⟩) L cy)) hgrow (by simp); have hBw := (below_al (below_al (Below.refl _ w) (.cells #[.int .u64 p] 22)) (.cells #[.slice (some ⟨b2, off2, none⟩) L cy] 24)).grown hgrow (by simp; omega) (fun k e => by cases e); rw [World.size_alloc, World.size_alloc] at hgg; rw [World.size_alloc] at hB2; have cB2 := hB2.cell; have hs1 := hB2.lt; have hg1 := (hown.lt _ rfl).2; have HB := Lib.hid (And.intro hB1 (And.intro hB2 (And.intro hown hBw))); have HG := Lib.hid hgg; clear hB1 hB2 hown hBw hgg hgrow)
  refine ⟨trivial, (callsIn_wide.2 (chunk_any _ _ _ L l1 _)).mono ?_⟩
  rintro e W3 ⟨rfl, rfl⟩
  obtain ⟨Bl, hBl⟩ : ∃ Bl, Bl = w1.heap.size := ⟨_, rfl⟩
  obtain ⟨W2, hW2⟩ : ∃ W2, W2 = w1.alloc (.cells #[.slice (some ⟨g, 0, none⟩) 0 F] 24) := ⟨_, rfl⟩
  rw [← hW2]
  have hs2 : W2.heap.size = Bl + 1 := by rw [hW2, World.size_alloc, hBl]
  have HI2 : Hid (Boxed W2 w.heap.size 22 (.int .u64 p) ∧ Boxed W2 (w.heap.size + 1) 24 (.slice (some ⟨b2, off2, none⟩) L cy) ∧ Boxed W2 Bl 24 (.slice (some ⟨g, 0, none⟩) 0 F) ∧ W2.ownsRow g 22 1 (.slice (some ⟨g, 0, none⟩) 0 F) 0 [] ∧ Below w.heap.size w W2) := Lib.hid (by
    obtain ⟨h1, h2, h3, h4⟩ := HB.out
    rw [hW2]
    exact ⟨h1.alloc _, h2.alloc _, by rw [hBl]; exact Boxed.new _ _ _, World.ownsRow.alloc h3 _, below_al h4 _⟩)
  rw [← hBl]
  have hgl : g < Bl := by rw [hBl]; exact hg1
  have hwl : w.heap.size + 1 < Bl := by rw [hBl]; exact hs1
  clear hW2 hBl HB cB2 hs1 hg1
  obtain ⟨W3, hW3⟩ : ∃ W3, W3 = (W2.alloc (.cells #[.slice (some ⟨b, off, none⟩) n cap] 24)).alloc (.cells #[.int .i64 (L : Int)] 3) := ⟨_, rfl⟩
  rw [← hW3]
  have bS : Boxed W3 W2.heap.size 24 (.slice (some ⟨b, off, none⟩) n cap) := by rw [hW3]; exact (Boxed.new _ _ _).alloc _
  have bN : Boxed W3 (W2.heap.size + 1) 3 (.int .i64 (L : Int)) := by
    have := Boxed.new (W2.alloc (.cells #[.slice (some ⟨b, off, none⟩) n cap] 24)) 3 (.int .i64 (L : Int))
    rw [World.size_alloc] at this
    rw [hW3]; exact this
  have hI3 : FdInv p xs bs (.slice (some ⟨b, off, none⟩) n cap) (some ⟨b2, off2, none⟩) L cy K w g Bl [] W3 := by
    obtain ⟨h1, h2, h3, h4, h5⟩ := HI2.out
    rw [hW3]
    rw [hW3, hs2] at bS bN
    exact ⟨(h1.alloc _).alloc _, (h2.alloc _).alloc _, ⟨_, (h3.alloc _).alloc _, World.ownsRow.alloc (World.ownsRow.alloc h4 _) _⟩, bS, bN, below_al (below_al h5 _) _⟩
  rw [hs2] at bS bN
  clear hW3 HI2
  have hmx : Tryd.prog.follows .mixedOrders = true := by kernel_rfl
  gi_wp2
  refine wpIn_rangeFunc_ownG rfl (by omega) (gf := 97) (lb := #[.pointer (some ⟨Bl + 1, 0, none⟩), .pointer (some ⟨Bl + 1 + 1, 0, none⟩)]) rfl trivial (enters_of Tryd.func97 (by kernel_rfl) rfl)
    (chunk_stops 2 (by omega) (Bl + 1) (Bl + 1 + 1) w.heap.size b off cap K L n HKM.out (by omega) l1 hc (by omega) W3 bS.lt bN.lt bS.cell bN.cell) Keeps2.trans (keeps2_b hI3.below.size bS.lt bN.lt) (Below.refl _ _) (fun _ => rfl)
    (FdInv p xs bs (.slice (some ⟨b, off, none⟩) n cap) (some ⟨b2, off2, none⟩) L cy K w g Bl) (fun _ _ _ => False) (FdInv.own hI3.below.size) (fun _ _ _ _ _ hs _ _ => hs) hI3 ?a1 ?assign ?body ?done ?stop
  case assign =>
    intro l j W K' hK'
    gi_wp2
    exact hK'
  case body =>
    rintro l js ⟨j, hj⟩ W hJ hlj
    obtain ⟨hp, hy2, ⟨v, hv, hrow⟩, -, -, hb5⟩ := id hJ
    have cP := hp.cell
    have cY := hy2.cell
    have cL := hv.cell
    have fL := hv.frozen
    have hjn : j * L < n := (HKM.out j).1 hj
    obtain ⟨M, hM⟩ : ∃ M, M = min L (n - j * L) := ⟨_, rfl⟩
    have m1 : M ≤ L := by omega
    have HX : Hid (∀ q, q < M → W.cell? ⟨b, off + j * L + q, none⟩ = some (.int .u64 (xs.getD (j * L + q) 0))) := Lib.hid (fun q hq => by
      rw [Nat.add_assoc]
      exact (hb5.cell (p := ⟨b, off + (j * L + q), none⟩) hb).trans (HCX.out _ (by rw [HN.out]; omega)))
    have HY : Hid (∀ q, q < L → W.cell? ⟨b2, off2 + q, none⟩ = some (.int .u64 (bs.getD q 0))) := Lib.hid (fun q hq => (hb5.cell (p := ⟨b2, off2 + q, none⟩) hb2).trans (HCY.out q (by rw [HLN.out]; exact hq)))
    have HF : Hid (∀ q, Fp.add p (fdP p xs bs j q) (Fp.mul p (xs.getD (j * L + q) 0) (bs.getD q 0)) = fdP p xs bs j (q + 1)) := Lib.hid (fun q => by rw [← fdP_succ H.out, HLN.out])
    have HZ : Hid (fdP p xs bs j 0 = 0) := Lib.hid (fdP_zero H.out _ _ _)
    have HQ : Hid (fdP p xs bs j M = fdN p xs bs j) := Lib.hid (by
      rcases Nat.lt_or_ge (n - j * L) L with h | h
      · exact fdP_full p xs bs (by rw [HLN.out]; exact m1) (by rw [HN.out, HLN.out]; omega)
      · rw [show M = L by omega, ← HLN.out]; exact fdP_all _ _ _ _)
    have HJ := Lib.hid hJ
    have HV := Lib.hid hv
    have HRow0 := Lib.hid hrow
    obtain ⟨o, ho⟩ : ∃ o, o = off + j * L := ⟨_, rfl⟩
    rw [← ho] at HX
    show Code.wpIn _ _ _ _ _ _ W
    dsimp only
    rw [← ho, ← hM]
    clear hp hy2 hv hrow hb5 hJ ho hM hjn
    gi_wp2
    gi_loopw [9, 25] (fun t i wr => ∃ q : Nat, q ≤ M ∧ i = .int .i64 (q : Int) ∧ t = .int .u64 (fdP p xs bs j q) ∧ Hid (∃ nd, W.drewN nd = wr)) (fun _ i _ => M - (intOf i).toNat)
    case atStart => exact ⟨0, Nat.zero_le _, rfl, by rw [HZ.out], Lib.hid ⟨0, rfl⟩⟩
    case round =>
      obtain ⟨q, hq, rfl, rfl, HD⟩ := hrel
      obtain ⟨t0, t1, -⟩ := fdP_bd p xs bs j q
      by_cases hlt : q < M
      · have hdq : decide (q < M) = true := by simpa using hlt
        have hqL : q < L := by omega
        have cP' : wr.cell? ⟨w.heap.size, 0, none⟩ = some (.int .u64 p) := by obtain ⟨nd, rfl⟩ := HD.out; exact cP
        have cY' : wr.cell? ⟨w.heap.size + 1, 0, none⟩ = some (.slice (some ⟨b2, off2, none⟩) L cy) := by obtain ⟨nd, rfl⟩ := HD.out; exact cY
        have e1 : wr.cell? ⟨b, o + q, none⟩ = some (.int .u64 (xs.getD (j * L + q) 0)) := by obtain ⟨nd, rfl⟩ := HD.out; exact HX.out q hlt
        have e2 : wr.cell? ⟨b2, off2 + q, none⟩ = some (.int .u64 (bs.getD q 0)) := by obtain ⟨nd, rfl⟩ := HD.out; exact HY.out q hqL
        have HFq := Lib.hid (HF.out q)
        obtain ⟨u0, u1⟩ := HW.out (j * L + q)
        obtain ⟨v0, v1⟩ := HWB.out q
        obtain ⟨u, hu⟩ : ∃ u, u = xs.getD (j * L + q) 0 := ⟨_, rfl⟩
        obtain ⟨v, hv⟩ : ∃ v, v = bs.getD q 0 := ⟨_, rfl⟩
        rw [← hu] at e1 u0 u1 HFq
        rw [← hv] at e2 v0 v1 HFq
        obtain ⟨m0, m1, -⟩ := Fp.mul_bd p u v
        clear hu hv cP cY cL fL
        gi_wp2
        refine regionIn_quiet hmx (by kernel_rfl) (by kernel_rfl) ?_
        repeat (go_big_quiet_step (first
          | (go_at_call 24; exact Calls.quiet_of (mul_any _ _ _ _ (by omega) (by omega) (by omega) (by omega)))
          | (go_at_call 25; exact Calls.quiet_of (add_any _ _ _ _ (by omega) (by omega) (by omega) (by omega)))))
        refine wpQuiet_nil ?_
        rintro w' ⟨nq, rfl⟩
        gi_wp2
        go_roundw
        case rel => exact ⟨q + 1, hlt, by go_num, by rw [HFq.out], Lib.hid (by obtain ⟨nd, rfl⟩ := HD.out; exact ⟨nd + nq, (World.drewN_drewN _ _ _).symm⟩)⟩
        case measure => simp [intOf]; omega
      · obtain rfl : q = M := by omega
        have cL' : wr.cell? ⟨Bl, 0, none⟩ = some v := by obtain ⟨nd, rfl⟩ := HD.out; exact cL
        have hrow : wr.ownsRow g 22 1 v js.length (js.map fun j => .int .u64 (fdN p xs bs j.1)) := by obtain ⟨nd, rfl⟩ := HD.out; exact HRow0.out
        have hbl : Boxed wr Bl 24 v := by obtain ⟨nd, rfl⟩ := HD.out; exact HV.out
        have hbl2 := hbl.lt
        rw [HQ.out] at t0 t1 ⊢
        obtain ⟨u, hu⟩ : ∃ u, u = fdN p xs bs j := ⟨_, rfl⟩
        rw [← hu] at t0 t1 ⊢
        have HU := Lib.hid hu
        have HRow := Lib.hid hrow
        have HBl := Lib.hid hbl
        clear hu hrow hbl cP cY cL fL
        gi_wp2_with (gi_at_builtin; refine wpListIn_append_own _ rfl _ _ 24 rfl g 22 i0 (.int .u64 0) 1 8 Tryd.underlying24 hi hz0 hz1 HZ2.out rfl (by decide) v _ _ rfl (World.ownsRow.alloc HRow.out _) ⟨wr.heap.size, 0, none⟩ 1 1 [.int .u64 u] rfl rfl (cell_one_new _ _ _) (one_int _ _) (by unfold maxLen; omega) (by omega) (by simp; omega) ?_; intro v' w5 hO5 hg5 hx5; obtain ⟨g', c', rfl⟩ := owned_form hO5; have b5 := ((HBl.out).alloc _).kept hg5 ((HBl.out).not_row (by decide) HRow.out); have c5 := b5.cell; have f5 := b5.frozen; have O5 := Lib.hid hO5; have G5 := Lib.hid hg5; clear hO5 hg5 b5 hx5)
        obtain ⟨nd, hnd⟩ := HD.out
        refine FdInv.step HJ.out HG.out hgl HV.out HRow0.out hnd G5.out ?_
        rw [← HU.out]
        exact O5.out
  case done =>
    rintro D ys W hD rfl hJ hK
    obtain ⟨v, h3, h4⟩ := hJ.row
    have cL := h3.cell
    have hR : RetU w (fdL p xs bs) (.returned v) (W.putObj D (.deferred none)) := by
      refine ⟨_, rfl, ?_, hJ.below.trans (belowK_b (w := w) (Nat.le_refl _) W D _ _ (by have := hI3.below.size; omega) hK rfl rfl)⟩
      have h7 := owned_stays h4 (grownBy_putObj' W D (.deferred none)) (fun r e => by cases e; exact ⟨_, hK, rfl⟩)
      rw [upTo_all, upTo_len _ _ (Nat.le_refl _), HE.out] at h7
      have hlen : (fdL p xs bs).length = K := by rw [← HE.out]; simp
      unfold Owns
      rw [hlen]
      exact h7.mono (by rw [HG.out]; omega)
    clear h3 h4
    gi_wp2
    refine ⟨by simp, .inl ⟨_, _, rfl, run_takeDeferred hK, ?_⟩⟩
    exact ⟨_, results_tmp (t := 6) rfl _ _ _, hR⟩
  case stop =>
    rintro D c pre W _ _ h _
    exact h.elim

end Go.Proofs.YtmeeldhejbdgjaaDoor
