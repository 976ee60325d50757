/-
  What script.Sparse comes to: the windows of each try are put together in a map, and each try's are looked at.
-/
import Derived.Test.YtbdcpjpdonednaaRng
import Derived.Test.YtbdcpjpdonednaaReadsL
import Derived.Test.YtbdcpjpdonednaaScriptQuiet
namespace Go.Proofs.Ytbdcpjpdonednaa
open Go.RowKit Go.Shelf Go.Maps

/-- A step by itself, as a walk of one operation. -/
def onlyK (K : Act → World → Prop) (e : Exit) (a : Act) (w : World) : Prop := e = .normal ∧ K a w
theorem wpOp_of_list {P : Program} {ops : Array Oper} {Q : Exit → Act → World → Prop} {i : Nat} {o : Oper} {a : Act} {w : World} {K : Act → World → Prop} (hi : ops[i]? = some o) (h : wpList P ops (onlyK K) [o] a w) : wpOp P ops Q i K a w := by
  unfold wpOp
  simp only [hi]
  unfold wpList at h
  by_cases hw : Region.wanted o (yielded ops a.tmps) = true
  · rw [if_pos hw] at h ⊢
    have h' := h.resolve_right (fun x => by obtain ⟨_, _, _, h, _⟩ := x; cases h)
    refine .inl ?_
    unfold Oper.wp at h' ⊢
    revert h'
    generalize (execOp a.eval o).run P w = r
    intro h'
    match r, h' with
    | .ok (.value u) w', h' => exact h'.2
    | .ok .skip w', h' => exact h'.2
    | .ok (.defer d) w', h' => exact h'.2
    | .ok (.enter f args) w', h' =>
      refine Calls.mono h' fun e w'' he => ?_
      cases e with
      | returned u => exact he.2
      | panicked c => cases he.1
      | outgrown =>
        obtain ⟨_, _, h, _⟩ := he
        cases h
    | .ok (.row nm args) w', h' => exact Rows.mono h' fun u w'' he => he.2
    | .halt (.panic u) w', h' => cases h'.1
  · rw [if_neg hw] at h ⊢
    exact h.2

/-- Worlds in which the event u lies in block g. -/
structure BoxS (g : Nat) (u : Ev) where
  out : World
  at_ : EvAt out g 0 u

theorem wins_take {es : List Ev} {k : Nat} {u : Ev} (h : es.take (k + 1) = es.take k ++ [u]) : (fun x y => if u.it = x ∧ u.tr = y then wins (es.take k) u.it u.tr ++ [u.wn] else wins (es.take k) x y) = wins (es.take (k + 1)) := by
  funext x y
  rw [h, wins_snoc]
  by_cases hc : u.it = x ∧ u.tr = y
  · obtain ⟨rfl, rfl⟩ := hc
    simp
  · rw [if_neg hc, if_neg hc]

theorem Tries.below {w w' : World} {b n base : Nat} {D : DataW Value} {G : Int → Int → List Int} (h : Tries w b n base D G) (hb : Below w.heap.size w w') : Tries w' b n base D G where
  own := h.own.kept (grown_of_below hb none) (by simp)
  row a c ha hc := by
    obtain ⟨v, h1, h2⟩ := h.row a c ha hc
    exact ⟨v, h1, h2.below hb⟩
  apart := h.apart
  lt := h.lt

theorem cell_at {W : World} {b : Nat} {x : Value} (h : W.cell? ⟨b, 0, none⟩ = some x) : ∀ j u, [x][j]? = some u → W.cell? ((⟨b, 0, none⟩ : Addr).add j) = some u := by
  intro j u hj
  match j, hj with
  | 0, hj =>
    simp at hj
    subst hj
    simpa [Addr.add] using h

theorem cell_new0 (W : World) (x : Value) (t : TypeId) : (W.alloc (.cells #[x] t)).cell? ⟨W.heap.size, 0, none⟩ = some x := by simp

theorem info_intS : (Try.prog.info? 3).map (fun i => (i.zero, i.size, i.bytes)) = some (some (.int .i64 0), 1, 8) := by kernel_rfl

set_option maxRecDepth 100000 in
set_option maxHeartbeats 8000000 in
theorem Sparse_ok (x : Option Addr) (n cap : Nat) (es : List Ev) (w : World) (hx : ReadsE w w.heap.size x es) (hn : es.length = n) (ho : EvsOk es) (hl : n ≤ 1024) :
    Calls Try.prog 12 #[.slice x n cap] w (RetB (.tuple #[.bool (sparse es), .int .i64 0]) w) := by
  subst hn
  have HCk := Lib.hid (check_any x es.length cap w)
  rw [chk_ok (by omega)] at HCk
  have HX := Lib.hid hx
  have HO := Lib.hid ho
  have hmx : Try.prog.follows .mixedOrders = true := by kernel_rfl
  obtain ⟨i0, hi, hz0, hz1, hz2⟩ := info_parts info_intS
  have hmm := @run_makeMap Try.prog
  clear hx ho
  go_enter Try.func12, Try.ntmps12
  go_wp2_with (go_at_call 20; refine HCk.out.mono ?_; rintro e w' ⟨rfl, rfl⟩)
  clear HCk
  go_loopw [18] (fun i wr => ∃ (k : Nat) (D : DataW Value), k ≤ es.length ∧ i = .int .i64 (k : Int) ∧ Hid (Tries wr w.heap.size k (w.heap.size + 1) D (wins (es.take k)) ∧ Below w.heap.size w wr)) (fun i _ => es.length - (intOf i).toNat)
  case atStart => exact ⟨0, _, Nat.zero_le _, rfl, Lib.hid ⟨Tries.made w, below_al (Below.refl _ _) _⟩⟩
  case round =>
    obtain ⟨k, D, hk, rfl, HI⟩ := hrel
    by_cases hlt : k < es.length
    · obtain ⟨b, off, rfl, hb, hc⟩ := (HX.out.below HI.out.2) (by omega)
      have hok := HO.out.at k
      have hT := take_getD es k hlt
      have hcu := hc k hlt
      obtain ⟨u, hu⟩ : ∃ u, u = es.getD k noEv := ⟨_, rfl⟩
      rw [← hu] at hok hT hcu
      have hwt := wins_take hT
      clear hc hu hT
      obtain ⟨a, c, z, d, f, q⟩ := u
      obtain ⟨c0, c1, c2, c3, c4, c5⟩ := hcu
      dsimp only at c0 c1 c2 c3 c4 c5 hwt
      have hbox := EvAt.new wr ⟨a, c, z, d, f, q⟩ 38
      dsimp only at hbox
      have hT3 := HI.out.1.below (below_al (Below.refl _ wr) (.cells #[.int .i64 a, .int .i64 c, .int .i64 z, .int .i64 d, .int .i64 f, .int .u64 q] 38))
      have hB3 := below_al HI.out.2 (.cells #[.int .i64 a, .int .i64 c, .int .i64 z, .int .i64 d, .int .i64 f, .int .u64 q] 38)
      obtain ⟨v, hv, hOv0⟩ := HI.out.1.row a c hok.1 hok.2.1
      have hOv := hOv0.alloc (.cells #[.int .i64 a, .int .i64 c, .int .i64 z, .int .i64 d, .int .i64 f, .int .u64 q] 38)
      have hvb : ∀ g, v.ownBlock = some g → w.heap.size + 1 ≤ g ∧ g < wr.heap.size := fun g hg => World.ownsRow.lt hOv0 g hg
      have hs3 : (wr.alloc (.cells #[.int .i64 a, .int .i64 c, .int .i64 z, .int .i64 d, .int .i64 f, .int .u64 q] 38)).heap.size = wr.heap.size + 1 := World.size_alloc _ _
      have hBs : w.heap.size + 1 ≤ wr.heap.size := by
        have := HI.out.1.own.lt
        omega
      have HTr := Lib.hid (fun W => tryOf_any ⟨a, c, z, d, f, q⟩ W)
      unfold evV at HTr
      dsimp only at HTr
      have HGL : Hid ((wins (es.take k) a c).length ≤ 1024) := Lib.hid (by
        have := wins_len (es.take k) a c
        rw [List.length_take] at this
        omega)
      have HA := Lib.hid hok.1
      have HC := Lib.hid hok.2.1
      have HWT := Lib.hid hwt
      have HV := Lib.hid hv
      clear hok hwt hOv0
      go_wp2
      obtain ⟨W3, hW3⟩ : ∃ W3, W3 = wr.alloc (.cells #[.int .i64 a, .int .i64 c, .int .i64 z, .int .i64 d, .int .i64 f, .int .u64 q] 38) := ⟨_, rfl⟩
      rw [← hW3] at hbox hT3 hB3 hOv hs3 ⊢
      have HT := Lib.hid hT3
      have HOv := Lib.hid hOv
      have HBs : Hid (w.heap.size + 1 ≤ W3.heap.size) := Lib.hid (by omega)
      have HLk := Lib.hid (fun W (h : Below W3.heap.size W3 W) => hT3.look h HA.out HC.out hv)
      have HEK : Hid (∀ W, W3.grownBy W v.ownBlock → EvAt W wr.heap.size 0 ⟨a, c, z, d, f, q⟩) := Lib.hid (fun W hg => by
        have hbk : W.heap[wr.heap.size]? = W3.heap[wr.heap.size]? := hg.block _ (by omega) (fun e => by have := hvb _ e.symm; omega)
        have hce : ∀ o, W.cell? ⟨wr.heap.size, o, none⟩ = W3.cell? ⟨wr.heap.size, o, none⟩ := fun o => World.cell?_of_block hbk
        obtain ⟨e0, e1, e2, e3, e4, e5⟩ := hbox
        exact ⟨(hce _).trans e0, (hce _).trans e1, (hce _).trans e2, (hce _).trans e3, (hce _).trans e4, (hce _).trans e5⟩)
      have HBW : Hid (∀ wA w2, W3.grownBy wA v.ownBlock → wA.grownBy w2 (some w.heap.size) → Below w.heap.size w w2) := Lib.hid (fun wA w2 h1 h2 =>
        (hB3.grown h1 hB3.size (fun g e => by have := hvb g e; omega)).grown h2 (Nat.le_trans hB3.size h1.size) (fun g e => by cases e; exact Nat.le_refl _))
      have hS0 : Below W3.heap.size W3 W3.drew := draws_below _ W3 1
      have hb0 : EvAt W3.drew wr.heap.size 0 ⟨a, c, z, d, f, q⟩ := hbox
      have k0 := fun s : BoxS wr.heap.size ⟨a, c, z, d, f, q⟩ => s.at_.1
      have k1 := fun s : BoxS wr.heap.size ⟨a, c, z, d, f, q⟩ => s.at_.2.1
      have k2 := fun s : BoxS wr.heap.size ⟨a, c, z, d, f, q⟩ => s.at_.2.2.1
      have k3 := fun s : BoxS wr.heap.size ⟨a, c, z, d, f, q⟩ => s.at_.2.2.2.1
      have k4 := fun s : BoxS wr.heap.size ⟨a, c, z, d, f, q⟩ => s.at_.2.2.2.2.1
      have k5 := fun s : BoxS wr.heap.size ⟨a, c, z, d, f, q⟩ => s.at_.2.2.2.2.2
      dsimp only at k0 k1 k2 k3 k4 k5
      haveI : Nonempty (BoxS wr.heap.size ⟨a, c, z, d, f, q⟩) := ⟨⟨_, hb0⟩⟩
      clear hW3 hbox hT3 hB3 hOv hs3 hvb hv HX HO HI c0 c1 c2 c3 c4 c5 hmm
      refine region_readsL (C := fun w' => ∃ s : BoxS wr.heap.size ⟨a, c, z, d, f, q⟩, w' = s.out) [0, 1, 3, 4, 7, 8] hmx (by kernel_rfl) rfl (by kernel_rfl) ⟨⟨_, hb0⟩, rfl⟩ ?_
      simp only [List.map_cons, List.map_nil, List.getD_cons_zero, List.getD_cons_succ]
      repeat (go_big_quiet_step (skip))
      refine wpQuiet_nil ?_
      show anyC _ _ _ _ _ 11 6 _ _ _
      clear k0 k1 k2 k3 k4 k5 hb0
      refine anyC_two (i := 2) (j := 9) (by kernel_rfl) (wpOp_of_list rfl ?_) (wpOp_of_list rfl ?_)
      · go_wp2_with (go_at_call 22; refine (HTr.out _).mono ?_; rintro e W1 ⟨rfl, hbW1⟩)
        have hS1 := below_on hS0 hbW1
        refine ⟨rfl, fun _ => ⟨⟨W1, HEK.out _ (grown_of_below hS1 _)⟩, rfl⟩, ?_⟩
        refine anyC_two (i := 5) (j := 9) (by kernel_rfl) (wpOp_of_list rfl ?_) (wpOp_of_list rfl ?_)
        · go_wp2_with (go_at_call 22; refine (HTr.out _).mono ?_; rintro e W2 ⟨rfl, hbW2⟩)
          have hS2 := below_on hS1 hbW2
          refine ⟨rfl, fun _ => ⟨⟨W2, HEK.out _ (grown_of_below hS2 _)⟩, rfl⟩, ?_⟩
          refine anyC_two (i := 6) (j := 9) (by kernel_rfl) (wpOp_of_list rfl ?_) (wpOp_of_list rfl ?_)
          · have hlk := HLk.out _ hS2
            unfold tkey at hlk
            go_wp2
            clear hlk
            refine ⟨rfl, fun _ => ⟨⟨W2, HEK.out _ (grown_of_below hS2 _)⟩, rfl⟩, ?_⟩
            refine anyC_one (i := 9) (by kernel_rfl) (wpOp_of_list rfl ?_)
            go_wp2
            have hS3 := below_al hS2 (.cells #[.int .i64 z] 3)
            refine ⟨rfl, fun _ => ⟨⟨_, HEK.out _ (grown_of_below hS3 _)⟩, rfl⟩, ?_⟩
            have hcell : (W2.alloc (.cells #[.int .i64 z] 3)).cell? ⟨W2.heap.size, 0, none⟩ = some (.int .i64 z) := cell_new0 W2 _ _
            have HS := Lib.hid hS3
            have HCb := Lib.hid hcell
            refine anyC_one (i := 10) (by kernel_rfl) (wpOp_of_list rfl ?_)
            refine wpList_append_own_at _ rfl _ _ 51 rfl (w.heap.size + 1) 3 i0 (.int .i64 0) 1 8 Try.underlying51 hi hz0 hz1 hz2 rfl (by decide) v _ _ rfl (HOv.out.below HS.out) ⟨W2.heap.size, 0, none⟩ 1 1 [.int .i64 z] rfl rfl (cell_at HCb.out) (one_int .i64 z) (by have := HGL.out; unfold maxLen; omega) (by have := HGL.out; omega) (Nat.le_trans HBs.out HS.out.size) ?_
            intro v' wA hOA hgA _ hloc
            have hgA' := (grown_of_below HS.out v.ownBlock).trans hgA
            refine ⟨rfl, fun _ => ⟨⟨wA, HEK.out _ hgA'⟩, rfl⟩, ?_⟩
            obtain ⟨w2, D', hrun, hT2, hg2⟩ := HT.out.put (by unfold maxLen; omega) HA.out HC.out HV.out hgA' (Owns.push hOA) (hloc.imp id (fun h => ⟨_, h, HS.out.size⟩))
            unfold tkey at hrun
            refine anyC_one (i := 11) (by kernel_rfl) (wpOp_of_list rfl ?_)
            go_wp2
            refine ⟨rfl, fun h => absurd rfl h, anyC_end (by kernel_rfl) ⟨rfl, ?_⟩⟩
            go_wp2
            go_roundw
            case rel => exact ⟨k + 1, D', by omega, by congr 1, Lib.hid ⟨by rw [HWT.out] at hT2; exact hT2, HBW.out _ _ hgA' hg2⟩⟩
            case measure => simp [intOf]; omega
          · go_wp2
            have hS3 := below_al hS2 (.cells #[.int .i64 z] 3)
            refine ⟨rfl, fun _ => ⟨⟨_, HEK.out _ (grown_of_below hS3 _)⟩, rfl⟩, ?_⟩
            have hcell : (W2.alloc (.cells #[.int .i64 z] 3)).cell? ⟨W2.heap.size, 0, none⟩ = some (.int .i64 z) := cell_new0 W2 _ _
            refine anyC_one (i := 6) (by kernel_rfl) (wpOp_of_list rfl ?_)
            have hlk := HLk.out _ hS3
            unfold tkey at hlk
            go_wp2
            clear hlk
            refine ⟨rfl, fun _ => ⟨⟨_, HEK.out _ (grown_of_below hS3 _)⟩, rfl⟩, ?_⟩
            have HS := Lib.hid hS3
            have HCb := Lib.hid hcell
            refine anyC_one (i := 10) (by kernel_rfl) (wpOp_of_list rfl ?_)
            refine wpList_append_own_at _ rfl _ _ 51 rfl (w.heap.size + 1) 3 i0 (.int .i64 0) 1 8 Try.underlying51 hi hz0 hz1 hz2 rfl (by decide) v _ _ rfl (HOv.out.below HS.out) ⟨W2.heap.size, 0, none⟩ 1 1 [.int .i64 z] rfl rfl (cell_at HCb.out) (one_int .i64 z) (by have := HGL.out; unfold maxLen; omega) (by have := HGL.out; omega) (Nat.le_trans HBs.out HS.out.size) ?_
            intro v' wA hOA hgA _ hloc
            have hgA' := (grown_of_below HS.out v.ownBlock).trans hgA
            refine ⟨rfl, fun _ => ⟨⟨wA, HEK.out _ hgA'⟩, rfl⟩, ?_⟩
            obtain ⟨w2, D', hrun, hT2, hg2⟩ := HT.out.put (by unfold maxLen; omega) HA.out HC.out HV.out hgA' (Owns.push hOA) (hloc.imp id (fun h => ⟨_, h, HS.out.size⟩))
            unfold tkey at hrun
            refine anyC_one (i := 11) (by kernel_rfl) (wpOp_of_list rfl ?_)
            go_wp2
            refine ⟨rfl, fun h => absurd rfl h, anyC_end (by kernel_rfl) ⟨rfl, ?_⟩⟩
            go_wp2
            go_roundw
            case rel => exact ⟨k + 1, D', by omega, by congr 1, Lib.hid ⟨by rw [HWT.out] at hT2; exact hT2, HBW.out _ _ hgA' hg2⟩⟩
            case measure => simp [intOf]; omega
        · go_wp2
          have hS2 := below_al hS1 (.cells #[.int .i64 z] 3)
          refine ⟨rfl, fun _ => ⟨⟨_, HEK.out _ (grown_of_below hS2 _)⟩, rfl⟩, ?_⟩
          have hcell : (W1.alloc (.cells #[.int .i64 z] 3)).cell? ⟨W1.heap.size, 0, none⟩ = some (.int .i64 z) := cell_new0 W1 _ _
          refine anyC_one (i := 5) (by kernel_rfl) (wpOp_of_list rfl ?_)
          go_wp2_with (go_at_call 22; refine (HTr.out _).mono ?_; rintro e W2 ⟨rfl, hbW2⟩)
          have hS3 := below_on hS2 hbW2
          refine ⟨rfl, fun _ => ⟨⟨W2, HEK.out _ (grown_of_below hS3 _)⟩, rfl⟩, ?_⟩
          have hcell2 := (hbW2.cell (p := ⟨W1.heap.size, 0, none⟩) (by simp)).trans hcell
          refine anyC_one (i := 6) (by kernel_rfl) (wpOp_of_list rfl ?_)
          have hlk := HLk.out _ hS3
          unfold tkey at hlk
          go_wp2
          clear hlk
          refine ⟨rfl, fun _ => ⟨⟨W2, HEK.out _ (grown_of_below hS3 _)⟩, rfl⟩, ?_⟩
          have HS := Lib.hid hS3
          have HCb := Lib.hid hcell2
          refine anyC_one (i := 10) (by kernel_rfl) (wpOp_of_list rfl ?_)
          refine wpList_append_own_at _ rfl _ _ 51 rfl (w.heap.size + 1) 3 i0 (.int .i64 0) 1 8 Try.underlying51 hi hz0 hz1 hz2 rfl (by decide) v _ _ rfl (HOv.out.below HS.out) ⟨W1.heap.size, 0, none⟩ 1 1 [.int .i64 z] rfl rfl (cell_at HCb.out) (one_int .i64 z) (by have := HGL.out; unfold maxLen; omega) (by have := HGL.out; omega) (Nat.le_trans HBs.out HS.out.size) ?_
          intro v' wA hOA hgA _ hloc
          have hgA' := (grown_of_below HS.out v.ownBlock).trans hgA
          refine ⟨rfl, fun _ => ⟨⟨wA, HEK.out _ hgA'⟩, rfl⟩, ?_⟩
          obtain ⟨w2, D', hrun, hT2, hg2⟩ := HT.out.put (by unfold maxLen; omega) HA.out HC.out HV.out hgA' (Owns.push hOA) (hloc.imp id (fun h => ⟨_, h, HS.out.size⟩))
          unfold tkey at hrun
          refine anyC_one (i := 11) (by kernel_rfl) (wpOp_of_list rfl ?_)
          go_wp2
          refine ⟨rfl, fun h => absurd rfl h, anyC_end (by kernel_rfl) ⟨rfl, ?_⟩⟩
          go_wp2
          go_roundw
          case rel => exact ⟨k + 1, D', by omega, by congr 1, Lib.hid ⟨by rw [HWT.out] at hT2; exact hT2, HBW.out _ _ hgA' hg2⟩⟩
          case measure => simp [intOf]; omega
      · go_wp2
        have hS1 := below_al hS0 (.cells #[.int .i64 z] 3)
        refine ⟨rfl, fun _ => ⟨⟨_, HEK.out _ (grown_of_below hS1 _)⟩, rfl⟩, ?_⟩
        have hcell : (W3.drew.alloc (.cells #[.int .i64 z] 3)).cell? ⟨W3.drew.heap.size, 0, none⟩ = some (.int .i64 z) := cell_new0 W3.drew _ _
        refine anyC_one (i := 2) (by kernel_rfl) (wpOp_of_list rfl ?_)
        go_wp2_with (go_at_call 22; refine (HTr.out _).mono ?_; rintro e W1 ⟨rfl, hbW1⟩)
        have hS2 := below_on hS1 hbW1
        refine ⟨rfl, fun _ => ⟨⟨W1, HEK.out _ (grown_of_below hS2 _)⟩, rfl⟩, ?_⟩
        have hcell2 := (hbW1.cell (p := ⟨W3.heap.size, 0, none⟩) (World.block_lt_of_cell? _ _ hcell)).trans hcell
        refine anyC_one (i := 5) (by kernel_rfl) (wpOp_of_list rfl ?_)
        go_wp2_with (go_at_call 22; refine (HTr.out _).mono ?_; rintro e W2 ⟨rfl, hbW2⟩)
        have hS3 := below_on hS2 hbW2
        refine ⟨rfl, fun _ => ⟨⟨W2, HEK.out _ (grown_of_below hS3 _)⟩, rfl⟩, ?_⟩
        have hcell3 := (hbW2.cell (p := ⟨W3.heap.size, 0, none⟩) (World.block_lt_of_cell? _ _ hcell2)).trans hcell2
        refine anyC_one (i := 6) (by kernel_rfl) (wpOp_of_list rfl ?_)
        have hlk := HLk.out _ hS3
        unfold tkey at hlk
        go_wp2
        clear hlk
        refine ⟨rfl, fun _ => ⟨⟨W2, HEK.out _ (grown_of_below hS3 _)⟩, rfl⟩, ?_⟩
        have HS := Lib.hid hS3
        have HCb := Lib.hid hcell3
        refine anyC_one (i := 10) (by kernel_rfl) (wpOp_of_list rfl ?_)
        refine wpList_append_own_at _ rfl _ _ 51 rfl (w.heap.size + 1) 3 i0 (.int .i64 0) 1 8 Try.underlying51 hi hz0 hz1 hz2 rfl (by decide) v _ _ rfl (HOv.out.below HS.out) ⟨W3.heap.size, 0, none⟩ 1 1 [.int .i64 z] rfl rfl (cell_at HCb.out) (one_int .i64 z) (by have := HGL.out; unfold maxLen; omega) (by have := HGL.out; omega) (Nat.le_trans HBs.out HS.out.size) ?_
        intro v' wA hOA hgA _ hloc
        have hgA' := (grown_of_below HS.out v.ownBlock).trans hgA
        refine ⟨rfl, fun _ => ⟨⟨wA, HEK.out _ hgA'⟩, rfl⟩, ?_⟩
        obtain ⟨w2, D', hrun, hT2, hg2⟩ := HT.out.put (by unfold maxLen; omega) HA.out HC.out HV.out hgA' (Owns.push hOA) (hloc.imp id (fun h => ⟨_, h, HS.out.size⟩))
        unfold tkey at hrun
        refine anyC_one (i := 11) (by kernel_rfl) (wpOp_of_list rfl ?_)
        go_wp2
        refine ⟨rfl, fun h => absurd rfl h, anyC_end (by kernel_rfl) ⟨rfl, ?_⟩⟩
        go_wp2
        go_roundw
        case rel => exact ⟨k + 1, D', by omega, by congr 1, Lib.hid ⟨by rw [HWT.out] at hT2; exact hT2, HBW.out _ _ hgA' hg2⟩⟩
        case measure => simp [intOf]; omega
    · have hke : es.take k = es := List.take_of_length_le (by omega)
      have hTr : Tries wr w.heap.size k (w.heap.size + 1) D (wins es) := by have := HI.out.1; rwa [hke] at this
      have hOwn := hTr.own
      have HAp := Lib.hid hTr.apart
      have HB := Lib.hid HI.out.2
      have HT := Lib.hid hTr
      have hwr : w.heap.size ≤ wr.heap.size := HI.out.2.size
      obtain ⟨rr, hrr⟩ : ∃ rr, rr = wr.heap.size := ⟨_, rfl⟩
      have hOk := Lib.hid (fun a c => wins_ok HO.out a c)
      have HLn := Lib.hid (fun a c => wins_len es a c)
      clear HX HI hTr hke hi hz0 hz1 hz2 hmm
      go_wp2_with (at_range; refine wpList_range_own _ rfl _ 50 rfl 45 51 law_try Try.underlying50 opq w.heap.size k D rfl hOwn ?_; intro w0 hrg0 hg0 hs0)
      go_frame
      rw [← hrr] at hrg0 hwr ⊢
      have HS := Lib.hid (RngInv.start HT.out hg0 HB.out)
      have HR0 := Lib.hid hrg0
      clear hOwn hrg0 hg0 hs0 HT HB hrr
      go_loopw [36] (fun _ ws => ∃ (left : Lit → Bool) (cnt : Nat), Hid (ws.ranges Try.prog 45 opq w.heap.size rr k D left cnt ∧ RngInv w (w.heap.size + 1) D (wins es) left ws)) (fun _ ws => ws.rangeLeft w.heap.size rr)
      case atStart => exact ⟨_, _, Lib.hid ⟨HR0.out, HS.out⟩⟩
      case round =>
        clear HS HR0
        obtain ⟨left, cnt, HI⟩ := hrel
        have hrg := HI.out.1
        go_wp2_with (at_next; refine wpList_next_ranges _ rfl _ rfl 45 law_try opq (fun p : Int × Int => tkey p.1 p.2) (fun v : Value => v) (fun key kl h => by obtain ⟨a, b, e, _⟩ := key_inv h; exact ⟨(a, b), e⟩) (fun v y _ => ⟨v, rfl⟩) w.heap.size rr k D left cnt rfl hrg ?_ ?_)
        · intro _ hl0
          have HR : Hid (sparse es = true) := Lib.hid (HI.out.2.done HO.out hl0)
          have HB := Lib.hid HI.out.2.2.2
          clear hl0 hrg HI
          go_wp2
          go_ret2
          exact ⟨ret_be HR.out.symm, HB.out⟩
        · intro a c v kl y ys w1 cnt1 hkey hlk hRv hat hrg1 hlt1 hg1 hs1 hen
          obtain ⟨a', c', e, hoa, hoc, rfl⟩ := key_inv hkey
          simp only [tkey, Value.agg.injEq] at e
          obtain ⟨rfl, rfl⟩ : a = a' ∧ c = c' := by simpa using e
          have hy : y = .held v := by
            unfold opq at hRv
            simp at hRv
            exact hRv.1.symm
          rw [hy] at hat
          obtain ⟨u, hu, hOu⟩ := HI.out.2.1 a c hoa hoc hlk
          obtain rfl : u = v := by
            rw [hat] at hu
            cases hu
            rfl
          have hO1 : Owns .i64 3 w1 (w.heap.size + 1) u (wins es a c) := World.ownsRow.kept hOu hg1 (.inr (row_ne_iter hOu hrg).symm)
          obtain ⟨x1, cp1, rfl, -, -, -, -⟩ := hO1.form
          have HAp1 := Lib.hid (apart_any x1 _ cp1 (w.heap.size + 1) (wins es a c) w1 hO1 rfl (by have := HLn.out a c; omega) (hOk.out a c))
          have hub : some w.heap.size ≠ (Value.slice x1 (wins es a c).length cp1).ownBlock := fun e => by have := hO1.ownBlock _ e.symm; omega
          have hur : some rr ≠ (Value.slice x1 (wins es a c).length cp1).ownBlock := row_ne_iter hO1 hrg1
          have HST := Lib.hid (fun ws2 (hg2 : w1.grownBy ws2 (Value.slice x1 (wins es a c).length cp1).ownBlock) (hF : Far (wins es a c)) => RngInv.step HI.out.2 HAp.out hrg hwr (Nat.le_succ _) hg1 hoa hoc (hat _) hO1 hg2 hF)
          have HBB := Lib.hid (fun ws2 (hg2 : w1.grownBy ws2 (Value.slice x1 (wins es a c).length cp1).ownBlock) => ((HI.out.2.2.2.grown hg1 HI.out.2.2.2.size (fun g e => by cases e; exact hwr)).grown hg2 (Nat.le_trans HI.out.2.2.2.size hg1.size) (fun g e => by have := hO1.ownBlock g e; omega) : Below w.heap.size w ws2))
          have HRG := Lib.hid (fun ws2 (hg2 : w1.grownBy ws2 (Value.slice x1 (wins es a c).length cp1).ownBlock) => hrg1.kept hg2 hub hur)
          have HLE : Hid (wr.rangeLeft w.heap.size rr = cnt) := Lib.hid hrg.left_eq
          have HNF := Lib.hid (fun h : ¬ Far (wins es a c) => not_far_sparse h)
          unfold tkey at hen
          clear hO1 hub hur hOu hu hat hy hRv hlk hrg1 hg1 hs1 hkey e HI hrg hoa hoc HAp HO
          cases hfar : decide (Far (wins es a c))
          · rw [hfar] at HAp1
            have HR := Lib.hid (HNF.out (of_decide_eq_false hfar))
            go_wp2_with (go_at_call 26; refine HAp1.out.mono ?_; rintro e w2 ⟨rfl, hg2⟩)
            go_ret2
            exact ⟨ret_be HR.out.symm, HBB.out _ hg2⟩
          · rw [hfar] at HAp1
            have HF := Lib.hid (of_decide_eq_true hfar)
            go_wp2_with (go_at_call 26; refine HAp1.out.mono ?_; rintro e w2 ⟨rfl, hg2⟩)
            go_roundw
            case rel => exact ⟨_, cnt1, Lib.hid ⟨HRG.out _ hg2, HST.out _ hg2 HF.out⟩⟩
            case measure => rw [(HRG.out _ hg2).left_eq, HLE.out]; exact hlt1

/-- What Sparse tells. -/
def spB (es : List Ev) : Bool := decide (es.length ≤ 1024) && sparse es
theorem spB_ok {es : List Ev} (h : es.length ≤ 1024) : spB es = sparse es := by unfold spB; rw [decide_eq_true h, Bool.true_and]
theorem spB_bad {es : List Ev} (h : 1024 < es.length) : spB es = false := by unfold spB; rw [decide_eq_false (by omega), Bool.false_and]

theorem Sparse_any (x : Option Addr) (n cap : Nat) (es : List Ev) (w : World) (hx : ReadsE w w.heap.size x es) (hn : es.length = n) (ho : EvsOk es) :
    Calls Try.prog 12 #[.slice x n cap] w (RetB (.tuple #[.bool (spB es), .int .i64 (chk n)]) w) := by
  by_cases h : 1024 < n
  · rw [spB_bad (by omega), chk_bad h]
    have HC := Lib.hid (check_any x n cap w)
    rw [chk_bad h] at HC
    clear hx ho h
    go_enter Try.func12, Try.ntmps12
    go_wp2_with (go_at_call 20; refine HC.out.mono ?_; rintro e w' ⟨rfl, rfl⟩)
    go_ret2
    exact ⟨rfl, Below.refl _ _⟩
  · rw [spB_ok (by omega), chk_ok (by omega)]
    exact Sparse_ok x n cap es w hx hn ho (by omega)

end Go.Proofs.Ytbdcpjpdonednaa
