/-
  Slices of fixes, read as lists; one fix as a block of its own; fixes put behind a row of fixes that the call made for itself; two fixes, and two slices of fixes, compared.
-/
import Derived.Test.YtpdiilfpbkmebaaOwn
import Derived.Test.YtpdiilfpbkmebaaQuietTail
import Derived.Laws.Rows
import Derived.Laws.StructEq
namespace Go.Proofs.Ytpdiilfpbkmebaa
open Go.RowKit

/-- A fix. -/
structure Fx where
  ad : Int
  bd : Int
  gd : Int
  deriving DecidableEq

def noFx : Fx := ⟨0, 0, 0⟩
instance : Inhabited Fx := ⟨noFx⟩
def fxc (s : Fx) : List Value := [.int .i64 s.ad, .int .u64 s.bd, .int .u64 s.gd]
def fxV (s : Fx) : Value := .agg #[.int .i64 s.ad, .int .u64 s.bd, .int .u64 s.gd]
def fxO (s : Fx) : Obj := .cells #[.int .i64 s.ad, .int .u64 s.bd, .int .u64 s.gd] 43

/-- The three cells at offset o of block b are the fix s. -/
def FxAt (w : World) (b o : Nat) (s : Fx) : Prop :=
  w.cell? ⟨b, o, none⟩ = some (.int .i64 s.ad) ∧ w.cell? ⟨b, o + 1, none⟩ = some (.int .u64 s.bd) ∧ w.cell? ⟨b, o + 2, none⟩ = some (.int .u64 s.gd)
theorem FxAt.keep {w w' : World} {b o B : Nat} {s : Fx} (h : FxAt w b o s) (hb : b < B) (hk : ∀ p : Addr, p.block < B → w'.cell? p = w.cell? p) : FxAt w' b o s :=
  ⟨(hk _ hb).trans h.1, (hk _ hb).trans h.2.1, (hk _ hb).trans h.2.2⟩
theorem FxAt.lt {w : World} {b o : Nat} {s : Fx} (h : FxAt w b o s) : b < w.heap.size := World.block_lt_of_cell? _ _ h.1
theorem FxAt.below {w w' : World} {b o : Nat} {s : Fx} (h : FxAt w b o s) (hb : Below w.heap.size w w') : FxAt w' b o s := h.keep h.lt fun _ hp => hb.cell hp

/-- The address x holds the fixes fs, in blocks below B (asked only if there are any). -/
def ReadsF (w : World) (B : Nat) (x : Option Addr) (fs : List Fx) : Prop :=
  0 < fs.length → ∃ b off, x = some ⟨b, off, none⟩ ∧ b < B ∧ ∀ j, j < fs.length → FxAt w b (off + j * 3) (fs.getD j noFx)

section
variable {w w' : World} {B B' : Nat} {x : Option Addr} {fs : List Fx}
theorem ReadsF.nil : ReadsF w B x [] := fun h => absurd h (by simp)
theorem ReadsF.keep (h : ReadsF w B x fs) (hk : ∀ p : Addr, p.block < B → w'.cell? p = w.cell? p) : ReadsF w' B x fs := fun hn => by
  obtain ⟨b, off, e, hb, hc⟩ := h hn
  exact ⟨b, off, e, hb, fun j hj => (hc j hj).keep hb hk⟩
theorem ReadsF.more (h : ReadsF w B x fs) (hB : B ≤ B') : ReadsF w B' x fs := fun hn => by
  obtain ⟨b, off, e, hb, hc⟩ := h hn
  exact ⟨b, off, e, by omega, hc⟩
theorem ReadsF.below (h : ReadsF w B x fs) (hb : Below B w w') : ReadsF w' B x fs := h.keep fun _ hp => hb.cell hp
theorem ReadsF.since (h : ReadsF w w.heap.size x fs) (hb : Below w.heap.size w w') : ReadsF w' w'.heap.size x fs := (h.below hb).more hb.size
theorem ReadsF.draws (h : ReadsF w B x fs) (n : Nat) : ReadsF (w.drewN n) B x fs := h
end

/-- The value v is a slice of the fixes fs in a row that lies at or beyond block base, and nobody else's. -/
def OwnsF (w : World) (base : Nat) (v : Value) (fs : List Fx) : Prop := w.ownsRow base 43 3 v fs.length (fs.flatMap fxc)

theorem flatF_get : ∀ (fs : List Fx) (j : Nat), j < fs.length → ∀ c, c < 3 → (fs.flatMap fxc)[j * 3 + c]? = (fxc (fs.getD j noFx))[c]?
  | [], j, h, _, _ => by simp at h
  | s :: fs, 0, _, c, hc => by
    rw [List.flatMap_cons, List.getElem?_append_left (by simp [fxc]; omega)]
    simp
  | s :: fs, j + 1, h, c, hc => by
    have := flatF_get fs j (by simpa using h) c hc
    rw [List.flatMap_cons, List.getElem?_append_right (by simp [fxc]; omega)]
    rw [show (j + 1) * 3 + c - (fxc s).length = j * 3 + c by simp [fxc]; omega, this]
    simp
theorem flatF_len (fs : List Fx) : (fs.flatMap fxc).length = fs.length * 3 := by
  induction fs with
  | nil => rfl
  | cons s fs ih => rw [List.flatMap_cons, List.length_append, ih]; simp [fxc]; omega
theorem fxc_one (s : Fx) : ∀ v ∈ fxc s, v.oneCell' = true := by
  intro v hv
  simp [fxc] at hv
  rcases hv with rfl | rfl | rfl <;> rfl

section
variable {w w' : World} {base base' : Nat} {v : Value} {fs : List Fx}
theorem OwnsF.nil : OwnsF w base (.slice none 0 0) [] := World.ownsRow_nil _ _ _ _
theorem OwnsF.mono (h : OwnsF w base v fs) (hb : base' ≤ base) : OwnsF w base' v fs := World.ownsRow.mono h hb
theorem OwnsF.draws (h : OwnsF w base v fs) (n : Nat) : OwnsF (w.drewN n) base v fs := h
theorem OwnsF.still (h : OwnsF w base v fs) (hk : ∀ g, v.ownBlock = some g → w'.heap[g]? = w.heap[g]?) : OwnsF w' base v fs := by
  refine ⟨h.1, ?_⟩
  rcases h.2 with h2 | ⟨g, cap, cur, e1, e2, e3, e4⟩
  · exact .inl h2
  · exact .inr ⟨g, cap, cur, e1, e2, (hk g (by rw [e1]; rfl)).trans e3, e4⟩
theorem OwnsF.inside (h : OwnsF w base v fs) {g : Nat} (hg : v.ownBlock = some g) : base ≤ g ∧ g < w.heap.size := World.ownsRow.lt h g hg
theorem OwnsF.below (h : OwnsF w base v fs) (hb : Below w.heap.size w w') : OwnsF w' base v fs := h.still fun g e => hb.block g (h.inside e).2
theorem OwnsF.alloc (h : OwnsF w base v fs) (o : Obj) : OwnsF (w.alloc o) base v fs := World.ownsRow.alloc h o
theorem OwnsF.form (h : OwnsF w base v fs) : ∃ x cap, v = .slice x fs.length cap ∧ fs.length ≤ cap ∧ cap ≤ maxLen ∧ ReadsF w w.heap.size x fs := by
  rcases h.2 with ⟨e1, e2⟩ | ⟨g, cap, cur, e1, e2, e3, e4, e5, e6, e7⟩
  · exact ⟨none, 0, by rw [e1, e2], by omega, by unfold maxLen; omega, fun hn => by omega⟩
  · have hg : g < w.heap.size := by
      rcases Nat.lt_or_ge g w.heap.size with hlt | hge
      · exact hlt
      · rw [Array.getElem?_eq_none hge] at e3; cases e3
    refine ⟨some ⟨g, 0, none⟩, cap, e1, e4, e5, fun hn => ⟨g, 0, rfl, hg, fun j hj => ?_⟩⟩
    subst e1
    have hl := flatF_len fs
    have each : ∀ c, c < 3 → w.cell? ⟨g, 0 + j * 3 + c, none⟩ = (fxc (fs.getD j noFx))[c]? := fun c hc => by
      rw [Nat.zero_add, World.ownsRow.cellAt h (j * 3 + c) (by omega), flatF_get fs j hj c hc]
    exact ⟨each 0 (by omega), each 1 (by omega), each 2 (by omega)⟩
end

theorem info_fx : (Try.prog.info? 43).map (fun i => (i.zero, i.size, i.bytes)) = some (some (.agg #[.int .i64 0, .int .u64 0, .int .u64 0]), 3, 24) := by kernel_rfl

theorem cell_fx_new (w : World) (s : Fx) : ∀ j u, (fxc s)[j]? = some u → (w.alloc (fxO s)).cell? ((⟨w.heap.size, 0, none⟩ : Addr).add j) = some u := by
  unfold fxO
  intro j u hj
  match j, hj with
  | 0, hj => simp [fxc] at hj; subst hj; simp [Addr.add]
  | 1, hj => simp [fxc] at hj; subst hj; simp [Addr.add]
  | 2, hj => simp [fxc] at hj; subst hj; simp [Addr.add]
  | n + 3, hj => simp [fxc] at hj

/-- One fix put behind a row of fixes of the call's own: and where the row lies then. -/
theorem wpList_append_fx {w : World} {ops : Array Oper} {rest : List Oper} {o : Oper} {a : Act} {Q : Exit → Act → World → Prop} (hgd : o.guard = none) (s x : Operand)
    (ho : o.op = .call { callee := .builtin .append, args := #[s, x], argTypes := #[33, 33] }) (base : Nat)
    (v : Value) (fs : List Fx) (hs : a.eval s = v) (hown : OwnsF w base v fs) (ad : Addr) (cap : Nat) (y : Fx) (hx : a.eval x = .slice (some ad) 1 cap) (hsrc : ∀ j u, (fxc y)[j]? = some u → w.cell? (ad.add j) = some u) (hb : fs.length + 1 ≤ 1000000) (hbase : base ≤ w.heap.size)
    (h : ∀ v' w', OwnsF w' base v' (fs ++ [y]) → w.grownBy w' v.ownBlock → (∀ g, v'.ownBlock = some g → v.ownBlock = some g ∨ w.heap.size ≤ g) → wpList Try.prog ops Q rest (a.put o.dst v') w') : wpList Try.prog ops Q (o :: rest) a w := by
  obtain ⟨i0, hi, hz0, hz1, hz2⟩ := info_parts info_fx
  refine wpList_append_lies w hgd s x _ ho base 43 i0 (.agg #[.int .i64 0, .int .u64 0, .int .u64 0]) 3 24 Try.underlying33 hi hz0 hz1 hz2 rfl (by decide) v fs.length (fs.flatMap fxc) hs hown ad 1 cap (fxc y) hx rfl hsrc (fxc_one y) (by omega) (by unfold maxLen; omega) (by omega) hbase _ rfl ?_
  intro g cp w' hown' hg hat _
  refine h _ w' ?_ hg (fun g' e => ?_)
  · unfold OwnsF
    rw [List.length_append, List.flatMap_append]
    simpa using hown'
  · have : g = g' := by simpa [Value.ownBlock] using e
    subst this
    exact hat.imp id fun c => by omega

theorem fx_guard : Try.prog.eqGuardType Try.prog.depth 43 = false := by kernel_rfl

theorem fx_held : Try.prog.stoodInHeld 43 = false := by kernel_rfl

theorem neq_fx (s t : Fx) (w : World) : (binOp .neq 43 (fxV s) (fxV t)).run Try.prog w = .ok (.bool (!decide (s = t))) w := by
  obtain ⟨a, b, c⟩ := s
  obtain ⟨a', b', c'⟩ := t
  unfold fxV
  rw [run_neq_struct, run_equalIn_struct w 9999 _ _ _ (by simp [Program.fieldsOf, Try.underlying43]) fx_held]
  simp [Program.fieldsOf, Try.underlying43, Op.eqFields, go_sem]
  by_cases h1 : a = a' <;> by_cases h2 : b = b' <;> by_cases h3 : c = c' <;> simp [h1, h2, h3]

set_option maxHeartbeats 1000000 in
theorem sameF_any (x y : Option Addr) (n m cap cap' : Nat) (xs ys : List Fx) (w : World) (B : Nat) (hx : ReadsF w B x xs) (hy : ReadsF w B y ys) (hn : xs.length = n) (hm : ys.length = m) (hl : n ≤ 9223372036854775807) (hl' : m ≤ 9223372036854775807) :
    Calls Try.prog 20 #[.slice x n cap, .slice y m cap'] w (RetQ (.bool (decide (xs = ys))) w) := by
  subst hn
  subst hm
  have HX := Lib.hid hx; clear hx
  have HY := Lib.hid hy; clear hy
  by_cases hnm : xs.length = ys.length
  · have t : ((xs.length : Int) != (ys.length : Int)) = false := by rw [hnm]; simp
    have HN := Lib.hid hnm; clear hnm
    go_enter Try.func20, Try.ntmps20
    go_wp2
    go_loopw [13] (fun i wr => ∃ k q : Nat, k ≤ xs.length ∧ i = .int .i64 k ∧ wr = w.drewN q ∧ Hid (∀ j, j < k → xs.getD j noFx = ys.getD j noFx)) (fun i _ => xs.length - (intOf i).toNat)
    case atStart => exact ⟨0, 0, Nat.zero_le _, rfl, rfl, Lib.hid (fun j hj => by omega)⟩
    case round =>
      obtain ⟨k, q, hk, rfl, rfl, HA⟩ := hrel
      by_cases hlt : k < xs.length
      · have hlt' : k < ys.length := by have := HN.out; omega
        obtain ⟨b, off, rfl, hb, hc⟩ := HX.out (by omega)
        obtain ⟨b', off', rfl, hb', hc'⟩ := HY.out (by omega)
        have hcu := hc k hlt
        have hcv := hc' k hlt'
        obtain ⟨u, hu⟩ : ∃ u, u = xs.getD k noFx := ⟨_, rfl⟩
        obtain ⟨v, hv⟩ : ∃ v, v = ys.getD k noFx := ⟨_, rfl⟩
        rw [← hu] at hcu
        rw [← hv] at hcv
        have hne := fun w => neq_fx u v w
        obtain ⟨u1, u2, u3⟩ := u
        obtain ⟨v1, v2, v3⟩ := v
        obtain ⟨c1, c2, c3⟩ := hcu
        obtain ⟨e1, e2, e3⟩ := hcv
        unfold fxV at hne
        dsimp only at c1 c2 c3 e1 e2 e3 hne
        clear hc hc' HX HY
        have g1 := run_eqGuard_agg (P := Try.prog) (hm := fx_guard)
        by_cases he : (⟨u1, u2, u3⟩ : Fx) = ⟨v1, v2, v3⟩
        · have t2 : (!decide ((⟨u1, u2, u3⟩ : Fx) = ⟨v1, v2, v3⟩)) = false := by rw [decide_eq_true he]; rfl
          have HA' : Hid (∀ j, j < k + 1 → xs.getD j noFx = ys.getD j noFx) := Lib.hid (fun j hj => by
            by_cases e : j = k
            · rw [e, ← hu, ← hv]; exact he
            · exact HA.out j (by omega))
          rw [t2] at hne
          clear he hu hv t2
          go_wp2
          go_quiet (fail)
          go_wp2
          go_roundw
          case rel => exact ⟨k + 1, _, by omega, by go_num, rfl, HA'⟩
          case measure => simp [intOf]; omega
        · have t2 : (!decide ((⟨u1, u2, u3⟩ : Fx) = ⟨v1, v2, v3⟩)) = true := by rw [decide_eq_false he]; rfl
          have HE : Hid (decide (xs = ys) = false) := Lib.hid (decide_eq_false (fun e => he (by rw [hu, hv, e])))
          rw [t2] at hne
          clear he hu hv t2
          go_wp2
          go_quiet (fail)
          go_wp2
          go_ret
          exact ⟨ret_b HE.out.symm, q + nq, by rw [World.drewN_drewN]⟩
      · have HE : Hid (decide (xs = ys) = true) := Lib.hid (decide_eq_true (by
          apply List.ext_getElem HN.out
          intro j h1 h2
          have := HA.out j (by omega)
          simpa [h1, h2] using this))
        clear HX HY
        go_wp2
        go_ret
        exact ⟨ret_b HE.out.symm, _, rfl⟩
  · have t : ((xs.length : Int) != (ys.length : Int)) = true := by rw [bne_iff_ne]; omega
    have HE : Hid (decide (xs = ys) = false) := Lib.hid (decide_eq_false (fun e => hnm (by rw [e])))
    clear hnm
    go_enter Try.func20, Try.ntmps20
    go_wp2
    go_ret
    exact ⟨ret_b HE.out.symm, 0, rfl⟩

/-- Two rows that are built beside each other: numbers, and fixes. -/
def Beside (w wr : World) (v1 v2 : Value) (xs : List Int) (fs : List Fx) : Prop := Owns .u64 22 wr w.heap.size v1 xs ∧ OwnsF wr w.heap.size v2 fs ∧ (∀ g, v1.ownBlock = some g → v2.ownBlock ≠ some g) ∧ Below w.heap.size w wr

theorem Beside.quiet {w wr w' : World} {v1 v2 : Value} {xs : List Int} {fs : List Fx} (h : Beside w wr v1 v2 xs fs) (hb : Below wr.heap.size wr w') : Beside w w' v1 v2 xs fs :=
  ⟨h.1.still fun g e => hb.block g (h.1.inside e).2, h.2.1.below hb, h.2.2.1, h.2.2.2.trans (hb.mono h.2.2.2.size)⟩

theorem Beside.word {w W w' : World} {v1 v2 v' : Value} {xs ys : List Int} {fs : List Fx} (h : Beside w W v1 v2 xs fs) (hO : Owns .u64 22 w' w.heap.size v' ys) (hg : W.grownBy w' v1.ownBlock) (hat : ∀ g, v'.ownBlock = some g → v1.ownBlock = some g ∨ W.heap.size ≤ g) : Beside w w' v' v2 ys fs := by
  refine ⟨hO, h.2.1.still fun g e => hg.block g (h.2.1.inside e).2 fun c => h.2.2.1 g c.symm e, fun g e1 e2 => ?_, h.2.2.2.grown hg h.2.2.2.size fun k c => (h.1.inside c).1⟩
  rcases hat g e1 with c | c
  · exact h.2.2.1 g c e2
  · have := (h.2.1.inside e2).2; omega

theorem Beside.fix {w W w' : World} {v1 v2 v' : Value} {xs : List Int} {fs gs : List Fx} (h : Beside w W v1 v2 xs fs) (hO : OwnsF w' w.heap.size v' gs) (hg : W.grownBy w' v2.ownBlock) (hat : ∀ g, v'.ownBlock = some g → v2.ownBlock = some g ∨ W.heap.size ≤ g) : Beside w w' v1 v' xs gs := by
  refine ⟨h.1.still fun g e => hg.block g (h.1.inside e).2 fun c => h.2.2.1 g e c.symm, hO, fun g e1 e2 => ?_, h.2.2.2.grown hg h.2.2.2.size fun k c => (h.2.1.inside c).1⟩
  rcases hat g e2 with c | c
  · exact h.2.2.1 g e1 c
  · have := (h.1.inside e1).2; omega

end Go.Proofs.Ytpdiilfpbkmebaa
