/-
  Slices of stages, read as lists; the comparisons of two such slices and of two slices of integers.
-/
import Derived.Test.YtgiahljjdpbflaaMathFac
import Derived.Test.YtgiahljjdpbflaaRow
import Derived.Test.YtgiahljjdpbflaaSince
import Derived.Laws.StructEq
namespace Go.Proofs.Ytgiahljjdpbflaa
open Go.RowKit

def scells (s : Fac.Stg) : List Value := [.int .i64 s.r, .int .i64 s.l, .int .i64 s.m]
def noStg : Fac.Stg := ⟨0, 0, 0⟩

/-- The address x holds the stages ss, in blocks below B (asked only if there are any). -/
def ReadsS (w : World) (B : Nat) (x : Option Addr) (ss : List Fac.Stg) : Prop :=
  0 < ss.length → ∃ b off, x = some ⟨b, off, none⟩ ∧ b < B ∧ ∀ j, j < ss.length →
    w.cell? ⟨b, off + j * 3, none⟩ = some (.int .i64 (ss.getD j noStg).r) ∧ w.cell? ⟨b, off + j * 3 + 1, none⟩ = some (.int .i64 (ss.getD j noStg).l) ∧ w.cell? ⟨b, off + j * 3 + 2, none⟩ = some (.int .i64 (ss.getD j noStg).m)

section
variable {w w' : World} {B B' : Nat} {x : Option Addr} {ss : List Fac.Stg}
theorem ReadsS.nil : ReadsS w B x [] := fun h => absurd h (by simp)
theorem ReadsS.keep (h : ReadsS w B x ss) (hk : ∀ p : Addr, p.block < B → w'.cell? p = w.cell? p) : ReadsS w' B x ss := fun hn => by
  obtain ⟨b, off, e, hb, hc⟩ := h hn
  exact ⟨b, off, e, hb, fun j hj => ⟨(hk _ (by exact hb)).trans (hc j hj).1, (hk _ (by exact hb)).trans (hc j hj).2.1, (hk _ (by exact hb)).trans (hc j hj).2.2⟩⟩
theorem ReadsS.more (h : ReadsS w B x ss) (hB : B ≤ B') : ReadsS w B' x ss := fun hn => by
  obtain ⟨b, off, e, hb, hc⟩ := h hn
  exact ⟨b, off, e, by omega, hc⟩
theorem ReadsS.below (h : ReadsS w B x ss) (hb : Below B w w') : ReadsS w' B x ss := h.keep fun _ hp => hb.cell hp
theorem ReadsS.draws (h : ReadsS w B x ss) (n : Nat) : ReadsS (w.drewN n) B x ss := h
end

theorem ret_b {a b : Bool} (h : a = b) : Ending.returned (.bool a) = .returned (.bool b) := by rw [h]

set_option maxHeartbeats 1000000 in
theorem sameInts_any (x y : Option Addr) (n m cap cap' : Nat) (xs ys : List Int) (w : World) (B : Nat) (hx : Reads .i64 w B x xs) (hy : Reads .i64 w B y ys) (hn : xs.length = n) (hm : ys.length = m) (hl : n ≤ 140737488355328) (hl' : m ≤ 140737488355328) :
    Calls Try.prog 14 #[.slice x n cap, .slice y m cap'] w (RetQ (.bool (decide (xs = ys))) w) := by
  subst hn
  subst hm
  have HX := Lib.hid hx; clear hx
  have HY := Lib.hid hy; clear hy
  by_cases hnm : xs.length = ys.length
  · have t : ((xs.length : Int) != (ys.length : Int)) = false := by rw [hnm]; simp
    have HN := Lib.hid hnm; clear hnm
    go_enter Try.func14, Try.ntmps14
    go_wp2
    go_loopw [13] (fun i wr => ∃ k q : Nat, k ≤ xs.length ∧ i = .int .i64 k ∧ wr = w.drewN q ∧ Hid (∀ j, j < k → xs.getD j 0 = ys.getD j 0)) (fun i _ => xs.length - (intOf i).toNat)
    case atStart => exact ⟨0, 0, Nat.zero_le _, rfl, rfl, Lib.hid (fun j hj => by omega)⟩
    case round =>
      obtain ⟨k, q, hk, rfl, rfl, HA⟩ := hrel
      by_cases hlt : k < xs.length
      · have hlt' : k < ys.length := by have := HN.out; omega
        obtain ⟨b, off, rfl, hb, hc⟩ := HX.out (by omega)
        obtain ⟨b', off', rfl, hb', hc'⟩ := HY.out (by omega)
        have c1 := hc k hlt
        have c2 := hc' k hlt'
        obtain ⟨u, hu⟩ : ∃ u, u = xs.getD k 0 := ⟨_, rfl⟩
        obtain ⟨v, hv⟩ : ∃ v, v = ys.getD k 0 := ⟨_, rfl⟩
        rw [← hu] at c1
        rw [← hv] at c2
        by_cases he : u = v
        · have t2 : (u != v) = false := by rw [he]; simp
          have HA' : Hid (∀ j, j < k + 1 → xs.getD j 0 = ys.getD j 0) := Lib.hid (fun j hj => by
            by_cases e : j = k
            · rw [e, ← hu, ← hv]; exact he
            · exact HA.out j (by omega))
          clear he hu hv hc hc' HX HY
          go_wp2
          go_quiet (fail)
          go_wp2
          go_roundw
          case rel => exact ⟨k + 1, _, by omega, by go_num, rfl, HA'⟩
          case measure => simp [intOf]; omega
        · have t2 : (u != v) = true := by rw [bne_iff_ne]; exact he
          have HE : Hid (decide (xs = ys) = false) := Lib.hid (decide_eq_false (fun e => he (by rw [hu, hv, e])))
          clear he hu hv hc hc' HX HY
          go_wp2
          go_quiet (fail)
          go_wp2
          go_ret
          exact ⟨ret_b HE.out.symm, q + nq, by rw [World.drewN_drewN]⟩
      · have HE : Hid (decide (xs = ys) = true) := Lib.hid (decide_eq_true (by
          apply List.ext_getElem HN.out
          intro j h1 h2
          have := HA.out j (by omega)
          simpa [h1, h2] using this))
        clear HX HY
        go_wp2
        go_ret
        exact ⟨ret_b HE.out.symm, _, rfl⟩
  · have t : ((xs.length : Int) != (ys.length : Int)) = true := by rw [bne_iff_ne]; omega
    have HE : Hid (decide (xs = ys) = false) := Lib.hid (decide_eq_false (fun e => hnm (by rw [e])))
    clear hnm
    go_enter Try.func14, Try.ntmps14
    go_wp2
    go_ret
    exact ⟨ret_b HE.out.symm, 0, rfl⟩

theorem stg_guard : Try.prog.eqGuardType Try.prog.depth 36 = false := by kernel_rfl

theorem stg_held : Try.prog.stoodInHeld 36 = false := by kernel_rfl

theorem neq_stg (a b c d e f : Int) (w : World) :
    (binOp .neq 36 (.agg #[.int .i64 a, .int .i64 b, .int .i64 c]) (.agg #[.int .i64 d, .int .i64 e, .int .i64 f])).run Try.prog w = .ok (.bool (!decide ((⟨a, b, c⟩ : Fac.Stg) = ⟨d, e, f⟩))) w := by
  rw [run_neq_struct, run_equalIn_struct w 9999 _ _ _ (by simp [Program.fieldsOf, Try.underlying36]) stg_held]
  simp [Program.fieldsOf, Try.underlying36, Op.eqFields, go_sem]
  by_cases h1 : a = d <;> by_cases h2 : b = e <;> by_cases h3 : c = f <;> simp [h1, h2, h3]

set_option maxHeartbeats 1000000 in
theorem sameStages_any (x y : Option Addr) (n m cap cap' : Nat) (xs ys : List Fac.Stg) (w : World) (B : Nat) (hx : ReadsS w B x xs) (hy : ReadsS w B y ys) (hn : xs.length = n) (hm : ys.length = m) (hl : n ≤ 9223372036854775807) (hl' : m ≤ 9223372036854775807) :
    Calls Try.prog 15 #[.slice x n cap, .slice y m cap'] w (RetQ (.bool (decide (xs = ys))) w) := by
  subst hn
  subst hm
  have HX := Lib.hid hx; clear hx
  have HY := Lib.hid hy; clear hy
  by_cases hnm : xs.length = ys.length
  · have t : ((xs.length : Int) != (ys.length : Int)) = false := by rw [hnm]; simp
    have HN := Lib.hid hnm; clear hnm
    go_enter Try.func15, Try.ntmps15
    go_wp2
    go_loopw [13] (fun i wr => ∃ k q : Nat, k ≤ xs.length ∧ i = .int .i64 k ∧ wr = w.drewN q ∧ Hid (∀ j, j < k → xs.getD j noStg = ys.getD j noStg)) (fun i _ => xs.length - (intOf i).toNat)
    case atStart => exact ⟨0, 0, Nat.zero_le _, rfl, rfl, Lib.hid (fun j hj => by omega)⟩
    case round =>
      obtain ⟨k, q, hk, rfl, rfl, HA⟩ := hrel
      by_cases hlt : k < xs.length
      · have hlt' : k < ys.length := by have := HN.out; omega
        obtain ⟨b, off, rfl, hb, hc⟩ := HX.out (by omega)
        obtain ⟨b', off', rfl, hb', hc'⟩ := HY.out (by omega)
        obtain ⟨c1, c2, c3⟩ := hc k hlt
        obtain ⟨e1, e2, e3⟩ := hc' k hlt'
        obtain ⟨u, hu⟩ : ∃ u, u = xs.getD k noStg := ⟨_, rfl⟩
        obtain ⟨v, hv⟩ : ∃ v, v = ys.getD k noStg := ⟨_, rfl⟩
        rw [← hu] at c1 c2 c3
        rw [← hv] at e1 e2 e3
        obtain ⟨u1, u2, u3⟩ := u
        obtain ⟨v1, v2, v3⟩ := v
        dsimp only at c1 c2 c3 e1 e2 e3
        clear hc hc' HX HY
        have g1 := run_eqGuard_agg (P := Try.prog) (hm := stg_guard)
        by_cases he : (⟨u1, u2, u3⟩ : Fac.Stg) = ⟨v1, v2, v3⟩
        · have t2 : (!decide ((⟨u1, u2, u3⟩ : Fac.Stg) = ⟨v1, v2, v3⟩)) = false := by rw [decide_eq_true he]; rfl
          have HA' : Hid (∀ j, j < k + 1 → xs.getD j noStg = ys.getD j noStg) := Lib.hid (fun j hj => by
            by_cases e : j = k
            · rw [e, ← hu, ← hv]; exact he
            · exact HA.out j (by omega))
          have g3 := fun w => (neq_stg u1 u2 u3 v1 v2 v3 w).trans (by rw [t2])
          clear he hu hv t2
          go_wp2
          go_quiet (fail)
          go_wp2
          go_roundw
          case rel => exact ⟨k + 1, _, by omega, by go_num, rfl, HA'⟩
          case measure => simp [intOf]; omega
        · have t2 : (!decide ((⟨u1, u2, u3⟩ : Fac.Stg) = ⟨v1, v2, v3⟩)) = true := by rw [decide_eq_false he]; rfl
          have HE : Hid (decide (xs = ys) = false) := Lib.hid (decide_eq_false (fun e => he (by rw [hu, hv, e])))
          have g3 := fun w => (neq_stg u1 u2 u3 v1 v2 v3 w).trans (by rw [t2])
          clear he hu hv t2
          go_wp2
          go_quiet (fail)
          go_wp2
          go_ret
          exact ⟨ret_b HE.out.symm, q + nq, by rw [World.drewN_drewN]⟩
      · have HE : Hid (decide (xs = ys) = true) := Lib.hid (decide_eq_true (by
          apply List.ext_getElem HN.out
          intro j h1 h2
          have := HA.out j (by omega)
          simpa [h1, h2] using this))
        clear HX HY
        go_wp2
        go_ret
        exact ⟨ret_b HE.out.symm, _, rfl⟩
  · have t : ((xs.length : Int) != (ys.length : Int)) = true := by rw [bne_iff_ne]; omega
    have HE : Hid (decide (xs = ys) = false) := Lib.hid (decide_eq_false (fun e => hnm (by rw [e])))
    clear hnm
    go_enter Try.func15, Try.ntmps15
    go_wp2
    go_ret
    exact ⟨ret_b HE.out.symm, 0, rfl⟩

set_option maxHeartbeats 1000000 in
theorem equalStages_any (x y : Option Addr) (n m cap cap' : Nat) (xs ys : List Fac.Stg) (w : World) (B : Nat) (hx : ReadsS w B x xs) (hy : ReadsS w B y ys) (hn : xs.length = n) (hm : ys.length = m) (hl : n ≤ 9223372036854775807) (hl' : m ≤ 9223372036854775807) :
    Calls Try.prog 22 #[.slice x n cap, .slice y m cap'] w (RetQ (.bool (decide (xs = ys))) w) := by
  subst hn
  subst hm
  have HX := Lib.hid hx; clear hx
  have HY := Lib.hid hy; clear hy
  by_cases hnm : xs.length = ys.length
  · have t : ((xs.length : Int) != (ys.length : Int)) = false := by rw [hnm]; simp
    have HN := Lib.hid hnm; clear hnm
    go_enter Try.func22, Try.ntmps22
    go_wp2
    go_loopw [13] (fun i wr => ∃ k q : Nat, k ≤ xs.length ∧ i = .int .i64 k ∧ wr = w.drewN q ∧ Hid (∀ j, j < k → xs.getD j noStg = ys.getD j noStg)) (fun i _ => xs.length - (intOf i).toNat)
    case atStart => exact ⟨0, 0, Nat.zero_le _, rfl, rfl, Lib.hid (fun j hj => by omega)⟩
    case round =>
      obtain ⟨k, q, hk, rfl, rfl, HA⟩ := hrel
      by_cases hlt : k < xs.length
      · have hlt' : k < ys.length := by have := HN.out; omega
        obtain ⟨b, off, rfl, hb, hc⟩ := HX.out (by omega)
        obtain ⟨b', off', rfl, hb', hc'⟩ := HY.out (by omega)
        obtain ⟨c1, c2, c3⟩ := hc k hlt
        obtain ⟨e1, e2, e3⟩ := hc' k hlt'
        obtain ⟨u, hu⟩ : ∃ u, u = xs.getD k noStg := ⟨_, rfl⟩
        obtain ⟨v, hv⟩ : ∃ v, v = ys.getD k noStg := ⟨_, rfl⟩
        rw [← hu] at c1 c2 c3
        rw [← hv] at e1 e2 e3
        obtain ⟨u1, u2, u3⟩ := u
        obtain ⟨v1, v2, v3⟩ := v
        dsimp only at c1 c2 c3 e1 e2 e3
        clear hc hc' HX HY
        have g1 := run_eqGuard_agg (P := Try.prog) (hm := stg_guard)
        by_cases he : (⟨u1, u2, u3⟩ : Fac.Stg) = ⟨v1, v2, v3⟩
        · have t2 : (!decide ((⟨u1, u2, u3⟩ : Fac.Stg) = ⟨v1, v2, v3⟩)) = false := by rw [decide_eq_true he]; rfl
          have HA' : Hid (∀ j, j < k + 1 → xs.getD j noStg = ys.getD j noStg) := Lib.hid (fun j hj => by
            by_cases e : j = k
            · rw [e, ← hu, ← hv]; exact he
            · exact HA.out j (by omega))
          have g3 := fun w => (neq_stg u1 u2 u3 v1 v2 v3 w).trans (by rw [t2])
          clear he hu hv t2
          go_wp2
          go_quiet (fail)
          go_wp2
          go_roundw
          case rel => exact ⟨k + 1, _, by omega, by go_num, rfl, HA'⟩
          case measure => simp [intOf]; omega
        · have t2 : (!decide ((⟨u1, u2, u3⟩ : Fac.Stg) = ⟨v1, v2, v3⟩)) = true := by rw [decide_eq_false he]; rfl
          have HE : Hid (decide (xs = ys) = false) := Lib.hid (decide_eq_false (fun e => he (by rw [hu, hv, e])))
          have g3 := fun w => (neq_stg u1 u2 u3 v1 v2 v3 w).trans (by rw [t2])
          clear he hu hv t2
          go_wp2
          go_quiet (fail)
          go_wp2
          go_ret
          exact ⟨ret_b HE.out.symm, q + nq, by rw [World.drewN_drewN]⟩
      · have HE : Hid (decide (xs = ys) = true) := Lib.hid (decide_eq_true (by
          apply List.ext_getElem HN.out
          intro j h1 h2
          have := HA.out j (by omega)
          simpa [h1, h2] using this))
        clear HX HY
        go_wp2
        go_ret
        exact ⟨ret_b HE.out.symm, _, rfl⟩
  · have t : ((xs.length : Int) != (ys.length : Int)) = true := by rw [bne_iff_ne]; omega
    have HE : Hid (decide (xs = ys) = false) := Lib.hid (decide_eq_false (fun e => hnm (by rw [e])))
    clear hnm
    go_enter Try.func22, Try.ntmps22
    go_wp2
    go_ret
    exact ⟨ret_b HE.out.symm, 0, rfl⟩

/-- The value v is a slice of the stages ss in a row that lies at or beyond block base, and nobody else's. -/
def OwnsS (w : World) (base : Nat) (v : Value) (ss : List Fac.Stg) : Prop := w.ownsRow base 36 3 v ss.length (ss.flatMap scells)

theorem flat_get : ∀ (ss : List Fac.Stg) (j : Nat), j < ss.length → (ss.flatMap scells)[j * 3]? = some (.int .i64 (ss.getD j noStg).r) ∧ (ss.flatMap scells)[j * 3 + 1]? = some (.int .i64 (ss.getD j noStg).l) ∧ (ss.flatMap scells)[j * 3 + 2]? = some (.int .i64 (ss.getD j noStg).m)
  | [], j, h => by simp at h
  | s :: ss, 0, _ => by simp [scells]
  | s :: ss, j + 1, h => by
    have := flat_get ss j (by simpa using h)
    have e : ∀ c, ((s :: ss).flatMap scells)[(j + 1) * 3 + c]? = (ss.flatMap scells)[j * 3 + c]? := by
      intro c
      rw [List.flatMap_cons, List.getElem?_append_right (by simp [scells]; omega)]
      congr 1
      simp [scells]; omega
    refine ⟨?_, ?_, ?_⟩
    · have h0 := e 0; simp only [Nat.add_zero] at h0; rw [h0, this.1]; simp
    · rw [e 1, this.2.1]; simp
    · rw [e 2, this.2.2]; simp
theorem flat_len (ss : List Fac.Stg) : (ss.flatMap scells).length = ss.length * 3 := by
  induction ss with
  | nil => rfl
  | cons s ss ih => rw [List.flatMap_cons, List.length_append, ih]; simp [scells]; omega

section
variable {w w' : World} {base base' : Nat} {v : Value} {ss : List Fac.Stg}
theorem OwnsS.nil : OwnsS w base (.slice none 0 0) [] := World.ownsRow_nil _ _ _ _
theorem OwnsS.mono (h : OwnsS w base v ss) (hb : base' ≤ base) : OwnsS w base' v ss := World.ownsRow.mono h hb
theorem OwnsS.draws (h : OwnsS w base v ss) (n : Nat) : OwnsS (w.drewN n) base v ss := h
theorem OwnsS.keep (h : OwnsS w base v ss) (hk : ∀ g, base ≤ g → g < w.heap.size → w'.heap[g]? = w.heap[g]?) : OwnsS w' base v ss := by
  refine ⟨h.1, ?_⟩
  rcases h.2 with h2 | ⟨g, cap, cur, e1, e2, e3, e4⟩
  · exact .inl h2
  · have hg : g < w.heap.size := by
      rcases Nat.lt_or_ge g w.heap.size with hlt | hge
      · exact hlt
      · rw [Array.getElem?_eq_none hge] at e3; cases e3
    exact .inr ⟨g, cap, cur, e1, e2, (hk g e2 hg).trans e3, e4⟩
theorem OwnsS.below (h : OwnsS w base v ss) (hb : Below w.heap.size w w') : OwnsS w' base v ss := h.keep fun g _ hg => hb.block g hg
theorem OwnsS.form (h : OwnsS w base v ss) : ∃ x cap, v = .slice x ss.length cap ∧ ss.length ≤ cap ∧ cap ≤ maxLen ∧ ReadsS w w.heap.size x ss := by
  rcases h.2 with ⟨e1, e2⟩ | ⟨g, cap, cur, e1, e2, e3, e4, e5, e6, e7⟩
  · exact ⟨none, 0, by rw [e1, e2], by omega, by unfold maxLen; omega, fun hn => by omega⟩
  · have hg : g < w.heap.size := by
      rcases Nat.lt_or_ge g w.heap.size with hlt | hge
      · exact hlt
      · rw [Array.getElem?_eq_none hge] at e3; cases e3
    refine ⟨some ⟨g, 0, none⟩, cap, e1, e4, e5, fun hn => ⟨g, 0, rfl, hg, fun j hj => ?_⟩⟩
    subst e1
    obtain ⟨f1, f2, f3⟩ := flat_get ss j hj
    have hl := flat_len ss
    refine ⟨?_, ?_, ?_⟩
    · rw [Nat.zero_add, World.ownsRow.cellAt h (j * 3) (by omega), f1]
    · rw [Nat.zero_add, World.ownsRow.cellAt h (j * 3 + 1) (by omega), f2]
    · rw [Nat.zero_add, World.ownsRow.cellAt h (j * 3 + 2) (by omega), f3]
theorem OwnsS.push {s : Fac.Stg} (h : w.ownsRow base 36 3 v (ss.length + 1) (ss.flatMap scells ++ scells s)) : OwnsS w base v (ss ++ [s]) := by
  unfold OwnsS; rw [List.length_append, List.flatMap_append]; simpa using h
end

theorem info_stg : (Try.prog.info? 36).map (fun i => (i.zero, i.size, i.bytes)) = some (some (.agg #[.int .i64 0, .int .i64 0, .int .i64 0]), 3, 24) := by kernel_rfl

end Go.Proofs.Ytgiahljjdpbflaa
