/-
  An agenda: what it keeps, in which blocks; what Left, Next and Put of package agenda come to.
-/
import Derived.Test.YtfkidghillnknaaHeapPop
namespace Go.Proofs.Ytfkidghillnknaa
open Go.RowKit Go.Sort

/-- New blocks. -/
def Nw (w w' : World) (k : Nat) : Prop := w.heap.size ≤ k ∧ k < w'.heap.size
def Or2 (F G : Nat → Prop) (k : Nat) : Prop := F k ∨ G k
/-- No block in common. -/
def Dis (F G : Nat → Prop) : Prop := ∀ k, F k → ¬ G k
theorem Dis.symm {F G : Nat → Prop} (h : Dis F G) : Dis G F := fun k h1 h2 => h k h2 h1

/-- The agenda at A keeps the events es, in their order; p were put so far; all its blocks are of F. -/
def AG (w : World) (F : Nat → Prop) (A : Nat) (es : List Ev) (p : Nat) : Prop :=
  ∃ v d, HQ w A v p d ∧ Kp d es p ∧ EvsOk es ∧ F A ∧ (∀ g, v.ownBlock = some g → F g) ∧ ∀ k, F k → k < w.heap.size

section
variable {w w' : World} {F G : Nat → Prop} {A p : Nat} {es : List Ev}
theorem AG.keep (h : AG w F A es p) (hs : w.heap.size ≤ w'.heap.size) (hk : ∀ k, F k → w'.heap[k]? = w.heap[k]?) : AG w' F A es p := by
  obtain ⟨v, d, h1, h2, h3, h4, h5, h6⟩ := h
  exact ⟨v, d, h1.keep (hk A h4) (fun g e => hk g (h5 g e)), h2, h3, h4, h5, fun k c => Nat.lt_of_lt_of_le (h6 k c) hs⟩
theorem AG.but (h : AG w F A es p) (hb : But G w w') (hd : Dis F G) : AG w' F A es p := h.keep hb.size fun k c => hb.block k (by obtain ⟨_, _, _, _, _, _, _, h6⟩ := h; exact h6 k c) (hd k c)
theorem AG.below (h : AG w F A es p) (hb : Below w.heap.size w w') : AG w' F A es p := h.but (But.of_below (F := fun _ => False) hb) (fun _ _ c => c)
theorem AG.lt (h : AG w F A es p) : ∀ k, F k → k < w.heap.size := by obtain ⟨_, _, _, _, _, _, _, h6⟩ := h; exact h6
theorem AG.srd (h : AG w F A es p) : Srd es := by obtain ⟨_, _, _, h2, _⟩ := h; exact h2.srd
theorem AG.ok (h : AG w F A es p) : EvsOk es := by obtain ⟨_, _, _, _, h3, _⟩ := h; exact h3
theorem AG.more (h : AG w F A es p) (hF : ∀ k, F k → G k) (hG : ∀ k, G k → k < w.heap.size) : AG w G A es p := by
  obtain ⟨v, d, h1, h2, h3, h4, h5, h6⟩ := h
  exact ⟨v, d, h1, h2, h3, hF _ h4, fun g e => hF _ (h5 g e), hG⟩
end

theorem Left_any (A : Nat) (F : Nat → Prop) (es : List Ev) (p : Nat) (w : World) (h : AG w F A es p) :
    Calls Try.prog 17 #[.pointer (some ⟨A, 0, none⟩)] w fun e w' => e = .returned (.int .i64 es.length) ∧ w = w' := by
  obtain ⟨v, d, h1, h2, _⟩ := h
  obtain ⟨x, cap, rfl⟩ := h1.row.any
  have c0 := h1.own.c0
  rw [h2.size] at c0
  clear h1 h2
  go_enter Try.func17, Try.ntmps17
  go_wp2
  go_ret
  exact ⟨rfl, rfl⟩

theorem Left_nil (w : World) : Calls Try.prog 17 #[.pointer none] w fun e w' => e = .returned (.int .i64 0) ∧ w = w' := by
  go_enter Try.func17, Try.ntmps17
  go_wp2
  go_ret
  exact ⟨rfl, rfl⟩

/-- What Next tells. -/
def nxT : List Ev → Int
  | [] => 0
  | x :: _ => x.tk
def nxE : List Ev → Int
  | [] => 9
  | _ :: _ => 0

theorem Next_any (A : Nat) (F : Nat → Prop) (es : List Ev) (p : Nat) (w : World) (h : AG w F A es p) (hl : es.length < 100000) :
    Calls Try.prog 14 #[.pointer (some ⟨A, 0, none⟩)] w fun e w' => e = .returned (.tuple #[.int .i64 (nxT es), .int .i64 (nxE es)]) ∧ w = w' := by
  have HL := Lib.hid (Left_any A F es p w h)
  obtain ⟨v, d, h1, h2, _⟩ := h
  have hs := h2.size
  cases es with
  | nil =>
    unfold nxT nxE
    rw [List.length_nil] at HL
    go_enter Try.func14, Try.ntmps14
    go_wp2_with (go_at_call 17; refine HL.out.mono ?_; rintro e w2 ⟨rfl, rfl⟩)
    go_ret2
    exact ⟨rfl, rfl⟩
  | cons x es =>
    unfold nxT nxE
    obtain ⟨g, cap, rfl, hR⟩ := h1.row.form (by rw [hs]; simp)
    have c0 := h1.own.c0
    have k3 := hR.cell (i := 0) (c := 3) (by rw [hs]; simp) (by omega)
    have hx := h2.head
    obtain ⟨y, hy⟩ : ∃ y, y = d[0]! := ⟨_, rfl⟩
    rw [← hy] at k3 hx
    rw [hs] at c0
    have hlen : (x :: es).length = es.length + 1 := rfl
    rw [hlen] at HL c0 hl
    clear h1 h2 hR hs hy
    obtain ⟨⟨x1, x2, x3, x4, x5, x6⟩, x7⟩ := y
    subst hx
    simp only [enc, evc] at k3
    simp at k3
    dsimp only
    obtain ⟨m, hm⟩ : ∃ m, m = es.length + 1 := ⟨_, rfl⟩
    rw [← hm] at HL c0 hl
    have m0 : 0 < m := by omega
    have t : ((m : Int) == 0) = false := by simp; omega
    clear hm hlen
    go_enter Try.func14, Try.ntmps14
    go_wp2_with (go_at_call 17; refine HL.out.mono ?_; rintro e w2 ⟨rfl, rfl⟩)
    go_ret2
    exact ⟨rfl, rfl⟩

theorem Next_nil (w : World) : Calls Try.prog 14 #[.pointer none] w fun e w' => e = .returned (.tuple #[.int .i64 0, .int .i64 9]) ∧ w = w' := by
  have HL := Lib.hid (Left_nil w)
  go_enter Try.func14, Try.ntmps14
  go_wp2_with (go_at_call 17; refine HL.out.mono ?_; rintro e w2 ⟨rfl, rfl⟩)
  go_ret2
  exact ⟨rfl, rfl⟩

end Go.Proofs.Ytfkidghillnknaa
