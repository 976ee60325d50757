/-
  A slice of stages that came in, read as a list.
-/
import Derived.Test.YtgiahljjdpbflaaStage
import Derived.Deep.Slices
import Derived.Deep.Strs
namespace Go.Proofs.Ytgiahljjdpbflaa
open Go.RowKit Go.Deep

/-- A slice of stages that came in. -/
def StageIn (w : World) (a : Option Addr) (len cap : Nat) (ss : List Fac.Stg) : Prop := ss.length = len ∧ len ≤ cap ∧ cap ≤ maxLen ∧ ReadsS w w.heap.size a ss

instance : Inhabited Fac.Stg := ⟨noStg⟩
theorem cells_stg : Try.prog.cellsOf 36 = 3 := by kernel_rfl
theorem cells_int : Try.prog.cellsOf 3 = 1 := by kernel_rfl

theorem open_Stage {H : Type} {enc : TypeId × Value → H} {w : World} {base : Nat} {spare : Nat → Bool} {held : Bool} {fuel : Nat} {cs : List Value} {x : DataW H × List MemPlace} {a : Option Addr} {len cap : Nat}
    (h : DataW.trod enc Try.prog w base spare held fuel 22 cs = some x) (hcs : cs = [.slice a len cap]) : ∃ ss, StageIn w a len cap ss := by
  rcases open_slice Try.underlying22 h with ⟨e, _⟩ | ⟨ad, l, c, m, n, D, Pl, e, _, hl, hm, hmm, _, hx⟩
  · rw [hcs] at e
    simp at e
    obtain ⟨rfl, rfl, rfl⟩ := e
    exact ⟨[], rfl, Nat.le_refl _, by unfold maxLen; omega, ReadsS.nil⟩
  · rw [hcs] at e
    simp at e
    obtain ⟨rfl, rfl, rfl⟩ := e
    have hlm : len ≤ m := by rw [hmm]; split <;> omega
    have each : ∀ i, i < m → ∃ s : Fac.Stg, w.cell? (ad.add (i * 3)) = some (.int .i64 s.r) ∧ w.cell? (ad.add (i * 3 + 1)) = some (.int .i64 s.l) ∧ w.cell? (ad.add (i * 3 + 2)) = some (.int .i64 s.m) := by
      intro i hi
      obtain ⟨cs', h1, h2⟩ := hx i hi
      rw [cells_stg] at h1
      obtain ⟨_, hlen, hcell⟩ := World.cells?_some h1
      obtain ⟨y0, y1, y2, k, _, _, g0, g1, g2⟩ := trod_struct3 Try.underlying36 h2
      match cs', hlen with
      | [v0, v1, v2], _ =>
        dsimp only at g0 g1 g2
        rw [cells_int] at g0 g1 g2
        obtain ⟨n0, e0, _⟩ := DataW.trod_int Try.underlying3 g0
        obtain ⟨n1, e1, _⟩ := DataW.trod_int Try.underlying3 g1
        obtain ⟨n2, e2, _⟩ := DataW.trod_int Try.underlying3 g2
        simp at e0 e1 e2
        have c0 := hcell 0 (by omega)
        have c1 := hcell 1 (by omega)
        have c2 := hcell 2 (by omega)
        rw [add_add] at c0 c1 c2
        exact ⟨⟨n0, n1, n2⟩, by simpa [e0] using c0, by simpa [e1] using c1, by simpa [e2] using c2⟩
    obtain ⟨q, hq⟩ := choose_lt each
    refine ⟨(List.range len).map q, by simp, hl, hm, fun hn => ?_⟩
    simp at hn
    obtain ⟨b, off, spot⟩ := ad
    have hspot : spot = none := by simpa [Addr.add] using World.cell?_spot (hq 0 (by omega)).1
    subst hspot
    refine ⟨b, off, rfl, World.block_lt_of_cell? _ _ (by simpa [Addr.add] using (hq 0 (by omega)).1), fun j hj => ?_⟩
    simp at hj
    obtain ⟨c0, c1, c2⟩ := hq j (by omega)
    rw [Go.WideShapes.add_plain] at c0 c1 c2
    have eg : ((List.range len).map q).getD j noStg = q j := by simp [hj]
    rw [eg]
    exact ⟨c0, c1, c2⟩

end Go.Proofs.Ytgiahljjdpbflaa
