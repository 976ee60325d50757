/-
  A map of tries (structs of two ints) to slices of ints that a call makes and fills: what it holds, key by key.
-/
import Derived.Test.YtbdcpjpdonednaaMathSparse
import Derived.Maps.OwnSet
import Derived.Maps.Views
import Derived.Maps.AppendAt
import Derived.Maps.RangeWalk
import Derived.DeepKeys4
namespace Go.Proofs.Ytbdcpjpdonednaa
open Go.RowKit Go.Maps

/-! The key. -/
theorem laid_all : laidOutB Try.prog = true := by kernel_rfl
theorem row_try : (45 : TypeId) < Try.prog.types.size := of_decide_eq_true (by kernel_rfl)
theorem wide_try : (match Try.prog.underlying 45 with | some (.array _ _) | some (.struct _) => true | _ => false) = true := by rw [Try.underlying45]
theorem law_try : Keyed Try.prog 45 := Keyed.of_law (deep_law_laid laid_all (m := 2) (by omega) row_try (by kernel_rfl) wide_try)
theorem kt_try : Try.prog.keyType 45 = true := by kernel_rfl
theorem cells_tryT : Try.prog.cellsOf 45 = 2 := by kernel_rfl
theorem cells_intT : Try.prog.cellsOf 3 = 1 := by kernel_rfl

def tkey (a b : Int) : Value := .agg #[.int .i64 a, .int .i64 b]
def OkI (a : Int) : Prop := -9223372036854775808 ≤ a ∧ a < 9223372036854775808
theorem OkI.wf {a : Int} (h : OkI a) : (Lit.int .i64 a).wf = true := WalkArith.wf_i64 ⟨h.1, by have := h.2; omega⟩
def klit (a b : Int) : Lit := .string (keyBytes [.int .i64 a, .int .i64 b])

theorem types_pos : ∃ n, Try.prog.types.size + 1 = n + 1 + 1 := by
  have h : 45 < Try.prog.types.size := row_try
  exact ⟨Try.prog.types.size - 1, by omega⟩
theorem key_ok {a b : Int} (ha : OkI a) (hb : OkI b) : keyOf Try.prog 45 (tkey a b) = some (klit a b) := by
  have hf : (tkey a b).formed Try.prog 45 = true := by
    unfold tkey Value.formed
    simp [Try.underlying45, cells_tryT]
  obtain ⟨n, hn⟩ := types_pos
  unfold keyOf
  simp only [Try.underlying45, kt_try, hf, Bool.and_self, if_true]
  rw [hn]
  simp [Program.keyLits, Try.underlying45, Try.underlying3, tkey, Value.cells, cells_tryT, cells_intT, ha.wf, hb.wf, klit]
theorem two_of {cs : Array Value} (h : cs.size = 2) : ∃ a b, cs = #[a, b] := by
  obtain ⟨l⟩ := cs
  match l, h with
  | [a, b], _ => exact ⟨a, b, rfl⟩
theorem lit_inv {n : Nat} {c : Value} {x : List Lit} (h : Try.prog.keyLits (n + 1) 3 [c] = some x) : ∃ a, c = .int .i64 a ∧ OkI a ∧ x = [.int .i64 a] := by
  unfold Program.keyLits at h
  rw [Try.underlying3] at h
  cases c <;> simp at h
  obtain ⟨⟨rfl, hw⟩, rfl⟩ := h
  exact ⟨_, rfl, i64_of hw, rfl⟩
theorem key_inv {key : Value} {kl : Lit} (h : keyOf Try.prog 45 key = some kl) : ∃ a b, key = tkey a b ∧ OkI a ∧ OkI b ∧ kl = klit a b := by
  obtain ⟨n, hn⟩ := types_pos
  unfold keyOf at h
  simp only [Try.underlying45, kt_try, Bool.true_and] at h
  cases hf : key.formed Try.prog 45
  · rw [hf] at h; simp at h
  · rw [hf, if_pos rfl, hn] at h
    cases key <;> simp [Value.formed, Try.underlying45, cells_tryT] at hf
    rename_i cs
    obtain ⟨c0, c1, rfl⟩ := two_of hf
    unfold Program.keyLits at h
    simp only [Try.underlying45, Value.cells, cells_tryT] at h
    cases hx : Try.prog.keyLits (n + 1) 3 [c0] with
    | none => simp [cells_intT, hx] at h
    | some x =>
      cases hy : Try.prog.keyLits (n + 1) 3 [c1] with
      | none => simp [cells_intT, hx, hy] at h
      | some y =>
        obtain ⟨a, rfl, ha, rfl⟩ := lit_inv hx
        obtain ⟨b, rfl, hb, rfl⟩ := lit_inv hy
        simp [cells_intT, hx, hy] at h
        exact ⟨a, b, rfl, ha, hb, h.symm⟩

theorem klit_inj {a b a' b' : Int} (ha : OkI a) (hb : OkI b) (ha' : OkI a') (hb' : OkI b') (h : klit a b = klit a' b') : a = a' ∧ b = b' := by
  have h1 := key_ok ha hb
  rw [h] at h1
  have := law_try.inj h1 (key_ok ha' hb')
  simp [tkey] at this
  exact this

/-! What lies at a key is taken as it is. -/
def opq (v : Value) : Option (DataW Value × List MemPlace) := some (.held v, [])
def nilS : Value := .slice none 0 0
theorem zero_ints (w : World) : (zeroValue 51).run Try.prog w = .ok nilS w := by kernel_rfl

/-- Block b is a map of at most n tries; at each one lies a slice of ints of its own: those that G tells. -/
structure Tries (w : World) (b n base : Nat) (D : DataW Value) (G : Int → Int → List Int) : Prop where
  own : w.ownsMap Try.prog 45 opq b n D
  row : ∀ a c, OkI a → OkI c → ∃ v, D.atKey (klit a c) (.held nilS) = .held v ∧ Owns .i64 3 w base v (G a c)
  apart : ∀ a c a' c', OkI a → OkI c → OkI a' → OkI c' → ¬ (a = a' ∧ c = c') → ∀ v v', D.atKey (klit a c) (.held nilS) = .held v → D.atKey (klit a' c') (.held nilS) = .held v' → v.ownBlock = none ∨ v.ownBlock ≠ v'.ownBlock
  lt : b < base

theorem Tries.made (w : World) : Tries (w.alloc (.map #[] 0)) w.heap.size 0 (w.heap.size + 1) (.map []) (fun _ _ => []) where
  own := World.ownsMap_made _ _ _ _
  row _ _ _ _ := ⟨nilS, rfl, Owns.nil⟩
  apart _ _ _ _ _ _ _ _ _ v v' h _ := by
    have : v = nilS := by
      have := h.symm
      simpa [DataW.atKey] using this
    subst this
    exact .inl rfl
  lt := Nat.lt_succ_self _

theorem grown_of_below {w w' : World} (h : Below w.heap.size w w') (row : Option Nat) : w.grownBy w' row := ⟨h.os, h.tape, h.output, h.size, fun k hk _ => h.block k hk⟩

/-- A look-up: in whatever world that came of it with nothing written that was there. -/
theorem Tries.look {w W : World} {b n base : Nat} {D : DataW Value} {G : Int → Int → List Int} (h : Tries w b n base D G) (hb : Below w.heap.size w W) {a c : Int} (ha : OkI a) (hc : OkI c) {v : Value} (hv : D.atKey (klit a c) (.held nilS) = .held v) :
    (Instr.lookup 50 (.map (some b)) (tkey a c) false).run Try.prog W = .ok v W := by
  obtain ⟨v', ps, hrun, hr⟩ := World.ownsMap.lookup (h.own.kept (grown_of_below hb none) (by simp)) law_try Try.underlying50 (zero_ints W) (zd := .held nilS) (zp := []) rfl (key_ok ha hc)
  rw [hv] at hr
  have : v' = v := by
    unfold opq at hr
    simp at hr
    exact hr.1
  rw [hrun, this]

/-- A window is put behind those of its try. -/
theorem Tries.put {w W : World} {b n base : Nat} {D : DataW Value} {G : Int → Int → List Int} (h : Tries w b n base D G) (hn : n < maxLen) {a c : Int} (ha : OkI a) (hc : OkI c) {v v' : Value} {zs : List Int} (hv : D.atKey (klit a c) (.held nilS) = .held v)
    (hg : w.grownBy W v.ownBlock) (hO : Owns .i64 3 W base v' zs) (hloc : v'.ownBlock = v.ownBlock ∨ ∃ g, v'.ownBlock = some g ∧ w.heap.size ≤ g) :
    ∃ w2 D', (Instr.mapUpdate 50 (.map (some b)) (tkey a c) v').run Try.prog W = .ok () w2 ∧ Tries w2 b (n + 1) base D' (fun x y => if a = x ∧ c = y then zs else G x y) ∧ W.grownBy w2 (some b) := by
  have hvb : some b ≠ v.ownBlock := fun e => by
    obtain ⟨v0, h0, h1⟩ := h.row a c ha hc
    rw [hv] at h0
    cases h0
    have := h1.ownBlock b e.symm
    have := h.lt
    omega
  have hlt := h.own.lt
  obtain ⟨w2, hrun, hown, hg2⟩ := World.ownsMap.update (h.own.kept hg hvb) law_try Try.underlying50 hn (key_ok ha hc) (val := v') (d := .held v') (ps := []) rfl
  have hM := World.ownsMap.isMap h.own
  have hsame : (D.put (klit a c) (.held v')).atKey (klit a c) (.held nilS) = .held v' := atKey_put_same hM (law_try.key (key_ok ha hc)) _ _
  have hother : ∀ x y, OkI x → OkI y → ¬ (a = x ∧ c = y) → (D.put (klit a c) (.held v')).atKey (klit x y) (.held nilS) = D.atKey (klit x y) (.held nilS) := fun x y hx hy hne => by
    refine atKey_put_other (fun e => ?_) _ _
    have := klit_inj ha hc hx hy e.symm
    exact hne ⟨this.1, this.2⟩
  have hbl : ∀ {u : Value} {ys : List Int}, Owns .i64 3 W base u ys → u.ownBlock = none ∨ u.ownBlock ≠ some b := fun {u ys} ho => by
    cases hu : u.ownBlock with
    | none => exact .inl rfl
    | some g =>
      refine .inr fun e => ?_
      cases e
      have := ho.ownBlock b hu
      have := h.lt
      omega
  have hnew : ∀ x y, OkI x → OkI y → ¬ (a = x ∧ c = y) → ∀ u, D.atKey (klit x y) (.held nilS) = .held u → u.ownBlock = none ∨ u.ownBlock ≠ v'.ownBlock := fun x y hx hy hne u hu => by
    rcases hloc with e | ⟨g, e, hge⟩
    · rw [e]
      exact h.apart x y a c hx hy ha hc (fun e => hne ⟨e.1.symm, e.2.symm⟩) u v hu hv
    · cases hu' : u.ownBlock with
      | none => exact .inl rfl
      | some q =>
        refine .inr fun e' => ?_
        rw [e] at e'
        cases e'
        obtain ⟨u0, h0, h1⟩ := h.row x y hx hy
        rw [hu] at h0
        cases h0
        have := (World.ownsRow.lt h1 g hu').2
        omega
  refine ⟨w2, _, hrun, ⟨hown, fun x y hx hy => ?_, fun x y x' y' hx hy hx' hy' hne u u' hu hu' => ?_, h.lt⟩, hg2⟩
  · by_cases hq : a = x ∧ c = y
    · obtain ⟨rfl, rfl⟩ := hq
      refine ⟨v', hsame, ?_⟩
      rw [if_pos ⟨rfl, rfl⟩]
      exact World.ownsRow.kept hO hg2 (hbl hO)
    · obtain ⟨u, hu, hOu⟩ := h.row x y hx hy
      refine ⟨u, (hother x y hx hy hq).trans hu, ?_⟩
      rw [if_neg hq]
      have h1 : Owns .i64 3 W base u (G x y) := World.ownsRow.kept hOu hg (h.apart x y a c hx hy ha hc (fun e => hq ⟨e.1.symm, e.2.symm⟩) u v hu hv)
      exact World.ownsRow.kept h1 hg2 (hbl h1)
  · by_cases hq : a = x ∧ c = y
    · obtain ⟨rfl, rfl⟩ := hq
      rw [hsame] at hu
      cases hu
      rw [hother x' y' hx' hy' hne] at hu'
      rcases hnew x' y' hx' hy' hne u' hu' with e | e
      · cases hv' : v'.ownBlock with
        | none => exact .inl rfl
        | some g => exact .inr (by rw [e]; simp)
      · exact .inr (Ne.symm e)
    · rw [hother x y hx hy hq] at hu
      by_cases hq' : a = x' ∧ c = y'
      · obtain ⟨rfl, rfl⟩ := hq'
        rw [hsame] at hu'
        cases hu'
        exact hnew x y hx hy hq u hu
      · rw [hother x' y' hx' hy' hq'] at hu'
        exact h.apart x y x' y' hx hy hx' hy' hne u u' hu hu'

end Go.Proofs.Ytbdcpjpdonednaa
