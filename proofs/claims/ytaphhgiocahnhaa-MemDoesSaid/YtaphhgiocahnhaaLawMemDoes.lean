/-
  The walk of MemDoes: whatever is loaded, and stored, window after window, in a memory of any words, or why not; and how many accesses there were.
-/
import Derived.Test.YtaphhgiocahnhaaMemSim
import Derived.Test.YtaphhgiocahnhaaRefMemNew
namespace Go.Proofs.Ytaphhgiocahnhaa
open Go.RowKit Go.Sort

/-- What the document's memory makes of it. -/
def ropS (o : OpV) (s : MS) : MS := if o.kd % 4 = 2 then stS s o.ad o.wd else if o.kd % 4 = 3 then rnxS s o.es else ldS s o.ad
theorem rop_two {o : OpV} (s : MS) (h : o.kd % 4 = 2) : ropS o s = stS s o.ad o.wd := by unfold ropS; rw [if_pos h]
theorem rop_three {o : OpV} (s : MS) (h : o.kd % 4 = 3) : ropS o s = rnxS s o.es := by unfold ropS; rw [if_neg (by omega), if_pos h]
theorem rop_load {o : OpV} (s : MS) (h2 : ¬ o.kd % 4 = 2) (h3 : ¬ o.kd % 4 = 3) : ropS o s = ldS s o.ad := by unfold ropS; rw [if_neg h2, if_neg h3]
theorem Sim.rnext {s r : MS} (h : Sim s r) (ls : List Ev) : Sim (nxS s ls) (rnxS r ls) := by
  unfold nxS rnxS
  by_cases hl : ls.length ≤ 1024
  · rw [if_pos hl, if_pos hl]
    refine ⟨?_, (putAll_perm ls []).trans (by simp), rfl, by dsimp only; rw [h.t, h.a]⟩
    dsimp only
    rw [h.ws]
    exact strike_perm h.es _
  · rw [if_neg hl, if_neg hl]; exact h
theorem Sim.rop {s r : MS} (h : Sim s r) (o : OpV) : Sim (opS o s) (ropS o r) := by
  by_cases h2 : o.kd % 4 = 2
  · rw [(op_two s h2).1, rop_two r h2]; exact (h.store _ _).1
  · by_cases h3 : o.kd % 4 = 3
    · rw [(op_three s h3).1, rop_three r h3]; exact h.rnext _
    · rw [(op_load s h2 h3).1, rop_load r h2 h3]; exact (h.load _).1

/-- A memory and the document's, with no block in common, behind k accesses at the most; they are the same but for the order of their events. -/
def Duo (w0 w : World) (M N : Nat) (s r : MS) (k : Nat) : Prop := ∃ F G, At w0 w F M s k ∧ RM w G N r ∧ (∀ j, G j → w0.heap.size ≤ j) ∧ Dis F G ∧ Sim s r ∧ EvsOk r.es
/-- The same, and an op in a block of its own. -/
def Dup (w0 w : World) (X : Nat) (o : OpV) (M N : Nat) (s r : MS) (k : Nat) : Prop := ∃ F G, (At w0 w F M s k ∧ RM w G N r ∧ (∀ j, G j → w0.heap.size ≤ j) ∧ Dis F G) ∧ (¬ F X ∧ ¬ G X) ∧ OpAt w X 0 o ∧ X < w.heap.size

section
variable {w0 w w' : World} {X M N k : Nat} {o : OpV} {s r : MS}
theorem Duo.below (h : Duo w0 w M N s r k) : Below w0.heap.size w0 w := by obtain ⟨F, G, h, _⟩ := h; exact h.below
theorem Duo.sim (h : Duo w0 w M N s r k) : Sim s r := by obtain ⟨F, G, _, _, _, _, h, _⟩ := h; exact h
theorem Duo.okE (h : Duo w0 w M N s r k) : EvsOk r.es := by obtain ⟨F, G, _, _, _, _, _, h⟩ := h; exact h
theorem Duo.quiet (h : Duo w0 w M N s r k) (hb : Below w.heap.size w w') : Duo w0 w' M N s r k := by
  obtain ⟨F, G, h1, h2, h3⟩ := h
  exact ⟨F, G, h1.quiet hb, h2.below hb, h3⟩
theorem Duo.op (h : Duo w0 w M N s r k) (o : OpV) : Dup w0 (w.alloc (opO o)) w.heap.size o M N s r k := by
  obtain ⟨F, G, h1, h2, h3, h4, _⟩ := h
  have hb := below_al (Below.refl _ w) (opO o)
  exact ⟨F, G, ⟨h1.quiet hb, h2.below hb, h3, h4⟩, ⟨fun c => by have := h1.mem.lt _ c; omega, fun c => by have := h2.lt _ c; omega⟩, OpAt.new w o, by simp⟩
theorem Dup.opAt (h : Dup w0 w X o M N s r k) : OpAt w X 0 o := by obtain ⟨F, G, _, _, h4, _⟩ := h; exact h4
theorem Dup.first (h : Dup w0 w X o M N s r k) (hn : OpNum o) (hx : ReadsE w0 w0.heap.size o.x o.es) (hk : k ≤ 1000000) :
    Calls Try.prog 14 #[.pointer (some ⟨M, 0, none⟩), opA o] w fun e w' => e = .returned (.tuple #[.int .u64 (opT o s), .int .i64 (opE o s)]) ∧ Dup w0 w' X o M N (opS o s) r (k + 1) := by
  obtain ⟨F, G, ⟨h1, h2, h3, d⟩, ⟨x1, x2⟩, h4, h5⟩ := h
  refine (do_any F M s o w h1.mem hn ((hx.below h1.below).rdF h1.new) (h1.cnt hk)).mono ?_
  rintro e w' ⟨rfl, hT⟩
  refine ⟨rfl, Or2 F (Nw w w'), G, ⟨h1.did (Below.refl _ _) o hT, h2.but hT.2 d.symm, h3, fun j c e => ?_⟩, ⟨fun c => c.elim x1 fun c => by have := c.1; omega, x2⟩, h4.block (hT.2.block X h5 x1), Nat.lt_of_lt_of_le h5 hT.2.size⟩
  rcases c with c | c
  · exact d j c e
  · have := h2.lt j e; have := c.1; omega
/-- The document's makes of it what it makes. -/
theorem Duo.after {F G : Nat → Prop} {r' : MS} (h1 : At w0 w F M s k) (_h2 : RM w G N r) (h3 : ∀ j, G j → w0.heap.size ≤ j) (d : Dis F G) (hT : RStruck w G N r' w') (hS : Sim s r') (ho : EvsOk r'.es) : Duo w0 w' M N s r' k := by
  refine ⟨F, Or2 G (Nw w w'), h1.but hT.2 d h3, hT.1, fun j c => ?_, fun j c e => ?_, hS, ho⟩
  · rcases c with c | c
    · exact h3 j c
    · have := c.1; have := h1.below.size; omega
  · rcases e with e | e
    · exact d j c e
    · have := h1.mem.lt j c; have := e.1; omega
end

theorem OpOk.src {w : World} {o : OpV} (h : OpOk w o) : SrcE w o.x o.n o.cap o.es := EventIn.src h.2.2.2
theorem rops_ok {o : OpV} {r : MS} (h : EvsOk r.es) (ho : EvsOk o.es) : EvsOk (ropS o r).es := by
  have hacc : EvsOk (acc r).es := fun s hs => h s (List.mem_filter.1 hs).1
  by_cases h2 : o.kd % 4 = 2
  · rw [rop_two r h2]; unfold stS; split
    · exact hacc
    · exact h
  · by_cases h3 : o.kd % 4 = 3
    · rw [rop_three r h3]; unfold rnxS; split
      · exact ho
      · exact h
    · rw [rop_load r h2 h3]; unfold ldS; split
      · exact hacc
      · exact h

/-- Behind the memory's own call. -/
def Mid (w0 w : World) (X : Nat) (o : OpV) (M N : Nat) (s r : MS) (k : Nat) : Prop := Dup w0 w X o M N (opS o s) r (k + 1) ∧ Sim s r ∧ EvsOk r.es ∧ CntOk r ∧ OpNum o ∧ (∀ W, Below w0.heap.size w0 W → SrcE W o.x o.n o.cap o.es)
theorem Duo.cnt {w0 w : World} {M N k : Nat} {s r : MS} (h : Duo w0 w M N s r k) (hk : k ≤ 1000000) : CntOk r ∧ CntOk s := by
  obtain ⟨F, G, h1, _, _, _, hS, _⟩ := h
  have := h1.cnt hk
  refine ⟨?_, this⟩
  unfold CntOk at this ⊢
  rw [← hS.t, ← hS.a]
  exact this

section
variable {w0 w w' : World} {X M N k : Nat} {o : OpV} {s r : MS}
theorem Mid.opAt (h : Mid w0 w X o M N s r k) : OpAt w X 0 o := h.1.opAt
theorem Mid.two (h : Mid w0 w X o M N s r k) (h2 : o.kd % 4 = 2) : Calls Try.prog 15 #[.pointer (some ⟨N, 0, none⟩), .int .i64 o.ad, .int .u64 o.wd] w fun e w' => e = .returned (.int .i64 (opE o s)) ∧ Duo w0 w' M N (opS o s) (ropS o r) (k + 1) := by
  obtain ⟨⟨F, G, ⟨h1, hr, h3, d⟩, _⟩, hS, hok, hc, hn, _⟩ := h
  refine (rStore_any G N r o.ad o.wd w hr hn.2.1 hn.2.2.1 hc.1).mono ?_
  rintro e w' ⟨rfl, hT⟩
  rw [(op_two s h2).2.2, (hS.store o.ad o.wd).2]
  refine ⟨rfl, Duo.after h1 hr h3 d (by rw [rop_two r h2]; exact hT) (hS.rop o) (rops_ok hok hn.2.2.2.2)⟩
theorem Mid.three (h : Mid w0 w X o M N s r k) (h2 : o.kd % 4 = 3) : Calls Try.prog 16 #[.pointer (some ⟨N, 0, none⟩), .slice o.x o.n o.cap] w fun e w' => e = .returned (.int .i64 (opE o s)) ∧ Duo w0 w' M N (opS o s) (ropS o r) (k + 1) := by
  obtain ⟨⟨F, G, ⟨h1, hr, h3, d⟩, _⟩, hS, hok, hc, hn, hx⟩ := h
  refine (rNext_any G N r o.x o.n o.cap o.es w hr (fun w' hb => hx w' (h1.below.trans (hb.below h1.below.size h3))) hn.2.2.2.2 hok hc.1 hc.2).mono ?_
  rintro e w' ⟨rfl, hT⟩
  rw [(op_three s h2).2.2]
  refine ⟨rfl, Duo.after h1 hr h3 d (by rw [rop_three r h2]; exact hT) (hS.rop o) (rops_ok hok hn.2.2.2.2)⟩
theorem Mid.load (h : Mid w0 w X o M N s r k) (h2 : ¬ o.kd % 4 = 2) (h3' : ¬ o.kd % 4 = 3) : Calls Try.prog 17 #[.pointer (some ⟨N, 0, none⟩), .int .i64 o.ad] w fun e w' => e = .returned (.tuple #[.int .u64 (opT o s), .int .i64 (opE o s)]) ∧ Duo w0 w' M N (opS o s) (ropS o r) (k + 1) := by
  obtain ⟨⟨F, G, ⟨h1, hr, h3, d⟩, _⟩, hS, hok, hc, hn, _⟩ := h
  refine (rLoad_any G N r o.ad w hr hn.2.1 hc.1).mono ?_
  rintro e w' ⟨rfl, hT⟩
  rw [(op_load s h2 h3').2.2, (op_load s h2 h3').2.1, (hS.load o.ad).2.1, (hS.load o.ad).2.2]
  refine ⟨rfl, Duo.after h1 hr h3 d (by rw [rop_load r h2 h3']; exact hT) (hS.rop o) (rops_ok hok hn.2.2.2.2)⟩
theorem Duo.first (h : Duo w0 w M N s r k) {os : List OpV} {y : Option Addr} {L cap j : Nat} (hO : OpIn w0 y L cap os) (hj : j < L) (ho : o = os.getD j noOp) (hk : k ≤ 1000000) :
    Calls Try.prog 14 #[.pointer (some ⟨M, 0, none⟩), opA o] (w.alloc (opO o)) fun e w' => e = .returned (.tuple #[.int .u64 (opT o s), .int .i64 (opE o s)]) ∧ Mid w0 w' w.heap.size o M N s r k := by
  have hc := h.cnt hk
  have hok := hO.at hj
  rw [← ho] at hok
  refine ((h.op o).first hok.num hok.2.2.2.2.2.2.1 hk).mono ?_
  rintro e w' ⟨rfl, hD⟩
  exact ⟨rfl, hD, h.sim, h.okE, hc.1, hok.num, fun W hb => hok.src.keep hb⟩
theorem Duo.ticks (h : Duo w0 w M N s r k) : Calls Try.prog 18 #[.pointer (some ⟨M, 0, none⟩)] w fun e w' => e = .returned (.int .i64 r.t) ∧ w = w' := by
  obtain ⟨F, G, h1, _, _, _, hS, _⟩ := h
  rw [← hS.t]
  exact Ticks_any F M s w h1.mem
theorem Duo.rticks (h : Duo w0 w M N s r k) : Calls Try.prog 19 #[.pointer (some ⟨N, 0, none⟩)] w fun e w' => e = .returned (.int .i64 r.t) ∧ w = w' := by
  obtain ⟨F, G, _, h2, _⟩ := h
  exact rTicks_any G N r w h2
theorem Duo.all (h : Duo w0 w M N s r k) (hk : k ≤ 1000000) : Calls Try.prog 20 #[.pointer (some ⟨M, 0, none⟩)] w (RetQ (.int .i64 (r.a + r.t)) w) := by
  have hc := h.cnt hk
  obtain ⟨F, G, h1, _, _, _, hS, _⟩ := h
  rw [← hS.t, ← hS.a]
  exact All_any F M s w h1.mem hc.2.1 hc.2.2
theorem Duo.rall (h : Duo w0 w M N s r k) (hk : k ≤ 1000000) : Calls Try.prog 21 #[.pointer (some ⟨N, 0, none⟩)] w (RetQ (.int .i64 (r.a + r.t)) w) := by
  have hc := h.cnt hk
  obtain ⟨F, G, _, h2, _⟩ := h
  exact rAll_any G N r w h2 hc.1.1 hc.1.2
theorem Duo.words (h : Duo w0 w M N s r k) : Calls Try.prog 22 #[.pointer (some ⟨M, 0, none⟩)] w (Worded w r.ws) := by
  obtain ⟨F, G, h1, _, _, _, hS, _⟩ := h
  rw [← hS.ws]
  exact Words_any F M s w h1.mem
theorem Duo.rwords (h : Duo w0 w M N s r k) : Calls Try.prog 24 #[.pointer (some ⟨N, 0, none⟩)] w (Worded w r.ws) := by
  obtain ⟨F, G, _, h2, _⟩ := h
  exact rWords_any G N r w h2
end

/-- Beside both the words that were told, a row that is the law's own. -/
def DuoRow (w0 w : World) (M N : Nat) (s r : MS) (k g n c : Nat) (zs : List Int) : Prop := (∃ F G, (At w0 w F M s k ∧ RM w G N r ∧ (∀ j, G j → w0.heap.size ≤ j) ∧ Dis F G ∧ Sim s r ∧ EvsOk r.es) ∧ ¬ F g ∧ ¬ G g) ∧ w0.heap.size ≤ g ∧ Owns .u64 33 w 0 (.slice (some ⟨g, 0, none⟩) n c) zs ∧ zs.length = n
section
variable {w0 w w' : World} {M N k g n c : Nat} {s r : MS} {zs : List Int}
theorem DuoRow.duo (h : DuoRow w0 w M N s r k g n c zs) : Duo w0 w M N s r k := by obtain ⟨⟨F, G, h, _⟩, _⟩ := h; exact ⟨F, G, h⟩
theorem DuoRow.quiet (h : DuoRow w0 w M N s r k g n c zs) (hb : Below w.heap.size w w') : DuoRow w0 w' M N s r k g n c zs := by
  obtain ⟨⟨F, G, ⟨h1, h2, h3⟩, hg⟩, h4, h5, h6⟩ := h
  exact ⟨⟨F, G, ⟨h1.quiet hb, h2.below hb, h3⟩, hg⟩, h4, h5.below hb, h6⟩
theorem DuoRow.set (h : DuoRow w0 w M N s r k g n c zs) (j : Nat) (u : Int) : DuoRow w0 (w.setCell ⟨g, j, none⟩ (.int .u64 u)) M N s r k g n c (zs.set j u) := by
  obtain ⟨⟨F, G, ⟨h1, h2, h3, h3', h3''⟩, hg1, hg2⟩, h4, h5, h6⟩ := h
  have hb := But.setCell w g j (.int .u64 u)
  exact ⟨⟨F, G, ⟨h1.but hb (fun i c e => hg1 (e ▸ c)) (fun i e => by rw [e]; exact h4), h2.but hb (fun i c e => hg2 (e ▸ c)), h3, h3', h3''⟩, hg1, hg2⟩, h4, h5.set h6 j u, by rw [List.length_set]; exact h6⟩
theorem Duo.row (h : Duo w0 w M N s r k) (hb : Below w.heap.size w w') {x : Option Addr} (hO : Owns .u64 33 w' w.heap.size (.slice x n c) zs) (hn : zs.length = n) (h1n : 0 < n) : ∃ g, x = some ⟨g, 0, none⟩ ∧ DuoRow w0 w' M N s r k g n c zs := by
  obtain ⟨x', c', e, _, _, _, hg⟩ := hO.form
  obtain ⟨g, hx, hg1, _⟩ := hg (by omega)
  simp only [Value.slice.injEq] at e
  obtain ⟨rfl, -, rfl⟩ := e
  subst hx
  have hs := h.below.size
  obtain ⟨F, G, h1, h2, h3⟩ := h
  exact ⟨g, rfl, ⟨F, G, ⟨h1.quiet hb, h2.below hb, h3⟩, fun q => by have := h1.mem.lt g q; omega, fun q => by have := h2.lt g q; omega⟩, by omega, hO.mono (Nat.zero_le _), hn⟩
end

/-- In front of each op. -/
def DoesAt (w wr : World) (M N n k : Nat) : Prop := ∃ s r, Duo w wr M N s r k ∧ r.ws.length = n
theorem DoesAt.below {w wr : World} {M N n k : Nat} (h : DoesAt w wr M N n k) : Below w.heap.size w wr := by obtain ⟨s, r, h, _⟩ := h; exact h.below
theorem Duo.made {w0 w1 w2 w3 : World} {M N n : Nat} {ls : List Ev} (hb : Below w0.heap.size w0 w1) (h1 : MM w2 (Nw w1 w2) M (newS n ls)) (hb1 : Below w1.heap.size w1 w2) (h2 : RM w3 (Nw w2 w3) N (rnewS n ls)) (hb2 : Below w2.heap.size w2 w3) (ho : EvsOk ls) : Duo w0 w3 M N (newS n ls) (rnewS n ls) 0 := by
  have hs := hb.size
  have hs1 := hb1.size
  refine ⟨_, _, (At.made hb h1 hb1 rfl rfl).quiet hb2, h2, fun j c => by have := c.1; omega, fun j c d => ?_, ⟨rfl, (putAll_perm ls []).trans (by simp [rnewS]), rfl, rfl⟩, ho⟩
  have := c.2; have := d.1; omega

set_option maxHeartbeats 32000000 in
set_option maxRecDepth 100000 in
theorem does_in (n : Nat) (x : Option Addr) (m cx : Nat) (ls : List Ev) (y : Option Addr) (L cap : Nat) (os : List OpV) (w : World) (h1 : 1 ≤ n) (h2 : n ≤ 60) (hm : m ≤ 40) (hL : L ≤ 80) (hE : EventIn w x m cx ls) (hO : OpIn w y L cap os) (hf : fewB (n : Int) m os = true) :
    Calls Try.prog 3 #[.int .i64 (n : Int), .slice x m cx, .slice y L cap] w fun e w' => e = .returned (.bool true) ∧ Below w.heap.size w w' := by
  have HV := Lib.hid (live12_any w)
  have HF := Lib.hid (fun w1 (hb : Below w.heap.size w w1) => few_mem (n : Int) x m cx y L cap os w1 ((hO.2.2.2.1.below hb).more hb.size) hO.1 (by omega) (by omega))
  rw [hf] at HF
  have HN := Lib.hid (fun w1 (hb : Below w.heap.size w w1) => mNew_ok n x m cx ls w1 h1 (by omega) (hE.2.2.2.1.since hb) hE.1 hE.2.2.2.2 (by omega))
  have HR := Lib.hid (fun w1 (hb : Below w.heap.size w w1) => rNew_ok n x m cx ls w1 h1 (by omega) (hE.src.keep hb) hE.2.2.2.2 (by omega))
  have HEo := Lib.hid hE.2.2.2.2
  have HO := Lib.hid hO
  have d0 : decide ((60 : Int) < (n : Int)) = false := by simp; omega
  have hmin : min (n : Int) 60 = (n : Int) := by omega
  clear hO hf hE
  go_enter Try.func3, Try.ntmps3
  go_wp2_with (first
    | (go_at_call 10; refine HV.out.mono ?_; clear HV; rintro e w1 ⟨rfl, hb1⟩; have B1 := Lib.hid hb1; clear hb1)
    | (go_at_call 11; refine (HF.out w1 B1.out).mono ?_; clear HF; rintro e w2 ⟨rfl, hb2⟩; have B2 := Lib.hid (below_on B1.out hb2); clear hb2 B1)
    | (go_at_call 12; refine (HN.out w2 B2.out).mono ?_; clear HN; rintro e w3 ⟨M, rfl, hm3, hb3⟩; have A3 := Lib.hid (And.intro hm3 hb3); have K4 := Lib.hid (HR.out w3 (below_on B2.out hb3)); clear hm3 hb3 HR)
    | (go_at_call 13; refine K4.out.mono ?_; clear K4; rintro e w4 ⟨v4, v4', rfl, N, rfl, rfl, hm4, hb4⟩; have A4 : Hid (DoesAt w w4 M N n 0) := Lib.hid ⟨_, _, Duo.made B2.out A3.out.1 A3.out.2 hm4 hb4 HEo.out, by simp [rnewS]⟩; clear hm4 hb4 A3))
  go_loopw [58] (fun i wr => ∃ k : Nat, k ≤ L ∧ i = .int .i64 k ∧ Hid (DoesAt w wr M N n k)) (fun i _ => L - (intOf i).toNat)
  case atStart => exact ⟨0, Nat.zero_le _, rfl, A4⟩
  case round =>
    clear A4 B2
    obtain ⟨k, hk, rfl, HI⟩ := hrel
    by_cases hlt : k < L
    · obtain ⟨b, off, rfl, hb, hcu⟩ := HO.out.cells HI.out.below hlt
      have hnum1 := (HO.out.at hlt).num.1
      obtain ⟨s, r, hD, hl⟩ := HI.out
      obtain ⟨o, ho⟩ : ∃ o, o = os.getD k noOp := ⟨_, rfl⟩
      rw [← ho] at hcu hnum1
      have K1 := Lib.hid (hD.first HO.out hlt ho (by omega))
      have HRL : Hid ((ropS o r).ws.length = n) := Lib.hid (by rw [← (hD.sim.rop o).ws, opS_len, hD.sim.ws]; exact hl)
      have M2 := Lib.hid (fun W (h : Mid w W wr.heap.size o M N s r k) (h2 : o.kd % 4 = 2) => h.two h2)
      have M3 := Lib.hid (fun W (h : Mid w W wr.heap.size o M N s r k) (h2 : o.kd % 4 = 3) => h.three h2)
      have ML := Lib.hid (fun W (h : Mid w W wr.heap.size o M N s r k) (h2 : ¬ o.kd % 4 = 2) (h3 : ¬ o.kd % 4 = 3) => h.load h2 h3)
      have HA : Hid (∀ W, Mid w W wr.heap.size o M N s r k → OpAt W wr.heap.size 0 o) := Lib.hid (fun W h => h.opAt)
      have T0 : Hid (o.kd % 4 = 2 ∨ o.kd % 4 = 3 → opT o s = 0) := Lib.hid (fun h => h.elim (fun h => (op_two s h).2.1) fun h => (op_three s h).2.1)
      generalize opT o s = tv at K1 ML T0
      generalize opE o s = te at K1 M2 M3 ML
      generalize opS o s = s' at M2 M3 ML
      generalize ropS o r = r' at M2 M3 ML HRL
      clear hD hl HI ho
      obtain ⟨kd, ad, wd, ux, um, uc, es⟩ := o
      obtain ⟨k0, k1, k2, k3⟩ := hcu
      unfold opA opO at K1
      dsimp only at k0 k1 k2 k3 hnum1 K1 M2 M3 ML T0
      obtain ⟨kk, rfl⟩ : ∃ kk : Nat, kd = (kk : Int) := ⟨kd.toNat, by omega⟩
      obtain ⟨rr, hr⟩ : ∃ rr : Nat, (kk : Int) % 4 = (rr : Int) := ⟨kk % 4, by omega⟩
      have hrb : rr < 4 := by omega
      rw [hr] at M2 M3 ML T0
      have hpart : (((rr : Int) == 2) = true ∧ rr = 2) ∨ (((rr : Int) == 2) = false ∧ ((rr : Int) == 3) = true ∧ rr = 3) ∨ (((rr : Int) == 2) = false ∧ ((rr : Int) == 3) = false ∧ ¬ (rr : Int) = 2 ∧ ¬ (rr : Int) = 3) := by
        have : rr = 0 ∨ rr = 1 ∨ rr = 2 ∨ rr = 3 := by omega
        rcases this with rfl | rfl | rfl | rfl <;> simp
      have DONE : Hid (∀ W zs g c, DuoRow w W M N s' r' (k + 1) g n c zs → DoesAt w W M N n (k + 1)) := Lib.hid (fun W zs g c h => ⟨_, _, h.duo, HRL.out⟩)
      rcases hpart with ⟨t2, rfl⟩ | ⟨t2, t3, rfl⟩ | ⟨t2, t3, n2, n3⟩
      · have KM := Lib.hid (fun W h => M2.out W h rfl)
        rw [T0.out (.inl rfl)] at K1
        clear M2 M3 ML T0
        go_wp2_with (first
          | (go_at_call 14; refine K1.out.mono ?_; clear K1 k0 k1 k2 k3; rintro e w5 ⟨rfl, h5⟩; obtain ⟨p0, p1, p2, p3⟩ := HA.out _ h5; rw [Nat.zero_add] at p1 p2 p3; dsimp only at p0 p1 p2 p3; have K2 := Lib.hid (KM.out _ h5); clear h5 KM HA)
          | (go_at_call 15; refine K2.out.mono ?_; clear K2 p0 p1 p2 p3; rintro e w6 ⟨rfl, h6⟩; have T6 := Lib.hid h6; have K3 := Lib.hid h6.ticks; clear h6)
          | (go_at_call 16; refine K2.out.mono ?_; clear K2 p0 p1 p2 p3; rintro e w6 ⟨rfl, h6⟩; have T6 := Lib.hid h6; have K3 := Lib.hid h6.ticks; clear h6)
          | (go_at_call 17; refine K2.out.mono ?_; clear K2 p0 p1 p2 p3; rintro e w6 ⟨rfl, h6⟩; have T6 := Lib.hid h6; have K3 := Lib.hid h6.ticks; clear h6)
          | (go_at_call 18; refine K3.out.mono ?_; clear K3; rintro e w7 ⟨rfl, rfl⟩; have K4 := Lib.hid T6.out.rticks)
          | (go_at_call 19; refine K4.out.mono ?_; clear K4; rintro e w7 ⟨rfl, rfl⟩; have K5 := Lib.hid (T6.out.all (by omega)))
          | (go_at_call 20; refine K5.out.mono ?_; clear K5; rintro e w7 ⟨rfl, nq, rfl⟩; have T7 := Lib.hid (T6.out.quiet (draws_below _ _ nq)); have K6 := Lib.hid (T7.out.rall (by omega)))
          | (go_at_call 21; refine K6.out.mono ?_; clear K6; rintro e w8 ⟨rfl, nq2, rfl⟩; have T8 := Lib.hid (T6.out.quiet (draws_below _ _ (nq + nq2))); have K7 := Lib.hid T8.out.words; clear T7 T6)
          | (go_at_call 22; refine K7.out.mono ?_; clear K7; rintro e w9 ⟨x9, c9, rfl, hO9, hB9⟩; rw [HRL.out] at hO9 ⊢; obtain ⟨g9, rfl, h9⟩ := T8.out.row hB9 hO9 HRL.out (by omega); have T9 := Lib.hid h9; have K8 := Lib.hid h9.duo.rwords; clear hO9 hB9 h9 T8)
          | (go_at_call 24; refine K8.out.mono ?_; clear K8; rintro e w10 ⟨x10, c10, rfl, hO10, hB10⟩; rw [HRL.out] at hO10 ⊢; have T10 := Lib.hid (T9.out.quiet hB10); have K9 := Lib.hid (sameW_any (some ⟨g9, 0, none⟩) x10 n n c9 c10 r'.ws r'.ws w10 _ T10.out.2.2.1.rd hO10.rd HRL.out HRL.out (by omega) (by omega)); rw [decide_eq_true rfl] at K9; clear hO10 hB10 T9)
          | (go_at_call 23; refine K9.out.mono ?_; clear K9; rintro e w11 ⟨rfl, nq3, rfl⟩; have T11 := Lib.hid (T10.out.quiet (draws_below _ _ nq3)); clear T10))
        obtain ⟨W11, hW11⟩ : ∃ W, W = w10.drewN nq3 := ⟨_, rfl⟩
        rw [← hW11] at T11 ⊢
        clear hW11
        go_loopw [123] (fun i wz => ∃ (j : Nat) (zs : List Int), j ≤ n ∧ i = .int .i64 j ∧ Hid (DuoRow w wz M N s' r' (k + 1) g9 n c9 zs)) (fun i _ => n - (intOf i).toNat)
        case atStart => exact ⟨0, _, Nat.zero_le _, rfl, T11⟩
        case round =>
          clear T11
          obtain ⟨j, zs, hjn, rfl, HZ⟩ := hrel
          by_cases hjl : j < n
          · have cc := HZ.out.2.2.1.cell HZ.out.2.2.2 hjl
            have cf := HZ.out.2.2.1.frozen HZ.out.2.2.2 j
            have HS := Lib.hid (fun u => HZ.out.set j u)
            generalize zs.getD j 0 = z at cc
            clear HZ
            go_wp2
            go_roundw
            case rel => exact ⟨j + 1, _, by omega, by congr 1, Lib.hid (HS.out _)⟩
            case measure => simp [intOf]; omega
          · have P8 := Lib.hid (DONE.out _ _ _ _ HZ.out)
            clear HZ
            go_wp2
            go_roundw
            case rel => exact ⟨k + 1, by omega, by congr 1, P8⟩
            case measure => simp [intOf]; omega
      · have KM := Lib.hid (fun W h => M3.out W h rfl)
        rw [T0.out (.inr rfl)] at K1
        clear M2 M3 ML T0
        go_wp2_with (first
          | (go_at_call 14; refine K1.out.mono ?_; clear K1 k0 k1 k2 k3; rintro e w5 ⟨rfl, h5⟩; obtain ⟨p0, p1, p2, p3⟩ := HA.out _ h5; rw [Nat.zero_add] at p1 p2 p3; dsimp only at p0 p1 p2 p3; have K2 := Lib.hid (KM.out _ h5); clear h5 KM HA)
          | (go_at_call 15; refine K2.out.mono ?_; clear K2 p0 p1 p2 p3; rintro e w6 ⟨rfl, h6⟩; have T6 := Lib.hid h6; have K3 := Lib.hid h6.ticks; clear h6)
          | (go_at_call 16; refine K2.out.mono ?_; clear K2 p0 p1 p2 p3; rintro e w6 ⟨rfl, h6⟩; have T6 := Lib.hid h6; have K3 := Lib.hid h6.ticks; clear h6)
          | (go_at_call 17; refine K2.out.mono ?_; clear K2 p0 p1 p2 p3; rintro e w6 ⟨rfl, h6⟩; have T6 := Lib.hid h6; have K3 := Lib.hid h6.ticks; clear h6)
          | (go_at_call 18; refine K3.out.mono ?_; clear K3; rintro e w7 ⟨rfl, rfl⟩; have K4 := Lib.hid T6.out.rticks)
          | (go_at_call 19; refine K4.out.mono ?_; clear K4; rintro e w7 ⟨rfl, rfl⟩; have K5 := Lib.hid (T6.out.all (by omega)))
          | (go_at_call 20; refine K5.out.mono ?_; clear K5; rintro e w7 ⟨rfl, nq, rfl⟩; have T7 := Lib.hid (T6.out.quiet (draws_below _ _ nq)); have K6 := Lib.hid (T7.out.rall (by omega)))
          | (go_at_call 21; refine K6.out.mono ?_; clear K6; rintro e w8 ⟨rfl, nq2, rfl⟩; have T8 := Lib.hid (T6.out.quiet (draws_below _ _ (nq + nq2))); have K7 := Lib.hid T8.out.words; clear T7 T6)
          | (go_at_call 22; refine K7.out.mono ?_; clear K7; rintro e w9 ⟨x9, c9, rfl, hO9, hB9⟩; rw [HRL.out] at hO9 ⊢; obtain ⟨g9, rfl, h9⟩ := T8.out.row hB9 hO9 HRL.out (by omega); have T9 := Lib.hid h9; have K8 := Lib.hid h9.duo.rwords; clear hO9 hB9 h9 T8)
          | (go_at_call 24; refine K8.out.mono ?_; clear K8; rintro e w10 ⟨x10, c10, rfl, hO10, hB10⟩; rw [HRL.out] at hO10 ⊢; have T10 := Lib.hid (T9.out.quiet hB10); have K9 := Lib.hid (sameW_any (some ⟨g9, 0, none⟩) x10 n n c9 c10 r'.ws r'.ws w10 _ T10.out.2.2.1.rd hO10.rd HRL.out HRL.out (by omega) (by omega)); rw [decide_eq_true rfl] at K9; clear hO10 hB10 T9)
          | (go_at_call 23; refine K9.out.mono ?_; clear K9; rintro e w11 ⟨rfl, nq3, rfl⟩; have T11 := Lib.hid (T10.out.quiet (draws_below _ _ nq3)); clear T10))
        obtain ⟨W11, hW11⟩ : ∃ W, W = w10.drewN nq3 := ⟨_, rfl⟩
        rw [← hW11] at T11 ⊢
        clear hW11
        go_loopw [123] (fun i wz => ∃ (j : Nat) (zs : List Int), j ≤ n ∧ i = .int .i64 j ∧ Hid (DuoRow w wz M N s' r' (k + 1) g9 n c9 zs)) (fun i _ => n - (intOf i).toNat)
        case atStart => exact ⟨0, _, Nat.zero_le _, rfl, T11⟩
        case round =>
          clear T11
          obtain ⟨j, zs, hjn, rfl, HZ⟩ := hrel
          by_cases hjl : j < n
          · have cc := HZ.out.2.2.1.cell HZ.out.2.2.2 hjl
            have cf := HZ.out.2.2.1.frozen HZ.out.2.2.2 j
            have HS := Lib.hid (fun u => HZ.out.set j u)
            generalize zs.getD j 0 = z at cc
            clear HZ
            go_wp2
            go_roundw
            case rel => exact ⟨j + 1, _, by omega, by congr 1, Lib.hid (HS.out _)⟩
            case measure => simp [intOf]; omega
          · have P8 := Lib.hid (DONE.out _ _ _ _ HZ.out)
            clear HZ
            go_wp2
            go_roundw
            case rel => exact ⟨k + 1, by omega, by congr 1, P8⟩
            case measure => simp [intOf]; omega
      · have KM := Lib.hid (fun W h => ML.out W h n2 n3)
        clear M2 M3 ML T0 n2 n3
        go_wp2_with (first
          | (go_at_call 14; refine K1.out.mono ?_; clear K1 k0 k1 k2 k3; rintro e w5 ⟨rfl, h5⟩; obtain ⟨p0, p1, p2, p3⟩ := HA.out _ h5; rw [Nat.zero_add] at p1 p2 p3; dsimp only at p0 p1 p2 p3; have K2 := Lib.hid (KM.out _ h5); clear h5 KM HA)
          | (go_at_call 15; refine K2.out.mono ?_; clear K2 p0 p1 p2 p3; rintro e w6 ⟨rfl, h6⟩; have T6 := Lib.hid h6; have K3 := Lib.hid h6.ticks; clear h6)
          | (go_at_call 16; refine K2.out.mono ?_; clear K2 p0 p1 p2 p3; rintro e w6 ⟨rfl, h6⟩; have T6 := Lib.hid h6; have K3 := Lib.hid h6.ticks; clear h6)
          | (go_at_call 17; refine K2.out.mono ?_; clear K2 p0 p1 p2 p3; rintro e w6 ⟨rfl, h6⟩; have T6 := Lib.hid h6; have K3 := Lib.hid h6.ticks; clear h6)
          | (go_at_call 18; refine K3.out.mono ?_; clear K3; rintro e w7 ⟨rfl, rfl⟩; have K4 := Lib.hid T6.out.rticks)
          | (go_at_call 19; refine K4.out.mono ?_; clear K4; rintro e w7 ⟨rfl, rfl⟩; have K5 := Lib.hid (T6.out.all (by omega)))
          | (go_at_call 20; refine K5.out.mono ?_; clear K5; rintro e w7 ⟨rfl, nq, rfl⟩; have T7 := Lib.hid (T6.out.quiet (draws_below _ _ nq)); have K6 := Lib.hid (T7.out.rall (by omega)))
          | (go_at_call 21; refine K6.out.mono ?_; clear K6; rintro e w8 ⟨rfl, nq2, rfl⟩; have T8 := Lib.hid (T6.out.quiet (draws_below _ _ (nq + nq2))); have K7 := Lib.hid T8.out.words; clear T7 T6)
          | (go_at_call 22; refine K7.out.mono ?_; clear K7; rintro e w9 ⟨x9, c9, rfl, hO9, hB9⟩; rw [HRL.out] at hO9 ⊢; obtain ⟨g9, rfl, h9⟩ := T8.out.row hB9 hO9 HRL.out (by omega); have T9 := Lib.hid h9; have K8 := Lib.hid h9.duo.rwords; clear hO9 hB9 h9 T8)
          | (go_at_call 24; refine K8.out.mono ?_; clear K8; rintro e w10 ⟨x10, c10, rfl, hO10, hB10⟩; rw [HRL.out] at hO10 ⊢; have T10 := Lib.hid (T9.out.quiet hB10); have K9 := Lib.hid (sameW_any (some ⟨g9, 0, none⟩) x10 n n c9 c10 r'.ws r'.ws w10 _ T10.out.2.2.1.rd hO10.rd HRL.out HRL.out (by omega) (by omega)); rw [decide_eq_true rfl] at K9; clear hO10 hB10 T9)
          | (go_at_call 23; refine K9.out.mono ?_; clear K9; rintro e w11 ⟨rfl, nq3, rfl⟩; have T11 := Lib.hid (T10.out.quiet (draws_below _ _ nq3)); clear T10))
        obtain ⟨W11, hW11⟩ : ∃ W, W = w10.drewN nq3 := ⟨_, rfl⟩
        rw [← hW11] at T11 ⊢
        clear hW11
        go_loopw [123] (fun i wz => ∃ (j : Nat) (zs : List Int), j ≤ n ∧ i = .int .i64 j ∧ Hid (DuoRow w wz M N s' r' (k + 1) g9 n c9 zs)) (fun i _ => n - (intOf i).toNat)
        case atStart => exact ⟨0, _, Nat.zero_le _, rfl, T11⟩
        case round =>
          clear T11
          obtain ⟨j, zs, hjn, rfl, HZ⟩ := hrel
          by_cases hjl : j < n
          · have cc := HZ.out.2.2.1.cell HZ.out.2.2.2 hjl
            have cf := HZ.out.2.2.1.frozen HZ.out.2.2.2 j
            have HS := Lib.hid (fun u => HZ.out.set j u)
            generalize zs.getD j 0 = z at cc
            clear HZ
            go_wp2
            go_roundw
            case rel => exact ⟨j + 1, _, by omega, by congr 1, Lib.hid (HS.out _)⟩
            case measure => simp [intOf]; omega
          · have P8 := Lib.hid (DONE.out _ _ _ _ HZ.out)
            clear HZ
            go_wp2
            go_roundw
            case rel => exact ⟨k + 1, by omega, by congr 1, P8⟩
            case measure => simp [intOf]; omega
    · obtain ⟨s, r, hD, hl⟩ := HI.out
      have T1 := Lib.hid hD
      have K1 := Lib.hid hD.words
      have HSl := Lib.hid hl
      clear HI hD hl
      go_wp2_with (first
        | (go_at_call 22; refine K1.out.mono ?_; clear K1; rintro e w2 ⟨x2, c2, rfl, hO2, hB2⟩; rw [HSl.out] at hO2 ⊢; have T2 := Lib.hid (T1.out.quiet hB2); have O2 := Lib.hid hO2; have K2 := Lib.hid T2.out.rwords; clear hO2 hB2 T1)
        | (go_at_call 24; refine K2.out.mono ?_; clear K2; rintro e w3 ⟨x3, c3, rfl, hO3, hB3⟩; rw [HSl.out] at hO3 ⊢; have T3 := Lib.hid (T2.out.quiet hB3); have K3 := Lib.hid (sameW_any x2 x3 n n c2 c3 r.ws r.ws w3 _ (O2.out.below hB3).rd hO3.rd HSl.out HSl.out (by omega) (by omega)); rw [decide_eq_true rfl] at K3; clear hO3 hB3 T2)
        | (go_at_call 23; refine K3.out.mono ?_; clear K3; rintro e w4 ⟨rfl, nq, rfl⟩; have T4 := Lib.hid (T3.out.quiet (draws_below _ _ nq)); clear T3))
      go_ret
      exact ⟨rfl, T4.out.below⟩

set_option maxRecDepth 100000 in
theorem walk_MemDoes (a : Int) (x : Option Addr) (m cx : Nat) (ls : List Ev) (y : Option Addr) (L cap : Nat) (os : List OpV) (w : World) (ha : (Lit.int .i64 a).wf = true) (hE : EventIn w x m cx ls) (_hb : m ≤ 2932031007403) (hO : OpIn w y L cap os) :
    Calls Try.prog 3 #[.int .i64 a, .slice x m cx, .slice y L cap] w fun e w' => e = .returned (.bool true) ∧ Below w.heap.size w w' := by
  obtain ⟨a0, a1⟩ := i64_of ha
  have hl : L ≤ 9223372036854775807 := by have := hO.2.1.1; have := hO.2.2.1; unfold maxLen at this; omega
  have HV := Lib.hid (live12_any w)
  obtain ⟨q, hq⟩ : ∃ q, q = min a 60 := ⟨_, rfl⟩
  have hmin : min a 60 = q := hq.symm
  have HF := Lib.hid (fun w1 (hb : Below w.heap.size w w1) => few_mem q x m cx y L cap os w1 ((hO.2.2.2.1.below hb).more hb.size) hO.1 hl (by omega))
  cases hf : fewB q m os
  · rw [hf] at HF
    clear hO hf hE hq
    go_enter Try.func3, Try.ntmps3
    go_wp2_with (first
      | (go_at_call 10; refine HV.out.mono ?_; clear HV; rintro e w1 ⟨rfl, hb1⟩; have B1 := Lib.hid hb1; clear hb1)
      | (go_at_call 11; refine (HF.out w1 B1.out).mono ?_; clear HF; rintro e w2 ⟨rfl, hb2⟩; have B2 := Lib.hid (below_on B1.out hb2); clear hb2))
    go_ret
    exact ⟨rfl, B2.out⟩
  · obtain ⟨h4, h2, h3, -⟩ := fewB_in hf
    by_cases hin : 1 ≤ a ∧ a ≤ 60
    · obtain ⟨n, rfl⟩ : ∃ n : Nat, a = (n : Int) := ⟨a.toNat, by omega⟩
      have hqn : q = (n : Int) := by omega
      rw [hqn] at hf
      exact does_in n x m cx ls y L cap os w (by omega) (by omega) h4 (by rw [← hO.1]; exact h3) hE hO hf
    · rw [hf] at HF
      clear hO hf hE hq h2 h3 h4
      by_cases hmid : 60 < a ∧ a ≤ 16384
      · have d1 : decide (60 < a) = true := by simpa using hmid.1
        have d2 : decide (a ≤ 16384) = true := by simpa using hmid.2
        go_enter Try.func3, Try.ntmps3
        go_wp2_with (first
          | (go_at_call 10; refine HV.out.mono ?_; clear HV; rintro e w1 ⟨rfl, hb1⟩; have B1 := Lib.hid hb1; clear hb1)
          | (go_at_call 11; refine (HF.out w1 B1.out).mono ?_; clear HF; rintro e w2 ⟨rfl, hb2⟩; have B2 := Lib.hid (below_on B1.out hb2); clear hb2))
        go_ret
        exact ⟨rfl, B2.out⟩
      · have hoff : a < 1 ∨ 16384 < a := by omega
        have K3 := Lib.hid (fun w1 => mNew_off a x m cx w1 hoff)
        have K4 := Lib.hid (fun w1 => rNew_off a x m cx w1 hoff)
        have hpart : decide (60 < a) = false ∨ (decide (60 < a) = true ∧ decide (a ≤ 16384) = false) := by
          simp only [decide_eq_true_eq, decide_eq_false_iff_not]; omega
        clear hin hmid hoff
        rcases hpart with d1 | ⟨d1, d2⟩
        all_goals
          go_enter Try.func3, Try.ntmps3
          go_wp2_with (first
            | (go_at_call 10; refine HV.out.mono ?_; clear HV; rintro e w1 ⟨rfl, hb1⟩; have B1 := Lib.hid hb1; clear hb1)
            | (go_at_call 11; refine (HF.out w1 B1.out).mono ?_; clear HF; rintro e w2 ⟨rfl, hb2⟩; have B2 := Lib.hid (below_on B1.out hb2); clear hb2)
            | (go_at_call 12; refine (K3.out w2).mono ?_; clear K3; rintro e w3 ⟨rfl, hb3⟩; have B3 := Lib.hid (below_on B2.out hb3); clear hb3)
            | (go_at_call 13; refine (K4.out w3).mono ?_; clear K4; rintro e w4 ⟨rfl, hb4⟩; have B4 := Lib.hid (below_on B3.out hb4); clear hb4))
          go_ret
          exact ⟨rfl, B4.out⟩

end Go.Proofs.Ytaphhgiocahnhaa
