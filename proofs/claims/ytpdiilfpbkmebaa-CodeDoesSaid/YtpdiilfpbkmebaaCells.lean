/-
  What vote.Cells comes to: the word of each three, and a fix of each word that is another one.
-/
import Derived.Test.YtpdiilfpbkmebaaVote
namespace Go.Proofs.Ytpdiilfpbkmebaa
open Go.RowKit

theorem cells_no (x : Option Addr) (n cap : Nat) (w : World) (h : 3072 < n) :
    Calls Try.prog 37 #[.slice x n cap] w (RetC w [] [] 1) := by
  have hd : decide ((3072 : Int) < (n : Int)) = true := by simp; omega
  go_enter Try.func37, Try.ntmps37
  go_wp2
  go_ret3
  exact ⟨_, _, rfl, Owns.nil, OwnsF.nil, (fun g e => by cases e), Below.refl _ _⟩

theorem cells_cut (x : Option Addr) (n cap : Nat) (w : World) (h : n ≤ 3072) (h3 : n % 3 ≠ 0) :
    Calls Try.prog 37 #[.slice x n cap] w (RetC w [] [] 6) := by
  have hd : decide ((3072 : Int) < (n : Int)) = false := by simp; omega
  obtain ⟨m, hm⟩ : ∃ m : Nat, (n : Int) % 3 = (m : Int) := ⟨n % 3, by omega⟩
  have hd3 : ((m : Int) != 0) = true := by rw [bne_iff_ne]; omega
  go_enter Try.func37, Try.ntmps37
  go_wp2
  go_ret3
  exact ⟨_, _, rfl, Owns.nil, OwnsF.nil, (fun g e => by cases e), Below.refl _ _⟩

theorem below_on' {w w' w'' : World} (h : Below w.heap.size w w') (h' : Below w'.heap.size w' w'') : Below w.heap.size w w'' := h.trans (h'.mono h.size)
/-- The three number k, as a slice. -/
theorem three_at {w : World} {b off : Nat} {xs : List Int} {B k : Nat} (hx : Reads .u64 w B (some ⟨b, off, none⟩) xs) : Reads .u64 w B (some ⟨b, off + 3 * k, none⟩) ((xs.drop (3 * k)).take 3) := (hx.drop (3 * k)).take 3
theorem three_len3 {xs : List Int} {k : Nat} (hk : 3 * k + 3 ≤ xs.length) : ((xs.drop (3 * k)).take 3).length = 3 := by simp; omega
theorem three_get {xs : List Int} {k j : Nat} (hj : j < 3) : ((xs.drop (3 * k)).take 3).getD j 0 = xs.getD (3 * k + j) 0 := by simp [List.getD_eq_getElem?_getD, hj]
theorem three_tells {xs : List Int} {k : Nat} (hk : 3 * k + 3 ≤ xs.length) : thW ((xs.drop (3 * k)).take 3) = wd xs k ∧ thP ((xs.drop (3 * k)).take 3) = pl xs k ∧ thE ((xs.drop (3 * k)).take 3) = lk xs k := by
  unfold thW thP thE wd pl lk
  rw [three_len3 hk, if_neg (by omega), if_neg (by omega), if_neg (by omega), three_get (by omega), three_get (by omega), three_get (by omega)]
  exact ⟨rfl, rfl, rfl⟩

theorem pl_cases (xs : List Int) (k : Nat) : pl xs k = [] ∨ ∃ p : Nat, p < 3 ∧ pl xs k = [(p : Int)] := by
  unfold pl p3
  split
  · split
    · exact .inl rfl
    · exact .inr ⟨0, by omega, rfl⟩
  · split
    · exact .inr ⟨1, by omega, rfl⟩
    · split
      · exact .inr ⟨2, by omega, rfl⟩
      · exact .inl rfl

set_option maxRecDepth 100000 in
set_option maxHeartbeats 4000000 in
theorem cells_ok (x : Option Addr) (n cap : Nat) (xs : List Int) (w : World) (hx : Reads .u64 w w.heap.size x xs) (hn : xs.length = n) (hc : n ≤ cap) (hcm : cap ≤ maxLen) (hl : n ≤ 3072) (h3 : n % 3 = 0) :
    Calls Try.prog 37 #[.slice x n cap] w (RetC w (clW xs) (clF xs) (clE xs)) := by
  have hcm' : cap ≤ 9223372036854775807 := hcm
  have hd : decide ((3072 : Int) < (n : Int)) = false := by simp; omega
  have hd3 : (n : Int) % 3 = 0 := by omega
  obtain ⟨m, hm⟩ : ∃ m : Nat, (n : Int) / 3 = (m : Int) := ⟨n / 3, by omega⟩
  have hm3 : n = 3 * m := by omega
  have hml : m ≤ 1024 := by omega
  have HX := Lib.hid hx
  have HN : Hid (xs.length = 3 * m) := Lib.hid (by omega)
  have HMD : Hid (xs.length / 3 = m) := Lib.hid (by omega)
  obtain ⟨i0, hi, hz0, hz1, hz2⟩ := info_parts info_u64
  clear hx hn
  go_enter Try.func37, Try.ntmps37
  go_wp2_with (refine wpList_make_own _ rfl _ _ 23 rfl w.heap.size 22 i0 (.int .u64 0) 1 Try.underlying23 hi hz0 hz1 .i64 .i64 _ m rfl rfl (by omega) (by rw [hz2]; omega) (by unfold maxLen; omega) (Nat.le_refl _) ?_; intro w1 hO1 hg1)
  have HO1 : Hid (Beside w w1 (.slice (some ⟨w.heap.size, 0, none⟩) 0 m) (.slice none 0 0) (wds xs 0) (fxs xs 0)) := Lib.hid ⟨hO1, OwnsF.nil, (fun g _ e => by cases e), (Below.refl _ _).grown hg1 (Nat.le_refl _) (fun g e => by cases e)⟩
  clear hO1 hg1
  go_loopw [5, 6, 28] (fun u1 u2 i wr => ∃ (k : Nat) (v1 v2 : Value), k ≤ m ∧ i = .int .i64 (k : Int) ∧ v1 = u1 ∧ v2 = u2 ∧ Hid (Beside w wr v1 v2 (wds xs k) (fxs xs k) ∧ ∀ j, j < k → lk xs j = 0)) (fun _ _ i _ => m - (intOf i).toNat)
  case atStart => exact ⟨0, _, _, Nat.zero_le _, rfl, rfl, rfl, Lib.hid ⟨HO1.out, fun j hj => by omega⟩⟩
  case round =>
    obtain ⟨k, v1, v2, hk, rfl, rfl, rfl, HI⟩ := hrel
    clear HO1
    by_cases hlt : k < m
    · have hdk : decide (k < m) = true := by simpa using hlt
      obtain ⟨b, off, rfl, hb, hcx⟩ := (HX.out.below HI.out.1.2.2.2) (by have := HN.out; omega)
      have HR := Lib.hid (HX.out.below HI.out.1.2.2.2)
      have hk3 : Hid (3 * k + 3 ≤ xs.length) := Lib.hid (by have := HN.out; omega)
      obtain ⟨s, hs⟩ : ∃ s : Nat, s = 3 * k := ⟨_, rfl⟩
      have hsz : (3 : Int) * (k : Int) = (s : Int) := by omega
      have hs1 : s + 3 ≤ n := by omega
      have hsc : ¬ cap = s := by omega
      have HT := Lib.hid (fun c => three_any (some ⟨b, off + s, none⟩) 3 c ((xs.drop (3 * k)).take 3) wr w.heap.size (by rw [hs]; exact three_at HR.out) (three_len3 hk3.out))
      rw [(three_tells hk3.out).1, (three_tells hk3.out).2.1, (three_tells hk3.out).2.2] at HT
      have HS := Lib.hid hs
      have HW := Lib.hid (wds_snoc xs k)
      have HF : Hid (fxs xs (k + 1) = fxs xs k ++ (pl xs k).map (fxo xs k)) := Lib.hid (fxs_snoc xs k)
      have HP := pl_cases xs k
      obtain ⟨ps, hps⟩ : ∃ ps, ps = pl xs k := ⟨_, rfl⟩
      rw [← hps] at HT HF HP
      obtain ⟨u, hu⟩ : ∃ u, u = wd xs k := ⟨_, rfl⟩
      rw [← hu] at HT HW
      have HU := Lib.hid hu
      have hE : lk xs k = 0 ∨ lk xs k = 10 := e3_cases _ _ _
      have HFL : Hid ((wds xs k).length ≤ 1024 ∧ (fxs xs k).length ≤ 1024) := Lib.hid (by have := wds_len xs k; have := fxs_len xs k; omega)
      clear hcx hs hps hu
      by_cases he : lk xs k = 0
      · have HE : Hid (∀ j, j < k + 1 → lk xs j = 0) := Lib.hid (fun j hj => by
          by_cases e : j = k
          · rw [e]; exact he
          · exact HI.out.2 j (by omega))
        rw [he] at HT
        clear he hE
        have HIB := Lib.hid HI.out.1
        clear HI
        obtain rfl | ⟨p, hp3, rfl⟩ := HP
        · go_wp2_with (first
            | (go_at_call 47; refine (HT.out _).mono ?_; rintro e w2 ⟨x2, c2, rfl, hO2, hB2⟩; have H2 := Lib.hid (HIB.out.quiet hB2); clear hO2 hB2)
            | (at_builtin; refine wpList_append_num rfl _ _ 23 rfl w.heap.size 22 i0 .u64 8 Try.underlying23 hi hz0 hz1 hz2 v1 _ rfl (H2.out.1.alloc _) ⟨w2.heap.size, 0, none⟩ 1 1 [u] rfl (src_one w2 .u64 22 u) (by omega) (by have := HFL.out; unfold maxLen; omega) (by have := HFL.out; omega) (by have := H2.out.2.2.2.size; simp; omega) ?_; intro v' w3 hO3 hg3 hat3))
          have H3 : Hid (Beside w w3 v' v2 (wds xs (k + 1)) (fxs xs (k + 1))) := Lib.hid (by
            rw [HW.out, HF.out, List.map_nil, List.append_nil]
            exact (H2.out.quiet (below_al (Below.refl _ _) _)).word hO3 hg3 hat3)
          clear hO3 hg3 hat3
          go_loopw [6, 52] (fun c j wi => j = .int .i64 0 ∧ v2 = c ∧ wi = w3) (fun _ _ _ => 0)
          case atStart => exact ⟨rfl, rfl, rfl⟩
          case round =>
            obtain ⟨rfl, rfl, rfl⟩ := hrel
            go_wp2
            go_roundw
            case rel => exact ⟨k + 1, _, _, by omega, by go_num, rfl, rfl, Lib.hid ⟨H3.out, HE.out⟩⟩
            case measure => simp [intOf]; omega
        · obtain ⟨a, ha⟩ : ∃ a : Nat, a = s + p := ⟨_, rfl⟩
          have hza : (s : Int) + (p : Int) = (a : Int) := by omega
          have ha1 : a < 3 * m := by omega
          obtain ⟨y, hy⟩ : ∃ y, y = xs.getD a 0 := ⟨_, rfl⟩
          have HY : Hid (fxs xs (k + 1) = fxs xs k ++ [⟨(a : Int), y, u⟩]) := Lib.hid (by
            rw [HF.out, List.map_cons, List.map_nil]
            unfold fxo
            rw [← HU.out, Int.toNat_natCast, ← HS.out, ← ha, ← hy, ← hza, HS.out]
            simp)
          have HLc : Hid (∀ W, Below w.heap.size w W → W.cell? ⟨b, off + a, none⟩ = some (.int .u64 y)) := Lib.hid (fun W hW => by
            obtain ⟨b', off', e, _, hc'⟩ := (HX.out.below hW) (by have := HN.out; omega)
            cases e
            rw [hy]
            exact hc' a (by have := HN.out; omega))
          clear ha hy HX HR
          go_wp2_with (first
            | (go_at_call 47; refine (HT.out _).mono ?_; rintro e w2 ⟨x2, c2, rfl, hO2, hB2⟩; have H2 := Lib.hid (HIB.out.quiet hB2); obtain ⟨x2', c2', e2, -, -, hr2, hf2⟩ := hO2.form; simp only [Value.slice.injEq] at e2; obtain ⟨rfl, -, rfl⟩ := e2; obtain ⟨g2, rfl, hg2, hg2'⟩ := hf2 (by simp); have hp2 := hO2.num rfl (j := 0) (by simp); clear hO2 hr2 hf2; have HG2 := Lib.hid (And.intro hg2 hg2'); clear hg2 hg2' hB2)
            | (at_builtin; refine wpList_append_num rfl _ _ 23 rfl w.heap.size 22 i0 .u64 8 Try.underlying23 hi hz0 hz1 hz2 v1 _ rfl (H2.out.1.alloc _) ⟨w2.heap.size, 0, none⟩ 1 1 [u] rfl (src_one w2 .u64 22 u) (by omega) (by have := HFL.out; unfold maxLen; omega) (by have := HFL.out; omega) (by have := H2.out.2.2.2.size; simp; omega) ?_; intro v' w3 hO3 hg3 hat3))
          have H3 : Hid (Beside w w3 v' v2 (wds xs (k + 1)) (fxs xs k)) := Lib.hid (by
            rw [HW.out]
            exact (H2.out.quiet (below_al (Below.refl _ _) _)).word hO3 hg3 hat3)
          have hp3' : w3.cell? ⟨g2, 0, none⟩ = some (.int .i64 (p : Int)) := by
            have h1 : w3.heap[g2]? = w2.heap[g2]? := (hg3.block g2 (by have := HG2.out; simp; omega) (fun c => by have := (HIB.out.1.inside c.symm).2; have := HG2.out.1; omega)).trans (Below.heap_alloc _ _ _ HG2.out.2)
            rw [World.cell?_of_block (w := w2) (w' := w3) h1]
            simpa using hp2
          clear hO3 hg3 hat3 hp2 H2
          go_loopw [6, 52] (fun c j wi => ∃ (q : Nat) (v : Value), j = .int .i64 (q : Int) ∧ v = c ∧ ((q = 0 ∧ wi = w3 ∧ v = v2) ∨ (q = 1 ∧ Hid (Beside w wi v' v (wds xs (k + 1)) (fxs xs (k + 1)))))) (fun _ j _ => 1 - (intOf j).toNat)
          case atStart => exact ⟨0, _, rfl, rfl, .inl ⟨rfl, rfl, rfl⟩⟩
          case round =>
            obtain ⟨q, v, rfl, rfl, ⟨rfl, rfl, rfl⟩ | ⟨rfl, H4⟩⟩ := hrel
            · have hcl := HLc.out _ H3.out.2.2.2
              have HS3 : Hid (w.heap.size ≤ wr.heap.size) := Lib.hid H3.out.2.2.2.size
              go_wp2_with (at_builtin; refine wpList_append_fx rfl _ _ rfl w.heap.size v _ rfl (H3.out.2.1.alloc _) ⟨wr.heap.size, 0, none⟩ 1 ⟨(a : Int), y, u⟩ rfl (cell_fx_new wr ⟨(a : Int), y, u⟩) (by have := HFL.out; omega) (by have := HS3.out; simp; omega) ?_; intro v5 w5 hO5 hg5 hat5)
              have H5 : Hid (Beside w w5 v' v5 (wds xs (k + 1)) (fxs xs (k + 1))) := Lib.hid (by
                rw [HY.out]
                exact (H3.out.quiet (below_al (Below.refl _ _) _)).fix hO5 hg5 hat5)
              clear hO5 hg5 hat5
              go_roundw
              case rel => exact ⟨1, v5, by go_num, rfl, .inr ⟨rfl, H5⟩⟩
              case measure => simp [intOf]
            · go_wp2
              go_roundw
              case rel => exact ⟨k + 1, _, _, by omega, by go_num, rfl, rfl, Lib.hid ⟨H4.out, HE.out⟩⟩
              case measure => simp [intOf]; omega
      · have he' : lk xs k = 10 := by omega
        have HE : Hid (clE xs = 10) := Lib.hid (clE_lost (by have := HN.out; omega) (by have := HN.out; omega) (k := k) (by rw [HMD.out]; omega) he)
        rw [he'] at HT
        clear he he' hE
        go_wp2_with (go_at_call 47; refine (HT.out _).mono ?_; rintro e w2 ⟨x2, c2, rfl, hO2, hB2⟩)
        go_ret3
        rw [clW_no (by rw [HE.out]; decide), clF_no (by rw [HE.out]; decide), HE.out]
        exact ⟨_, _, rfl, Owns.nil, OwnsF.nil, (fun g e => by cases e), below_on' HI.out.1.2.2.2 hB2⟩
    · obtain rfl : k = m := by omega
      have hdk : decide (k < k) = false := by simp
      have HE : Hid (clE xs = 0) := Lib.hid (clE_all (by have := HN.out; omega) (by have := HN.out; omega) (by rw [HMD.out]; exact HI.out.2))
      go_wp2
      go_ret3
      rw [clW_yes HE.out, clF_yes HE.out, HE.out, HMD.out]
      exact ⟨_, _, rfl, HI.out.1⟩

/-- Cells, of whatever words. -/
theorem cells_any (x : Option Addr) (n cap : Nat) (xs : List Int) (w : World) (hx : Reads .u64 w w.heap.size x xs) (hn : xs.length = n) (hc : n ≤ cap) (hcm : cap ≤ maxLen) :
    Calls Try.prog 37 #[.slice x n cap] w (RetC w (clW xs) (clF xs) (clE xs)) := by
  by_cases h : 3072 < xs.length
  · rw [clW_no (by rw [clE_many h]; decide), clF_no (by rw [clE_many h]; decide), clE_many h]
    exact cells_no x n cap w (by omega)
  · by_cases h3 : xs.length % 3 = 0
    · exact cells_ok x n cap xs w hx hn hc hcm (by omega) (by omega)
    · rw [clW_no (by rw [clE_cut (by omega) h3]; decide), clF_no (by rw [clE_cut (by omega) h3]; decide), clE_cut (by omega) h3]
      exact cells_cut x n cap w (by omega) (by omega)

end Go.Proofs.Ytpdiilfpbkmebaa
