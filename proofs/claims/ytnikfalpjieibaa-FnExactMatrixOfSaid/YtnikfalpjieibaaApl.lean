/-
  Lists of matrices: what is appended, what is made.
-/
import Derived.Test.YtnikfalpjieibaaMatS
import Derived.Test.YtnikfalpjieibaaMtA
namespace Go.Proofs.Ytnikfalpjieibaa
open Go.ChangeShapes Go.WideShapes Go.ChangeAt Go.RowKit
set_option linter.unusedVariables false
set_option linter.unusedSimpArgs false
section
variable {w w' : World} {base hi : Nat} {v : Value} {P : Int} {D k : Nat} {s : Nat → Nat × List Int}
theorem MatS.toR40 {lo hi' : Nat} (h : MatS w base hi v P D s k) (hlo : lo ≤ base) (hh : hi ≤ hi') (hsz : w.heap.size ≤ hi') (hk : k ≤ 40) (hD : D ≤ 40) (hs : ∀ i, (s i).1 ≤ D) (hl : ∀ i, (s i).2.length = (s i).1 * D) : ∃ a c, v = .slice a k c ∧ MatsR w lo hi' a k (serL P D s k) := by
  obtain ⟨vs, B, h1, h2, h3, h4⟩ := h
  have htot : (dats (serL P D s k)).flatten.length ≤ 1048576 := by
    have := flatten_bound 1600 (dats (serL P D s k)) (fun x hx => by
      simp only [dats, serL, List.map_map, List.mem_map, Function.comp] at hx
      obtain ⟨i, _, rfl⟩ := hx
      show (s i).2.length ≤ 1600
      rw [hl i]
      exact Nat.mul_le_mul (Nat.le_trans (hs i) hD) hD)
    rw [dats_length, serL_length] at this
    omega
  rcases h1.2 with ⟨e1, e2⟩ | ⟨g, cap, cur, e1, hb, hg, hn, hc, hcs, ht⟩
  · subst e2
    exact ⟨none, 0, e1, serL_length 0, htot, .inl rfl⟩
  · refine ⟨_, cap, e1, serL_length k, htot, .inr ⟨g, cur, fun i => some ⟨B i, 0, none⟩, fun i => ((vs[i * 4 + 3]?).map fun | .slice _ _ c => c | _ => 0).getD 0, rfl, by omega, Nat.lt_of_lt_of_le (Array.getElem?_eq_some_iff.1 hg).1 hsz, hg, fun i hi => ?_, fun i j b hi hj hne e => ?_⟩⟩
    · obtain ⟨c, x0, x1, x2, x3, h6⟩ := h3 i hi
      have hcell : ∀ q u, q < k * 4 → vs[q]? = some u → cur[q]? = some u := fun q u hq hu => by
        rw [← Array.getElem?_toList]
        have : (cur.toList.take (k * 4))[q]? = vs[q]? := by rw [ht]
        rw [List.getElem?_take, if_pos hq] at this
        rw [this, hu]
      rw [mt_serL hi]
      refine ⟨hcell _ _ (by omega) x0, hcell _ _ (by omega) x1, hcell _ _ (by omega) x2, ?_, ?_⟩
      · simp only [x3, Option.map_some, Option.getD_some]
        show cur[i * 4 + 3]? = some (.slice (some ⟨B i, 0, none⟩) (s i).2.length c)
        rw [hl i]; exact hcell _ _ (by omega) x3
      · show Own w lo hi' (some ⟨B i, 0, none⟩) (s i).2.length (s i).2
        rw [hl i]; exact h6.mono hlo hh
    · intro e9
      have e7 : B i = b := Option.some.inj e
      have e8 : B j = b := Option.some.inj e9
      rcases Nat.lt_or_gt_of_ne hne with h | h
      · have := h4 i j h hj; omega
      · have := h4 j i h hi; omega
end

theorem matS_nil (w : World) (base T : Nat) (hb : base ≤ w.heap.size) (P : Int) (D : Nat) (s : Nat → Nat × List Int) : MatS (w.alloc (.cells #[] 37)) base T (.slice (some ⟨w.heap.size, 0, none⟩) 0 0) P D s 0 :=
  ⟨[], fun _ => 0, World.ownsRow_lit w #[] 0 hb (by unfold maxLen; omega) (by simp), rfl, fun i hi => by omega, fun i j _ hj => by omega⟩
/-- Square matrices of one size. -/
def sqF (S : Nat) (F : Nat → List Int) : Nat → Nat × List Int := fun i => (S, F i)
/-- A list of k square matrices. -/
def sqM (P : Int) (S : Nat) (F : Nat → List Int) (k : Nat) : List Mat := serL P S (sqF S F) k
theorem sqM_length {P : Int} {S : Nat} {F : Nat → List Int} (k : Nat) : (sqM P S F k).length = k := serL_length k
theorem mt_sqM {P : Int} {S : Nat} {F : Nat → List Int} {k i : Nat} (hi : i < k) : mt (sqM P S F k) i = ⟨P, S, S, F i⟩ := mt_serL hi
theorem sqM_tot {P : Int} {S : Nat} {F : Nat → List Int} {k : Nat} (hS : S ≤ 40) (hk : k ≤ 40) (hl : ∀ i, (F i).length = S * S) : (dats (sqM P S F k)).flatten.length ≤ 1048576 := by
  have := flatten_bound 1600 (dats (sqM P S F k)) (fun x hx => by
    simp only [dats, sqM, serL, List.map_map, List.mem_map, Function.comp] at hx
    obtain ⟨i, _, rfl⟩ := hx
    show (F i).length ≤ 1600
    rw [hl i]
    exact Nat.mul_le_mul hS hS)
  rw [dats_length, sqM_length] at this
  omega
theorem sqM_congr {P : Int} {S : Nat} {F G : Nat → List Int} {k : Nat} (h : ∀ i, i < k → F i = G i) : sqM P S F k = sqM P S G k := by
  simp only [sqM, serL, sqF]
  exact List.map_congr_left (fun i hi => by rw [h i (List.mem_range.1 hi)])
theorem MatS.toL {w w0 : World} {base hi : Nat} {v : Value} {P : Int} {S k : Nat} {F : Nat → List Int} (h : MatS w base hi v P S (sqF S F) k) (hlo : w0.heap.size ≤ base) (hh : hi ≤ w.heap.size) (hk : k ≤ 40) (hS : S ≤ 40) (hl : ∀ i, (F i).length = S * S) : Rmats w0 w v (sqM P S F k) := by
  obtain ⟨a, c, e, hr⟩ := h.toR40 hlo hh (Nat.le_refl _) hk hS (fun i => Nat.le_refl _) (fun i => hl i)
  exact ⟨a, k, c, e, hr, by omega⟩
theorem MatsR.lower {w : World} {lo lo' hi : Nat} {a : Option Addr} {k : Nat} {ms : List Mat} (h : MatsR w lo hi a k ms) (hl : lo' ≤ lo) : MatsR w lo' hi a k ms := by
  refine ⟨h.1, h.2, ?_⟩
  rcases h.3 with h3 | ⟨g, cur, A, C, e1, e2, e3, e4, e5, e6⟩
  · exact .inl h3
  · exact .inr ⟨g, cur, A, C, e1, Nat.le_trans hl e2, e3, e4, fun i hi => ⟨(e5 i hi).1, (e5 i hi).2.1, (e5 i hi).2.2.1, (e5 i hi).2.2.2.1, (e5 i hi).2.2.2.2.mono hl (Nat.le_refl _)⟩, e6⟩
end Go.Proofs.Ytnikfalpjieibaa
